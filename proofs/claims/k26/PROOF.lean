import PyProof.Rows.All
import KE.KFromBytes
import KE.KIsAll
import Wide.FinOn
import Open.Pieces
import OpenK.KLine
import PyProof.EqAt
import PyProof.EqKinds
import PyProof.TupleCall
import PyProof.Seq
import PyProof.RangeIter
import PyProof.TupleIter
import PyProof.Rows.TupIter
import PyProof.StationsW
import PyProof.ExcClass2
import PyProof.NeKinds
import PyProof.Rows.TupMore
import PyProof.AutoSeq1
import PyProof.ZipIter
import PyProof.StrWalks
import PyProof.StrBlock2
import PyProof.StrBlockI
import PyProof.StrLaws
import PyProof.SliceStr2
import PyProof.Rows.Range3
import PyProof.Rows.StrRev
import PyProof.ConsumeWalk
import PyProof.Rows.SortShellK
import PyProof.Rows.SortRev
import PyProof.SeqI3
import PyProof.Rows.SeqGen
import PyProof.Rows.SortRunsK
import KE.KEqDict
import KE.KLam
import KE.KMinKey
import KE.KNestM
import PyProof.ListRange
import PyProof.DictWalks
import PyProof.DictTable
import Lean
import PySem.Challenge.RW_balepress_k26_openers_refused
set_option compiler.extract_closed false
set_option compiler.small 0
section
set_option bootstrap.genMatcherCode false
set_option maxRecDepth 100000
open PySem renaming Addr → RA, Value → RC, Shared → RD, Program → RE, World → RF, FuncData → RG, Around → RH, Heap → RI, Expr → RJ, Obj → RK, Stmt → RM
open PySem.W (mg_of instObj methodObj Frag lookIn InstAt plainGet hasDictIn findIn handedIn isFn plainOver takerIn makesIn typeIn InitBack emptyDict make_core Looks keepIn specialIn takesIn mroIn kitOne kitx_list kitx_dict fnOf codeIn codeRec_of clsIn tailIn nsOkIn nsIn findObj KitX oi_run kitMeta CodeHd binds_K)
set_option bootstrap.genMatcherCode false
set_option linter.all false
set_option Elab.async false
def gG {T:Prop}(h:∀G:Prop,(T->G)->G):T:=h T id
set_option tactic.hygienic false
set_option bootstrap.genMatcherCode false
abbrev _root_.Jaa:List PySem.Str:=["self"]
abbrev _root_.Jab:List PySem.Str:=["thing","least","most"]
abbrev _root_.Jac:List PySem.Str:=["self","bits","text","before"]
abbrev _root_.Jad:List PySem.Str:=["self","reader","count","before"]
abbrev _root_.Jae:List PySem.Str:=["text","before"]
abbrev _root_.Jaf:List PySem.Str:=["lengths"]
abbrev _root_.Jag:List PySem.Str:=["_law_text","_law_back"]
abbrev _root_.Jah:List PySem.Str:=["thing"]
abbrev _root_.Jai:List PySem.Str:=["_law_text","_law_cell"]
abbrev _root_.Jaj:List PySem.Str:=["self","row"]
abbrev _root_.Jak:List PySem.Str:=["_law_row","_law_parts_here","_law_at","_law_due"]
abbrev _root_.Jal:List PySem.Str:=["size"]
abbrev _root_.Jam:List PySem.Str:=["row","place","size"]
abbrev _root_.Jan:List PySem.Str:=["signs","back","size","end"]
namespace L2
open PySem
inductive V where
 |non|bl (b:Bool)|int (i:Int)|str (x:Str)|byt (b:Array UInt8)|flt (b:UInt64)|ref (a:RA)|ty (n:String)
 deriving DecidableEq
end L2
namespace W16
open PySem
inductive Pc where
 |sg (s:Nat)
 |cp (b z:Nat)
 deriving DecidableEq
end W16
section
def Mq.W (s:Lean.Syntax) (f:Lean.Syntax→Lean.Syntax):=s.rewriteBottomUp f
def Mq.V (a:Array Lean.Syntax) (f:Lean.Syntax→Lean.Syntax):=a.map f
def Mq.F (s:Lean.Syntax) (f:Lean.Syntax→Bool):=(s.find? f).getD .missing
def Mq.G {σ} (i:σ) (a:Array Lean.Syntax) (f:σ→Lean.Syntax→σ):=a.foldl f i
local macro_rules|`(mutual $c* end)=>do
 let q s:=("Lean.Parser."++s).toName
 let A:=q "Term.app"
 let n a:=Lean.mkNullNode a
 let C:=q "Term.anonymousCtor"
 let B:=q "Term.byTactic"
 let H:=q "Term.paren"
 let L:=q "Term.tuple"
 let S:=q "Tactic.show"
 let U:=q "Command.universe"
 let u k a:Lean.Syntax:=.node .none (q k) a
 let v:=Lean.mkAtom
 let E (x:Lean.Syntax):=x.isOfKind A&&x[0].isOfKind (q "Term.hole")
 let a (f:Lean.Syntax) x:Lean.Syntax:=if f.isOfKind A then .node .none A #[f[0],n (f[1].getArgs++x)] else .node .none A #[f,n x]
 let P s:=Mq.W s λ s=>
  let k:=s.getKind
  if k==A then a s[0] (Mq.G #[] s[1].getArgs λ o x=>o++if x.isOfKind A then #[x[0]]++x[1].getArgs else #[x])
  else if k==`«term__[_]» then if s[2].isOfKind H then s.setArg 2 s[2][1] else a s[0] #[s[2]]
  else if k==L&&s[1].getNumArgs>0 then .node .none C #[v "⟨",n (#[s[1][0],s[1][1]]++s[1][2].getArgs),v "⟩"]
  else if k==H&&s[1].isOfKind C then .node .none L #[s[0],n #[s[1][1][0],s[1][1][1],n (s[1][1].getArgs.extract 2 s[1][1].getNumArgs)],s[2]]
  else s
 let R (s:Lean.Syntax):Lean.Syntax:=
  if s.isAtom then v ";"
  else if s.isOfKind B then u "Tactic.paren" #[v "(",s[1],v ")"]
  else if s.isOfKind `«term[_]» then u "Tactic.rwSeq" #[v "rw",u "Tactic.optConfig" #[n #[]],u "Tactic.rwRuleSeq" #[v "[",n (Mq.V s[1].getArgs λ r=>if r.isAtom then r else if r.isOfKind `«term-_» then u "Tactic.rwRule" #[n #[v "←"],r[1]] else u "Tactic.rwRule" #[n #[],r]),v "]"],n #[]]
  else if s.isOfKind `«term_=_» then
   let p:=s[0]
   if p.isOfKind C then
    let w x y:=u "Tactic.rcasesPatLo" #[u "Tactic.rcasesPatMed" #[n #[u ("Tactic.rcasesPat."++x) y]],n #[]]
    u "Tactic.obtain" #[v "obtain",n #[(Mq.W p λ t=>if t.isIdent then w "one" #[t] else if t.isOfKind (q "Term.hole") then w "ignore" #[t[0]] else if t.isOfKind C then w "tuple" t.getArgs else t)[0]],n #[],n #[v ":=",n #[s[2]]]]
   else u "Tactic.tacticHave__" #[v "have",u "Term.letConfig" #[n #[]],u "Term.letDecl" #[u "Term.letIdDecl" #[u "Term.letId" #[if p.isIdent then p else p[1]],n #[],n (if p.isIdent then #[] else #[u "Term.typeSpec" #[v ":",p[3][0]]]),v ":=",s[2]]]]
  else if (Mq.F s (·.isOfKind (q "Term.syntheticHole"))).getNumArgs>0 then u "Tactic.refine" #[v "refine",s] else u "Tactic.exact" #[v "exact",s]
 return n (Mq.G (({}:Lean.NameMap (Array Lean.Name×Lean.Syntax)),#[]) ((Mq.F c[0]! (·.isOfKind (q "Term.matchAlts")))[0].getArgs++(c.extract 1 c.size).map (·.raw)) λ (m,o) t=>
 let w:=t.isOfKind (q "Term.matchAlt")
 let b:=Mq.W (P (if w then t[3] else t)) λ s=>
  let s:=s.setInfo .none
  let k:=s.getKind
  if s.isIdent then match m.find? s.getId with|some (#[],b)=>b|_=>match m.find? s.getId.getRoot with|some (#[],b)=>if b.isIdent then Lean.mkIdent (s.getId.replacePrefix s.getId.getRoot b.getId) else s|_=>s
  else if k==C then s.setArg 1 (n (Mq.G #[] s[1].getArgs λ o x=>if E x then Mq.G o x[1].getArgs λ o x=>if o.size%2==1 then o.push (v ",")|>.push x else o.push x else o.push x))
  else if k==A then
   let x:=Mq.G #[] s[1].getArgs λ o x=>if E x then o++x[1].getArgs else o.push x
   let (h,x):=match m.find? s[0].getId with
    |some (p,b)=>(Mq.W b λ t=>if t.isIdent then ((p.zip x).toList.lookup t.getId).getD t else t,x.extract p.size x.size)
    |_=>(s[0],x)
   if x.isEmpty then h else a h x
  else if k==S&&s[1].isOfKind B then u "Tactic.paren" #[v "(",s[1][1],v ")"]
  else if k==S&&s[1].isOfKind C then u "Tactic.paren" #[v "(",u "Tactic.tacticSeq" #[u "Tactic.tacticSeq1Indented" #[n (Mq.V s[1][1].getArgs R)]],v ")"]
  else if k==q "Term.arrow" then u "Term.depArrow" #[u "Term.explicitBinder" #[v "(",n #[Lean.mkIdent `_a],n #[v ":",s[0]],n #[],v ")"],v "→",s[2]]
  else if k==q "Term.basicFun" then s.setArg 0 (n (Mq.V s[0].getArgs λ x=>if x.isOfKind (q "Term.hole") then Lean.mkIdent `_a else x))
  else if k==U then u "Command.end" #[v "end",if s[1][0].getId==`s then n #[] else n #[s[1][0],n #[]]]
  else s
 if w then
  let p:=t[1][0][0]
  (if p.isIdent then m.insert p.getId (#[],b) else m.insert p[0].getId (p[1].getArgs.map (·.getId),b),o)
 else (m,o.push (if (b[1].isOfKind (q "Command.definition")||b[1].isOfKind (q "Command.abbrev"))&&b[0][4].getNumArgs==0&&(Mq.F b (·.getId.toString.endsWith "_auto_1")).isMissing then b.setArg 0 (b[0].setArg 4 (n #[u "Command.noncomputable" #[v "noncomputable"]])) else b))).2
mutual
example:=λ
|JN=>Nat.add_le_add
|JO=>List.length_map
|JP=>List.length_append
|JQ=>Nat.le_of_eq
|JS=>Nat.le_antisymm
|JT=>List.append_assoc
|JU=>Nat.mul_le_mul_left
|JV=>PySem.wpAny_bind
|JW=>Nat.le_trans
|JX=>List.getElem?_eq_getElem
|JY=>decide_eq_true
|JZ=>Nat.le_refl
|J5=>of_decide_eq_true
|J6=>Nat.lt_of_lt_of_le
|J7=>List.length_take
|J8=>List.map_append
|J9=>PySem.Heap.get?_push_of_some
|Ka=>List.getElem?_eq_some_iff
|Kb=>List.getD_eq_getElem?_getD
|Kc=>List.length_drop
|Kf=>List.mem_cons_of_mem
|Kg=>List.take_of_length_le
|Kh=>if_neg
|Ki=>List.length_cons
|Kj=>List.mem_cons_self
|Kk=>Nat.lt_of_lt_of_eq
|Km=>List.mem_append_right
|Kn=>PySem.wpAny_pure
|Ko=>List.size_toArray
|Kp=>List.pairwise_append
|Kq=>if_pos
|Kr=>Option.some.inj
|Ks=>Nat.le_of_lt
|Kt=>List.mem_cons
|Ku=>List.append_nil
|Kv=>List.filter_cons_of_pos
|Kw=>Nat.lt_of_le_of_lt
|Kx=>List.mem_append
|Ky=>List.take_append_drop
|Kz=>Nat.min_le_left
|KA=>List.mem_of_mem_take
|KB=>Nat.mul_div_le
|KC=>Nat.min_le_right
|KD=>List.mem_singleton
|KF=>Bool.false_ne_true
|KG=>Int.toNat_natCast
|KH=>List.filter_cons_of_neg
|KI=>PySem.PassesOwn.never
|KJ=>PySem.Heap.lt_size
|KL=>Nat.le_add_right
|KM=>List.getElem?_append_right
|KN=>List.nil_append
|KO=>Nat.zero_le
|KP=>List.filter_append
|KQ=>PyProof.Rows.wpS_pure
|KR=>Nat.lt_or_ge
|KS=>List.getElem?_map
|KU=>PySem.F.plainAttrs_list
|KW=>Nat.le_of_not_lt
|KY=>Nat.min_eq_left
|KZ=>List.getElem?_eq_none
|K0=>List.take_length
|K1=>PySem.Heap.get?_push_size
|K2=>List.length_replicate
|K3=>Nat.le_of_ble_eq_true
|K4=>Array.toList_append
|K5=>Int.natCast_nonneg
|K6=>beq_iff_eq
|K7=>Nat.mod_lt
|K8=>List.mem_of_mem_drop
|K9=>List.mem_iff_getElem
|Lb=>PySem.F.slot_list_append
|Lc=>Nat.ne_of_lt
|Ld=>List.getElem?_append_left
|Lf=>PySem.F.type_list_append
|Lg=>List.mem_append_left
|Lh=>Nat.mul_assoc
|Lj=>Nat.add_sub_of_le
|Lk=>List.take_add_one
|Ll=>List.drop_eq_getElem_cons
|Lm=>Nat.add_assoc
|Ln=>List.take_append_of_le_length
|Lq=>List.mem_of_getElem?
|Lr=>Nat.zero_add
|Lu=>Nat.div_add_mod
|Lx=>Nat.mul_comm
|Ly=>PyProof.Rows.boot_list
|Lz=>PySem.Heap.get?_update_other
|LA=>Nat.pow_succ
|LC=>List.pairwise_iff_getElem
|LD=>Nat.lt_of_le_of_ne
|LF=>List.replicate_succ
|LG=>List.flatten_cons
|LH=>Nat.sub_succ_lt_self
|LI=>Nat.lt_of_succ_lt
|LJ=>Nat.ne_of_gt
|LK=>Nat.sub_le
|LL=>decide_eq_false
|LM=>Nat.le_add_left
|LN=>Nat.xor_lt_two_pow
|LO=>Array.length_toList
|LP=>PySem.wpAny_field
|LQ=>Nat.le_of_lt_succ
|LS=>Nat.lt_of_succ_le
|LU=>Nat.le_add_right_of_le
|LV=>List.getElem?_set_self
|LW=>PySem.mem_of_lookup
|LX=>List.drop_append_of_le_length
|LY=>Nat.add_le_add_right
|LZ=>PySem.wpAny_mono
|L5=>List.map_cons
|L6=>Nat.add_sub_cancel_left
|L7=>PyProof.Rows.boot_isinstance
|L8=>List.length_eq_zero_iff
|L9=>PySem.wpAny_holding
|Mb=>List.drop_eq_nil_of_le
|Mc=>Nat.pow_le_pow_right
|Md=>Nat.pow_pos
|Mf=>PyProof.Rows.slot_tuple_getitem
|Mj=>Nat.sub_lt_of_lt
|Ml=>List.length_range
|Mm=>Nat.lt_add_of_pos_right
|Mn=>Nat.add_lt_of_lt_sub'
|Mp=>Nat.sub_lt_sub_left
|Mq=>List.flatten_append
|Mr=>Nat.mod_eq_of_lt
|Ms=>List.getElem_mem
|Mt=>Bool.false_eq_true
|Mu=>List.pairwise_cons
|Mv=>List.map_map
|Mw=>Array.getElem?_eq_some_iff
|Mx=>Nat.min_eq_right
|My=>Nat.lt_succ_self
|Mz=>Nat.le_of_succ_le
|MB=>List.ext_getElem?
|MC=>List.drop_drop
|MD=>List.filter_eq_nil_iff
|ME=>List.map_drop
|MF=>List.map_take
|MG=>Nat.lt_irrefl
|MJ=>List.cons.inj
|MK=>PySem.wpAny_Call_Name_kw
|ML=>Nat.pow_add
|MM=>Nat.add_comm
|MN=>Nat.succ_pos
|MO=>PySem.Heap.get?_update_self
|MP=>PySem.W.kia_one
|MQ=>PyProof.Rows.wpS_forRange
|MR=>List.drop_zero
|MS=>List.take_append
|MT=>Nat.xor_assoc
|MU=>PySem.wpAny_callSpecial?_slot
|MV=>Nat.lt_succ_of_le
|MW=>List.getElem_take
|MX=>List.reverse_reverse
|MY=>List.mem_map
|MZ=>PySem.Obj.data_mapFields
|M0=>Nat.le_of_succ_le_succ
|M1=>PySem.F.plain_min_loop
|M2=>PySem.Heap.get?_update_ne
|M3=>le_of_eq_of_le
|M4=>Nat.exists_eq_add_of_le
|M5=>Nat.add_le_add_iff_left
|M6=>Int.ofNat_sub
|M7=>List.mem_filter
|M8=>Nat.le_succ
|M9=>PySem.F.slot_list_extend
|Nd=>PyProof.Rows.callWith_type1
|Nf=>Nat.succ_pred_eq_of_ne_zero
|Ng=>Nat.sub_one_lt_of_lt
|Ni=>Nat.sub_le_sub_right
|Nj=>Nat.le_sub_one_of_lt
|Nk=>Array.toList_reverse
|Nn=>Nat.sub_self
|No=>Nat.testBit_eq_decide_div_mod_eq
|Np=>PyProof.Rows.wpS_mono
|Nq=>Nat.add_lt_add_left
|Nu=>List.foldl_append
|Nv=>Nat.add_le_add_left
|Ny=>PySem.wpAny_setField
|Nz=>List.getElem_append_right
|NA=>Nat.add_zero
|NB=>Ne.symm
|NC=>PySem.W.methodCall_KW
|ND=>PySem.Obj.isFreed_of_fields
|NE=>List.getElem?_drop
|NG=>List.getElem_append_left
|NH=>PySem.F.type_list_extend
|NI=>Nat.add_mul
|NJ=>Eq.symm
|NK=>Nat.mul_add
|NM=>Nat.succ_le_succ
|NN=>List.cons_append
|NO=>List.count_eq_zero_of_not_mem
|NP=>List.getElem?_set_ne
|NQ=>Nat.sub_zero
|NR=>Nat.xor_comm
|NS=>Int.ofNat_lt
|NU=>Nat.lt_trans
|NV=>PySem.wpAny_newObj_type
|NX=>PySem.wpAny_truthy_bool
|NY=>List.getElem_drop
|NZ=>List.sum_append
|N1=>List.getElem?_range
|N2=>List.length_set
|N3=>Option.map_some
|N4=>beq_eq_false_iff_ne
|N5=>PySem.W.callWith_K0
|N6=>List.reverse_append
|N7=>Nat.lt_of_not_le
|N8=>PySem.wpAny_call_entry
|N9=>List.length_singleton
|Oa=>Nat.sub_eq_iff_eq_add
|Ob=>List.getElem?_take
|Oc=>List.length_filter_le
|Od=>mg_of
|Of=>Nat.sub_add_cancel
|Og=>Nat.add_sub_self_left
|Oh=>Nat.eq_zero_or_pos
|Oi=>PySem.W.callWith_K
|Oj=>Nat.eq_sub_of_add_eq'
|Ol=>List.take_zero
|Om=>PySem.sizeLine_eq
|Oo=>Nat.mul_lt_mul_right
|Oq=>List.take_sublist
|Os=>List.count_append
|Ot=>PySem.wpAny_rule
|Ou=>PySem.wpAny_execs_nil
|Ow=>PySem.wpAny_passesOwn
|Ox=>Nat.and_two_pow_sub_one_eq_mod
|Oy=>List.getElem?_replicate
|Oz=>PySem.Paired.length
|OA=>PySem.wpAny_attempt
|OB=>List.length_reverse
|OC=>Nat.shiftLeft_eq
|OD=>Bool.and_eq_true
|OE=>List.perm_middle
|OF=>List.mem_reverse
|OG=>List.mem_range
|OH=>List.flatten_singleton
|OI=>Nat.eq_zero_of_not_pos
|OJ=>Nat.add_sub_cancel
|OK=>Nat.zero_mul
|OL=>Nat.le_add_left_of_le
|OM=>List.length_zip
|ON=>List.length_nil
|OO=>Bool.eq_iff_iff
|OP=>List.find?_cons
|OQ=>List.singleton_append
|OR=>if_false
|OS=>List.sum_cons
|OU=>Nat.lt_succ_of_lt
|OV=>Nat.sub_pos_of_lt
|OW=>Nat.div_lt_of_lt_mul
|OX=>PySem.W.looks_findIn
|OY=>List.perm_cons_erase
|OZ=>Nat.eq_sub_of_add_eq
|O0=>PySem.boot_len
|O1=>List.drop_left
|O2=>PySem.Heap.size_push
|O3=>PySem.wpAny_seqItems
|O4=>PySem.wpAny_tryCatch
|O5=>List.extract_eq_take_drop
|O6=>Nat.div_eq_of_lt
|O7=>Int.lt_of_not_ge
|O8=>List.take_set_of_le
|O9=>List.map_congr_left
|Pd=>PySem.wpAny_isSubtype_exc
|Pe=>PySem.Heap.SameBut.update
|Pf=>PySem.codeAny_mono
|Ph=>Int.neg_ofNat_le_natCast
|Pi=>Array.size_setIfInBounds
|Pj=>List.count_cons
|Pk=>Nat.pow_succ'
|Pm=>List.range_succ
|Pn=>List.count_pos_iff
|Pq=>Nat.pos_of_ne_zero
|Pw=>List.take_left'
|Px=>PyProof.Rows.boot_tuple
|Py=>List.set_eq_take_append_cons_drop
|Pz=>List.of_mem_zip
|PD=>PyProof.Rows.listUpdate_at
|PF=>PyProof.Rows.get?_update_seq
|PH=>List.nodup_cons
|PJ=>PySem.tupleKind_room_in1
|PK=>PySem.codeAny_builtin
|PN=>PySem.slot_listiter_next
|PP=>of_decide_eq_false
|PQ=>List.take_succ_eq_append_getElem
|PU=>Nat.div_div_eq_div_mul
|PV=>Nat.testBit_lt_two_pow
|PX=>PyProof.Rows.bitAnd_pp
|PY=>Nat.mod_eq_sub_mul_div
|PZ=>PyProof.noPylong_small
|P0=>List.drop_of_length_le
|P1=>PySem.W.cellsFrom_some
|P2=>PySem.F.entry_min_loop
|P3=>List.pairwise_map
|P4=>PySem.wpAny_call
|P5=>PySem.wpAny_loadPart_at
|P6=>Nat.add_sub_assoc
|P7=>Nat.lt_add_one
|P8=>Nat.le_div_iff_mul_le
|P9=>Nat.le_total
|Qa=>PyProof.Rows.boot_min
|Qb=>Int.ofNat_add_one_out
|Qc=>Nat.lt_of_sub_eq_succ
|Qd=>List.mem_of_mem_erase
|Qe=>Nat.add_le_of_le_sub'
|Qf=>Nat.sub_eq_zero_of_le
|Qg=>Array.getElem?_toList
|Qh=>List.exists_mem_of_length_pos
|Qi=>List.not_mem_nil
|Qj=>List.eq_nil_of_length_eq_zero
|Qk=>List.map_snd_zip
|Ql=>PySem.W.any_some
|Qm=>Nat.le_of_not_ge
|Qn=>PySem.wpAny_isInstance
|Qo=>Nat.mul_le_mul_right
|Qp=>PySem.Around.under_plainId
|Qq=>Array.toList_extract
|Qr=>Int.ofNat_inj
|Qu=>Int.ofNat.inj
|Qv=>Nat.mul_add_div
|Qw=>Nat.testBit_xor
|Qx=>Nat.not_lt_zero
|Qy=>List.filter_map
|Qz=>Int.ofNat_add_ofNat
|QA=>List.mem_map_of_mem
|QB=>PySem.wpAny_letGo
|QC=>List.filterMap_cons
|QD=>PySem.W.plainGet_of
|QE=>PySem.F.slot_enumerate_next
|QF=>Nat.sub_le_sub_left
|QG=>Nat.mod_mul_right_div_self
|QH=>Nat.mod_two_eq_zero_or_one
|QI=>Int.fdiv_eq_ediv_of_nonneg
|QJ=>Nat.le_of_add_le_add_right
|QK=>Array.toList_setIfInBounds
|QL=>List.map_nil
|QM=>Nat.mul_zero
|QN=>Nat.xor_self
|QO=>Nat.xor_zero
|QP=>Int.ofNat_le
|QR=>List.map_inj_right
|QS=>Option.toList_some
|QT=>Int.natAbs_natCast
|QU=>Nat.sub_right_comm
|QV=>Nat.shiftLeft_xor_distrib
|QW=>Nat.lt_trichotomy
|QX=>Nat.not_lt
|QY=>Nat.zero_lt_of_lt
|QZ=>Bool.not_eq_true'
|Q0=>Option.isSome_map
|Q1=>Nat.mul_left_comm
|Q2=>Array.toList_push
|Q3=>List.drop_sublist
|Q4=>List.take_add
|Q5=>List.perm_nil
|Q6=>List.filter_cons
|Q7=>Nat.not_le_of_lt
|Q8=>List.drop_length
|Q9=>List.mem_flatMap
|Ra=>List.drop_append
|Rc=>PySem.W.makes_of
|Rf=>Nat.sub_add_comm
|Rg=>Nat.lt_add_right
|Rh=>Nat.max_eq_right
|Rj=>Int.min_eq_left
|Rk=>List.map_const'
|Rl=>Nat.pow_zero
|Rm=>Int.natCast_pos
|Rp=>Int.le_of_lt
|Rq=>List.foldl_cons
|Rr=>Bool.false_and
|Rt=>List.take_left
|Ru=>Nat.mul_le_mul
|Rv=>Bool.and_false
|Rw=>Nat.mod_one
|Rx=>Int.one_mul
|Ry=>Eq.trans
|xAD ζ=>.a[.v ζ]
|À=>_ ζ η
|Ê=>_ À θ
|ĉ=>_ Ê ι
|_Y=>_ ĉ μ ν
|dN ζ η θ ι μ ν=>NL.by' _Y rfl
|BO ζ η θ ι=>by show((_,_,ζ)=η,(_,_,θ)=ι)
|LE=>List Nat
|Sc ζ η=>by show([ζ],η)
|υ ζ=>some[.ref ζ]
|vd ζ η=>xAD ζ[.n η]
|SZ=>.v 0
|ST=>.v 1
|Gj ζ η=>by refine ζ;clear η
|Ak ζ=>some[.lst ζ]
|Υ ζ η=>by refine ζ;refine η
|Ψ ζ=>(ζ:Int)
|LT=>some o
|SL ζ η θ ι=>by have ζ:η:=θ;refine ι
|Xo ζ η θ=>NL.of0 Ê rfl
|Ty ζ η θ ι=>by show(ζ=η,θ=ι)
|EN ζ η θ=>upd À[.lst θ]
|D8 ζ η=>.a ζ[.n η]
|XL=>.v 2
|xAE ζ=>vd ζ 1
|UF ζ η=>ζ=some η
|Č=>_ ζ η
|De ζ η=>(_,Č)
|JK ζ η=>by obtain⟨ζ,rfl⟩:=η
|SB ζ η θ ι μ ν=>by show((ζ:η)=θ,(ι:μ)=ν)
|yD ζ=>ac[pv ζ]
|zdy=>_ ĉ μ
|Dd ζ η θ ι μ ν ξ=>dN zdy[JN ν ξ]
|Tm=>xAE 0
|Wp=>Array Keyed
|dJ ζ=>(ζ,rfl)
|A8 ζ η θ=>by rw [ζ] at η;cases θ
|xwW ζ η=>wpAny[model À]
|Gi ζ η=>.a[.m À]
|AY ζ=>(ζ).map vN
|A3 ζ η θ=>by rw [ζ] at η;exact θ
|SC=>List V
|EM ζ=>.a[.n ζ]
|Ν ζ=>some[vN ζ]
|AN=>.var rfl
|xFH ζ η=>ar[λ _ ζ=>η]
|BM=>hr.mono Z9
|A7=>xAD 0
|xAF ζ=>Inv ζ RN
|Δ=>A7 ST
|EF ζ η θ ι μ ν=>by show((ζ,η)=θ,(ι,μ)=ν)
|WJ=>λ _ _=>rfl
|fH ζ η=>by refine ζ;intro η
|Au ζ=>by exact(ζ)
|AB=>pv 0
|Fy ζ=>ζ->Prop
|π=>Gj[gZ ?_] gZ
|rW ζ η=>List[ζ×η]
|sS ζ=>ζ≤sizeLine
|xAG ζ η=>{cls:=.type ζ,data:=η}
|AM ζ=>autoParam ζ xe1
|Ù=>_ η θ
|Eh ζ η θ=>ad[xlJ (i:=ζ) Ù]
|B9 ζ=>ac ζ xrU
|xUo ζ=>.ins ζ dx
|Ζ ζ η=>by rw [ζ];refine η
|zeJ=>_ ζ X.env
|sR ζ=>starEach zeJ
|AX ζ η=>by exact(ζ,η)
|xUp=>Option RC
|Dk=>.v 3
|Aj=>.ref a
|AV=>xAD 1
|DF ζ η θ ι μ ν=>NL.K'[dN _Y]
|du=>λ _ _=>False
|TL=>by refine gG[λ _ gZ=>?_]
|Dv ζ η=>by exact absurd À
|d6 ζ=>by show ζ;decide
|xLH=>List.mem_append.1
|Cj ζ=>ag[xfl ζ]
|vc ζ η θ=>xzf Ê mg base
|xAH ζ=>xAF ζ σ
|CZ ζ η=>(ζ++η).length
|rV ζ=>(ζ:Nat)
|Tl ζ=>Ψ[rV ζ]
|BZ ζ=>.inl[RV.of ζ]
|HD ζ η θ ι μ=>by show((Č,θ)=ι,μ)
|Κ ζ η=>Sc[ak ζ] η
|XV ζ η θ=>xux À[xrT θ]
|Hm=>.ref l
|χ=>pv 1
|ω ζ η θ=>by have ζ:=η;refine θ
|va ζ=>eval zeJ
|Iw ζ=>(ζ:Str)
|CR=>s.heap.get? b
|Fx ζ η θ ι μ=>by have ζ:η:=θ;generalize ι=μ at*
|UV ζ η=>λ ζ η=>?_
|xLI ζ=>(List.range ζ).map
|IE=>Int.ofNat_le.2
|DM ζ η θ ι=>if ζ=η then θ else ι
|ya6 ζ η=>UF[X.env.cells.lookup ζ] η
|dR ζ η θ=>by obtain⟨ζ,η,rfl⟩:=θ
|DE ζ η θ ι μ ν ξ=>Au[Dd _Y ξ]
|Η=>xAE 1
|HC ζ η θ=>UF ζ[η]? θ
|DT ζ=>De ζ ?_
|Γ ζ η θ=>by show([ζ,η],θ)
|Fh ζ η=>(List.replicate À).flatten
|FU ζ η=>by subst ζ;exact η
|zdg=>_ es X.env
|de=>AM ((backTo pos[starEach zdg]).any (·.1)=false)
|lh ζ η θ=>by(rcases Kt.mp ζ with η|θ)
|Φ=>AV XL
|va6=>_ Č θ
|DS ζ η θ ι μ=>by show((va6,ι)=μ,π)
|Dj ζ η θ ι μ ν=>by show((va6,ι)=μ,ν)
|vW ζ=>yD ζ xrU
|lF ζ η=>∀x∈ζ,η
|Dc=>.ref p
|sP=>ò T
|Hl ζ η=>UF ζ[.tup η]
|Bg ζ η θ ι μ ν=>Au[dN _Y]
|x2n ζ=>am (o:=ζ)
|DI ζ=>x2n[.lst ζ]
|Ar ζ=>D8 ζ 1
|cx ζ η θ ι=>by rw [ζ,η] at θ;cases ι
|C8 ζ η=>by show([-ζ],η)
|Ω ζ=>ζ=none
|Bf ζ=>Ω[H ζ]
|Uf=>xeK Z8
|Ξ=>List RA
|xLJ ζ η=>((ζ).drop η).take
|ku=>Int.ofNat_lt.2
|AK ζ=>De rfl ζ
|Į=>_ va6 ι
|F7 ζ η θ ι μ ν ξ=>by show((Į,μ)=ν,ξ)
|BL ζ η θ=>show ζ=η from θ
|Cn ζ η=>Au[JS À]
|EL ζ η=>by cases ζ;exact η
|xFI ζ η θ=>λ ζ=>absurd Ù
|Gh ζ=>by refine wpS_bind ζ
|kc=>xAH X
|C7=>xAD 2
|rT ζ=>Õ ζ è
|ρ=>JZ _
|B4=>xvM AB rfl
|Gg=>s1.trans s2
|ka ζ η θ ι=>by show((Č,θ)=ι,π)
|Gf ζ=>λ ζ=>?_
|zjF=>_ ζ[.own η]
|xwX ζ η=>.frz zjF
|x2o ζ η θ ι=>by obtain⟨its,ζ,η,θ⟩:=ι
|EK=>C'.refl _
|rR ζ η=>ap À aj
|Eg ζ η=>∀b∈ζ,η
|oW ζ η θ=>Gj[xFH À] θ
|_K=>_ θ ι
|kS ζ η θ ι=>upd À[xUo _K]
|WI=>T.map vN
|Θ ζ η θ ι μ=>by show(ζ=η,(θ:ι)=μ)
|CM ζ=>by rw [ζ];rfl
|Du ζ=>by refine JV ζ
|yiq=>_Q items.size
|A2 ζ=>ζ=false
|kR ζ=>{s with heap:=ζ}
|ya7 ζ=>T.length≤ζ
|C6=>List Str
|Â=>_ K mg
|Ò=>_ f fd
|Ρ ζ η θ=>xn1 Â Ê Ò
|kO ζ η=>Þ ζ[.ref η]
|Ε=>pv 2
|Xn ζ η=>UF[h'.get? ζ] η
|rQ ζ=>.m ζ ST
|xwY ζ=>L.getD ζ 0
|IB ζ η=>ac ζ[B9 η]
|DR ζ η=>Υ[DT ζ] η
|C5=>.ref C
|Fw ζ=>(rfl,ζ)
|JJ ζ=>Q ζ H'
|WF ζ=>ζ=true
|kM ζ η θ ι μ=>(ζ,rfl,η,θ,ι,μ)
|ya8 ζ η=>UF[X.env.scope.names.lookup ζ] η
|τ=>NL.xeP _ _
|cq=>ts.map V.ref
|D7=>List Bool
|BH ζ η=>by rw [ζ,η];rfl
|xwZ=>seqObj "list"
|kJ ζ=>autoParam ζ xfr
|vV ζ η θ ι μ ν=>by show(BO ĉ,(_,_,μ)=ν)
|yC ζ η=>UF[h.get? ζ] η
|rN=>kc H
|Dt ζ η=>(Č,?_)
|xLK ζ=>.a[xAE ζ]
|JI ζ η θ ι=>by show((ζ,η)=θ,ι)
|zH ζ η θ=>.cons ζ[.cons Ù]
|FR ζ η θ ι=>by have ζ:=η;rw [θ] at ι
|xFJ ζ=>Binds ζ fd
|Cg=>.n 2000
|C4=>[_]
|Hj ζ η=>Xo C4 À
|Uv ζ η θ=>by show((ζ,η)=θ,π)
|iS=>Int.ofNat_lt.1
|xUq ζ η=>UF[scope.names.lookup ζ] η
|IA=>List Keyed
|kP ζ η=>λ ζ=>decide η
|AS=>pv 4
|Xm ζ=>(ak ζ).trans
|Vu ζ η=>{s with heap:=ζ,toks:=η}
|lE ζ=>by exact False.elim ζ
|BY ζ=>vc P w K RZ ζ Ò
|ya9=>List.mem_singleton.1
|zd ζ η θ ι=>(Č,rfl,θ,ι)
|yB ζ η=>UF[H ζ] η
|zC ζ=>xfp[top ζ]
|Ab=>pv 3
|DD ζ=>by exact .inl ζ
|ŷ=>_ X.prog X.w
|xUr=>xwW ŷ
|Xl=>.ref f
|D5=>.n 1000
|vU=>B.map vN
|IT=>xqL X.len
|Ef ζ η θ=>by exact(Č,θ)
|Hg=>.n 0
|Az ζ=>ζ.2.1
|B8 ζ η=>HC ζ i η
|AO=>AV SZ
|Bc ζ=>Ak[AY ζ]
|lD ζ η θ ι=>by generalize EN Ê=ι at*
|TD ζ=>λ z=>ζ
|yA=>ord κ
|xLL ζ η=>s.heap.push[xAG À]
|sO ζ η θ ι μ=>by obtain⟨ζ,η,θ⟩:=ι;refine μ
|Β=>nB T
|vR ζ=>.m ζ SZ
|Vt=>L.map vN
|vQ ζ η θ ι=>by refine ζ;obtain⟨η,θ⟩:=ι
|Hv ζ η θ ι μ ν ξ ο=>by obtain⟨ζ,η,θ,ι,μ,ν,ξ,ο⟩:=h
|BF ζ η=>(ζ).length=η
|Xk ζ=>by obtain rfl:=ζ
|sM ζ η=>(ai À).symm
|xUs ζ η θ ι μ=>by obtain⟨ζ,η,rfl,θ,ι⟩:=μ
|D4 ζ=>ζ<256
|yir=>Iw "__debug__"
|JH ζ η θ=>(Č,rfl,θ)
|Sf ζ=>.int ζ t
|Vs=>Iw "whole_bytes"
|AA=>C' H H'
|xUt ζ=>ζ≠X.env.locals
|Hu ζ η θ ι μ ν ξ ο=>Dd _Y[JN ξ ο]
|EE=>Option V
|jq=>Fy Hp
|Ez ζ η=>(ζ).length≤η
|Bv ζ η θ=>xlI Ê[xlH _]
|sG ζ η θ=>upd À[.tup θ]
|xLM ζ η=>A3 ζ this η
|yba ζ=>xfo (i:=ζ)
|ybb=>JJ .non
|W1=>rN s
|xw0 ζ η θ ι=>by generalize ζ=η at*;generalize θ=ι at*
|_y=>_ μ ν
|JG ζ η θ ι μ ν ξ=>(Į,rfl,_y,ξ)
|Ax=>PE X
|AZ=>.n 1
|rK ζ η θ ι=>NL.no ĉ rfl
|Fv ζ η=>by obtain rfl:ζ:=η
|xAI ζ η θ ι μ ν ξ=>NL.xeJ _Y ξ rfl
|ED ζ=>RU ζ _
|rh=>.inl rfl
|FQ=>s1 _ _
|kj ζ=>(xLH ζ).elim
|Bu=>xAD 3
|DH ζ=>lF ζ[D4 x]
|Vr ζ η θ=>(_,va6)
|pz=>λ _=>?_
|EC ζ η=>by refine ζ;exact η
|Xj ζ=>EM ζ SZ
|Χ=>rW RA RK
|JF=>Value.ref a
|SR=>Option Int
|Vq ζ η=>(ζ).lookup[Iw η]
|vK ζ η=>Þ ζ[vN η]
|rP ζ=>d6[sS ζ]
|xw1 ζ η=>ad[xlN À xlO]
|DC=>List RC
|jy=>ns.map V.int
|ybc ζ=>aF (j:=ζ)
|D3 ζ η=>decide[ζ=η]
|Hf ζ η=>by unfold ζ;rw [η]
|i7=>X.s₀.heap.get? b
|xw2=>.builtin "object.__class__"
|Dr ζ=>by exact .inr ζ
|xFK ζ η θ ι μ=>by obtain⟨ζ,η⟩:∃θ,ι:=μ
|rO ζ η θ=>by have:=ζ;show xLM Ù
|Di=>xqo κ
|Cm=>Kq rfl
|EJ ζ η=>by refine(ζ,η)
|k8 ζ η=>(rfl,Č)
|DQ ζ=>Nat->ζ
|k7 ζ=>["self",ζ]
|zcd=>_ ι μ
|vI ζ η θ ι μ=>by show((ζ,η)=θ,AX zcd)
|zA=>kf κ
|xUu=>s.heap.push emptyDict
|DK=>List Bd
|IS ζ η=>UF[s.heap.get? ζ] η
|Dq ζ=>by rw [ζ];simp
|jz=>congrArg List.length
|rM ζ=>vd 0 ζ
|jx=>xUr X.A
|JE ζ=>by exact(ζ).elim
|xUv ζ η=>.Call[.Name À]
|vcv=>_ va6 rfl
|Fu ζ η θ ι=>(vcv,ι)
|xUw=>upd X.H₀
|zc ζ η θ=>by obtain⟨ζ,rfl,η⟩:=θ
|Ο ζ η θ=>λ ζ η θ=>?_
|ĵ=>_ Ù ι
|xw3 ζ η θ ι=>Ý ζ[Ο ĵ]
|j_=>_ _ ?_
|İ=>_ _ j_
|Al=>g1 İ
|EB ζ η θ=>DM ζ true Ù
|Dh=>.ref x
|xw ζ=>tC[.int ζ]
|zZ=>JQ this.symm
|xw4 ζ=>rW Str ζ
|IM=>SG.kf SG.ð
|CJ ζ η θ ι=>by refine ζ;have η:θ:=ι
|jv=>W13.Ë It
|Xi ζ=>P.length+ζ
|Ey=>A7 XL
|DZ=>tl T
|ju=>ħ 16 45
|xu ζ η=>jx À X.xe
|CA ζ=>.m ζ XL
|D2=>.n 3
|IX ζ η θ ι μ=>aB Ê[yD zcd]
|xw5 ζ η=>WF[keepIn À]
|xLN=>kv.toArray.zip its.toArray
|JD=>.v 4
|xLO ζ η θ ι μ=>by obtain⟨ζ,η,θ,ι,μ⟩:=z9
|JC=>λ _=>rfl
|i6=>.ref s.heap.objs.size
|zX ζ η θ ι μ=>Eh Ê[ad zcd]
|x2p ζ=>L.map[sgl ζ]
|zV ζ η θ=>(ζ.2 Ù).trans
|BV=>rQ 8
|BD=>JJ Hm
|zdQ=>_ ι μ ν
|zeg=>_ zdQ ξ
|AH ζ η θ ι μ ν ξ=>by show((ζ:η)=θ,SL zeg)
|gJ ζ η θ ι=>by(rcases KR À with θ|ι)
|vH ζ η θ ι=>by rw [ζ,η] at θ;exact ι
|rE ζ η θ ι μ ν=>(Į,rfl,_y)
|Ι ζ η θ=>∃f fd,Ρ Ê
|yis=>HT._Q xs.length
|Ex ζ=>Sc JO ζ
|xAJ=>W.map vN
|Vb ζ η=>Ą ζ[Ü η]
|px ζ η θ ι μ=>dN Ê SZ zcd
|pq=>ai e
|JB ζ=>Gi ζ XL
|xUx ζ=>(pendingOf ζ).size
|Ee=>ap xlM
|pd ζ η θ ι=>by obtain⟨ζ,η⟩:=θ;refine ι
|Bw=>R.map vN
|EI ζ=>EM ζ ST
|gF ζ=>lF scope.names ζ
|rB ζ=>(Ka.mp ζ).1
|xUy=>NoAttr K
|Ew ζ η θ ι μ ν ξ ο=>by show(Ty ĉ,Ty μ ν ξ ο)
|Cv=>s2 _ _
|Ed=>by simp at h
|EA=>C7 ST
|xFL=>S.map vN
|BU ζ η θ ι=>by show((ζ:η)=θ,ι)
|Eu ζ=>c≠ζ
|ye ζ η θ ι μ ν ξ=>by obtain⟨ζ,η,θ,ι,μ,ν,ξ⟩:=h
|VW=>ps.map V.ref
|k_=>_ ζ rfl
|xAK ζ=>ybc k_
|xw6=>arrOf sq0
|yit ζ=>.str[Str.ofString ζ]
|Ut=>s2.trans s3
|IK=>B.take 3
|x2q=>pre sP
|FO=>List α
|jt ζ=>.cons ζ .nil
|jr=>Nat.not_lt.2
|xLP ζ η=>by(rcases ζ with rfl|η)
|cg ζ η θ=>EN À[AY θ]
|xFM=>bt R
|Bq=>C'.refl H
|zS ζ η θ ι=>aB Ê[vW ι]
|cb ζ η θ ι=>LZ À[λ _ _ θ=>ι]
|ybd=>.type "ValueError"
|xUz ζ η=>UF[K.lookup ζ] η
|zQ ζ η=>.inr (ζ,η)
|Hc ζ=>ζ≤1000
|FN=>by simp [z]
|Cc ζ η θ ι μ ν ξ ο=>by show(ζ=η,SB θ zeg ο)
|Ud ζ η θ ι=>((ζ,η),θ,ι)
|Xh ζ η θ ι μ ν=>by show((Į,μ)=ν,π)
|Hb=>C7 Dk
|cF ζ η θ ι μ ν ξ ο=>(Į,rfl,_y,ξ,ο)
|xAL ζ η θ=>by show(JK À,θ)
|Dp ζ=>Gj ζ g1
|jk ζ η=>.inl (ζ,η)
|xUA=>kitOne K
|II=>Ħ L
|SA=>bale T Rs
|xAM ζ=>X.s₀.heap.objs.size≤ζ
|IG ζ η θ ι μ ν=>by obtain⟨ζ,η,θ,ι,μ,ν⟩:=h
|Rn=>RT 0 0
|gE=>gG[λ _ gZ=>?_]
|HY ζ=>.a ζ ST
|Xg ζ η θ=>(ζ).map[λ η=>θ]
|xUB=>.builtin "getset_descriptor.__get__"
|xw7 ζ=>.bl[decide ζ]
|Bn ζ η θ ι μ=>by refine ζ;obtain⟨η,θ,ι⟩:=μ
|xAN=>A.map vN
|HB=>List LE
|x2r ζ=>[ζ,"most"]
|Dn=>rW Nat Nat
|jo=>I.hok.fresh ρ
|vF=>xAE 2
|x2s ζ=>TD[nomatch ζ]
|Ft ζ η θ=>xrW (v:=.int ζ) Z7 η[dJ θ]
|Et ζ=>ζ.2.2
|jn=>xrT st
|x2t ζ=>E[.ref ζ]
|xFN ζ=>Q[.bl ζ]
|PL ζ=>(_,ζ)
|HW=>.n 256
|xUC ζ=>xlL AB k_
|M'=>(let D:=_;(?_:xqH _ _ D _ _))
|HA=>ap xfn
|xw8=>xzF co
|Xf=>le_trans yA
|vD=>upd H
|A9=>Eu p
|xw9 ζ=>(List.range ζ).filter
|bX=>.n 1900
|Ec=>A7 Η
|Es ζ η=>by show(ζ=η,TL)
|xLQ=>Nat.not_lt.1
|xFO=>xs.toList.drop i
|Bk ζ=>Õ[Ü ζ]
|Ea=>DQ Nat
|jl=>dJ rfl
|zeO=>_ ζ none
|xUD ζ=>List.replicate zeO
|ybe ζ=>W.length≤ζ
|x2u ζ=>Obj.mapSeq[λ _=>ζ]
|gB ζ=>FU this ζ
|BW=>Option Nat
|xLR=>List.getElem?_eq_some_iff.1
|qq=>C' H
|IW=>ya7 1000
|bP=>.n 64
|xFP ζ η=>congrArg Int.ofNat[JS À]
|JA=>C7 SZ
|Ep=>Ar Hg
|xFQ ζ=>ζ≤xs.length
|xLS ζ η=>.inl[k8 À]
|Bh=>υ p
|ID ζ η=>(ζ,rfl,η)
|jf ζ=>L.length≤ζ
|DY=>kp _ _
|ft=>K w.params
|HV ζ=>.a ζ XL
|D1=>8*R.length
|Bz=>KO _
|fj=>.ref it
|x2v=>.seq its.toArray
|jj=>JQ hl.symm
|pZ ζ=>RT ζ Rb.length
|Yf=>ç.take k
|vB ζ η θ ι=>xw1[Bv Ê] ι
|pY ζ η θ ι=>(_,Į)
|yd=>.ref t
|Bt=>p.1
|DG=>g İ
|BN ζ=>Ψ (ζ).length
|ni ζ η θ=>yB ζ[xUo Ù]
|Jz=>É ps
|nO ζ η=>EN ζ l η
|xLT ζ=>xAG "list" ζ
|xxa=>.int 0
|xLU=>.type "BaseException"
|B1=>H' l
|FL=>xn1 Â
|ET ζ η θ ι μ ν=>Dd Ê SZ zdQ
|xxb ζ η θ=>xw3 Ê z9
|fi ζ=>x2t zeO
|Iv ζ η θ ι=>by exact(va6,ι)
|AJ ζ=>1≤ζ
|xAO=>standAt apos.atName
|BG ζ η θ=>UF ζ[xUo Ù]
|DP=>Bf l
|xLV ζ=>(B.take ζ).drop
|BE ζ=>Gi ζ Dk
|BC ζ=>(ζ,[])
|jc=>‹_›
|pX=>ag xfm
|qh ζ=>ag[aD ζ]
|DO=>Ak WI
|yc=>B9 aj
|xLW=>by simpa using this
|BA ζ η=>fH[F.F.ok À] _
|vA ζ η=>aL xqK À WJ
|xxc ζ=>Vals ζ us
|IC ζ=>by rw [ζ];decide
|xUE ζ=>W.length+ζ
|xLX=>Nat.sub_eq_zero_iff_le.1
|Jy=>["row"]
|EH=>pv 5
|Ye=>.n 1400
|Α=>H a
|uz=>List Env
|nN ζ=>((false,va ζ))
|xUF ζ=>λ _ _ _ _ _ _ _ q=>ζ
|xFR=>xqL T.len
|Uc ζ η θ=>ag[xlN Ê]
|xFS=>P'.take i
|zL ζ=>by cases ζ;rfl
|Iu=>Ar Tm
|Ge ζ=>JN[JQ ζ]
|HR=>.int i
|xxd=>Int.ofNat_inj.1
|xFT ζ=>fO ζ S.length
|oI ζ η=>Ĕ[ĥ À]
|Gb=>Fy SortSt
|bO ζ=>ad[xUC ζ]
|jG ζ=>ζ<L.length
|xUG ζ η=>UF[sc.names.lookup ζ] η
|B0=>by intro z;cases z
|ux ζ η=>bj[Gf ζ][Gf η]
|Yd ζ η=>((ζ,V.ref η))
|ic=>Nat.not_le.2
|DX=>by subst e
|yb ζ=>(ζ,?_)
|xUH ζ=>ζ<sizeLine
|pW=>xUH ys.length
|BB=>.n 1000000
|xxe=>K6.mp z
|Fj ζ=>occ ζ p
|xLY ζ=>Hj ζ SZ
|x2w ζ=>ar[UV R1 ζ]
|Gw=>x2w g1
|Jx ζ η=>by have:=ζ;exact η
|By=>Ψ n
|pV ζ η θ=>by rw [ζ] at η⊢;exact θ
|x2x=>Sm blt
|Ay=>Sm.refl _
|xLZ ζ η θ ι=>by show((_,ζ)=η,(_,θ)=ι)
|xAP ζ η θ=>xwX[exO À] θ
|Eo=>FQ e
|Aw ζ η=>by refine aS À
|Ir ζ=>by rw [ζ] at h
|ybf ζ=>Heap.ExtBut ζ s.heap
|xAQ ζ=>s.heap.objs.size≤ζ
|xxf ζ=>List.replicate ζ a
|xFU=>hr.hd Z9
|x2y ζ=>A'.length+ζ
|pU=>x2y M.length
|xFV ζ η=>(VD.heap.update À).get?
|E3 ζ=>Eg ζ[D4 b]
|xAR ζ η=>Option ζ×η
|Yc ζ=>ζ≤S.length
|pT=>X.take n
|ya ζ η=>Xo [_,_] À
|nL ζ=>Gi ζ ST
|yZ ζ η=>lh k_ η
|FK=>vR 8
|Jw ζ η=>rO À this
|Dm=>s5 _ _
|Gu=>ED 1
|iZ ζ=>ζ<xs.length
|xxg=>eqv blt
|xxh ζ=>xfi (C:=ζ)
|oF ζ η=>BL ζ true η
|HQ ζ=>by(rcases ζ with z|z)
|xFW=>.Name x
|xAS=>xLY Hg
|xxi ζ η=>UF[s'.heap.get? ζ] η
|xFX=>by subst this
|HP ζ=>DI[AY ζ]
|Em ζ η θ ι μ=>zX ĉ[Cj μ]
|yY ζ η=>Κ[pq ζ] η
|ybg=>.int ys.length
|Im=>pv 6
|mz ζ=>rR xlK ζ
|pS ζ=>BY ζ Jaa
|FG=>CA 8
|jZ ζ η=>yD ζ[vW η]
|Jv ζ η=>(ζ++η).take
|uu=>I.tok _
|pQ ζ=>ζ<S.length
|xAT ζ η=>XV ζ Jaa η
|xFY ζ η θ ι μ ν ξ ο=>by show((Č,θ)=ι,(_y,ξ)=ο)
|xAU ζ=>PL[RV.of ζ]
|xUI=>.builtin "object.__init__"
|xL0 ζ η=>by obtain⟨dx,_,_,_,_,_,ζ,_⟩:=η
|nz ζ η=>Υ[JV ζ] η
|mw ζ=>UF ζ true
|xUJ=>I.base.free b
|xAV=>run a
|xFZ=>K26.C.bt R
|jF ζ η=>Ar[D8 À]
|ybh ζ=>vK "many_signs" ζ
|Bo=>H' c
|Cs=>υ a
|ziy=>_ ζ[wpS_bind η]
|jE ζ η=>Ζ ziy
|zG=>by exact .nil
|mZ=>h'.get? b
|Cb ζ η θ=>xuG K Ê Ò
|qZ=>A7 Dk
|iV ζ η θ ι=>by obtain⟨ζ,η,θ,rfl⟩:=ι
|Gd ζ=>oW g1 ζ g1
|xF0 ζ η θ=>by show((_,_,_,ζ)=η,θ)
|An ζ=>two[ju ζ]
|El ζ η θ ι μ=>dN [_,_] zdy
|uo ζ η θ ι=>λ ζ η=>absurd _K
|iU=>by simpa using hb
|xAW ζ η θ ι=>holding ζ[getMethod ĵ]
|yiu=>((s.heap.push[seqObj "list" #[] 0]).update s.heap.objs.size (Obj.mapSeq (·++its.toArray))).push
|zF ζ=>show ζ from Z9
|Am=>["reader"]
|um=>.n 272
|xF1 ζ η θ=>by obtain⟨_,_,ζ⟩:=η;refine θ
|iR ζ η=>by obtain⟨t,ζ⟩:=η
|yiv ζ=>xLL "list_iterator"[.fields ζ]
|qX=>by cases rx
|xF2 ζ=>ζ=ps.length
|IV=>most S p
|xAX ζ η θ ι μ ν ξ ο=>by(rcases ζ with⟨η,θ,rfl,ι⟩|⟨μ,ν,ξ,ο⟩)
|gm ζ=>(ζ).Pairwise Di
|Yb=>EM 1000
|pO ζ=>ζ≤B.length
|xUK ζ=>Walk ζ W.length
|gj=>X.env.qual++"<lambda>"
|FE=>.n 8
|Ä=>_ σ H
|Ju ζ η=>Pv ζ Ä[vN η]
|Dz=>s3 _ _
|jD=>RT a n
|xAY ζ=>ζ<s.heap.objs.size
|mX ζ=>xs.length-ζ
|x2z=>KK κ
|xF3 ζ=>É[Ë ζ]
|x2A ζ=>["_law_row",ζ]
|Jt=>A7 Φ
|uj=>Ar Δ
|xAZ ζ=>kO "signs_check" ζ
|yX ζ η θ=>by unfold ζ;rw [η,θ]
|Iz ζ=>ad[aD ζ]
|x2B ζ=>λ _ _ z=>ζ
|gU ζ η θ=>by(rcases Kx.mp ζ with η|θ)
|jH ζ η=>∀p∈ζ,η
|Dy=>dJ _
|xF4 ζ=>ζ≠s.heap.objs.size
|pN=>Option RA
|Ga ζ=>JW ζ Z9
|xL1 ζ=>X.length-ζ
|xUL ζ=>ç.getD ζ 0
|nQ=>sS xs.length
|lu ζ η θ ι=>px ζ SZ ĵ
|nK=>x2r "counts"
|gR=>K.In s.heap
|Ya=>List Int
|yW=>List Pc
|xF5=>ç.take B.length
|mv=>["_law_row"]
|xA0 ζ η=>Ē À b
|ybi=>xLI C.length
|Μ=>H c
|jC ζ η θ ι μ ν ξ ο=>by show SB _Y;generalize ξ=ο at*
|mI=>xF2 vs.length
|v_=>_ cH cK cB cT
|zbN=>_ cM v_ cL
|lp=>xvd zbN
|Iy=>s.heap.objs.size+1
|zE=>pairs B
|ug ζ η θ=>(if ζ then η else θ)
|yV=>some v
|zD=>.ref e
|xxj=>congrArg some
|j6=>["before"]
|ybj ζ=>(Qs.take ζ).count
|xxk=>none_of s0
|xxl=>["_law_text"]
|xF6 ζ η θ ι=>by show(((ζ,η),θ)=ι,π)
|Gs=>Sv _ _
|DJ ζ η θ ι μ ν ξ=>Eh Ê[Eh zeg]
|ki ζ=>(Kx.mp ζ).elim
|xxm ζ=>by simpa [JT] using ζ
|xA1 ζ η=>by show(ζ,η)
|ybk ζ=>xUA[.ref ζ]
|ybl ζ η=>Pe À (Obj.mapFields (·.setIfInBounds 0 Value.none))
|pM ζ=>by unfold ζ at h
|Cw=>[Dc]
|Ai ζ η=>by refine xFH À
|Gr ζ η θ ι μ ν=>by show(ζ=η,SL θ zdQ)
|iq ζ=>xfd[xvI ζ]
|xL2=>decide_eq_decide.2
|bF ζ=>TD[hb ζ]
|zB=>Xj 1
|x2C ζ=>(ζ).trans q
|ZS ζ η θ=>UF[(ζ).get? η] θ
|ZR=>Array RC
|xF7=>C9.Ħ L
|iQ ζ η θ ι μ=>(Į,true,μ)
|Gq=>Ak xs
|xA2=>Ω X.A.handled
|Af=>WF X.calm
|Dg=>DH T
|tW ζ=>HQ[Kx.mp ζ]
|eV=>x2z xs
|xF8 ζ η θ ι=>by show(ζ=η,(_,_,θ)=ι)
|iJ ζ=>none_of ζ nl
|nU ζ=>WF (ζ).isSome
|xxn ζ=>aL xfj ζ aj WJ
|GX ζ=>Pv ζ Ä
|Fs ζ η θ ι μ ν ξ ο=>xAI _Y[JN ξ ο]
|xA3 ζ=>Str->ζ
|Τ=>xA3 xUp
|nP ζ=>ζ≤2000
|ER=>KB _ _
|kH=>L.drop p
|kA=>wpS_get ?_
|xL3 ζ η θ=>show s.heap.IsTuple À from θ
|jS=>s.trans s2
|uZ=>.v 5
|zeZ=>_ À rfl
|Js ζ η=>BL zeZ
|G8=>xLK 2
|DW ζ η=>fH[F.ok À] _
|eN ζ η=>Ω[(ζ).lookup η]
|yz ζ η θ=>by rw [ζ,η];refine θ
|xA4=>.bl true
|E2 ζ η=>Hl[H ζ] η
|E1 ζ η=>by rw [ζ];show η
|Jq=>J5 h
|xA5 ζ=>(L.take ζ).count
|nJ=>am nt
|jN ζ=>x2n[.tup ζ]
|tV=>kR h'
|x8 ζ η=>by refine Dt À
|xL4 ζ=>Ą[rI0 ζ]
|xA6 ζ=>call[.builtin ζ]
|eI=>.bl false
|dC=>JQ e.symm
|d9 ζ η=>(ζ).flatten++η
|Aa=>aT[B9 bd]
|tU=>J9 _
|AU=>Kf _
|yU ζ η=>(ζ).getD η 0
|Il=>xAD 4
|Cz=>Ü i
|cX ζ η=>xxb À s1
|Ik=>qq H1
|xA7=>.bool true
|xUM ζ=>B.length-ζ
|ZQ ζ=>ζ<X.length
|xxo ζ=>S.length+ζ
|nA ζ=>D8 ζ 8
|ZP ζ=>.m ζ Dk
|x6 ζ=>Eg fp ζ
|yT ζ=>IB ζ aj
|IU=>rM 3
|jB ζ=>xAT Jaa ζ
|xF9=>Loc X.env.scope
|my=>Cls K
|xGa=>KD.mp hb
|xL5 ζ η=>(xs.extract À).toList
|Dl=>[Aj]
|tR ζ=>Υ M' ζ
|xA8=>xuJ v_
|ybm ζ=>ζ==Value.none
|jL=>by simpa using z
|mx=>G.map vN
|Xs=>Bu XL
|ybn ζ η=>.mod (n:=ζ) η .c
|AE=>pq np
|xxp ζ η θ ι μ=>by show((ζ,η)=θ,BA zcd)
|x5=>.ref r
|Jm ζ η θ=>by rw [ζ,η,θ];rfl
|DU=>Kz _ _
|zW=>Sr.of ht
|mY=>Y.map vN
|bE ζ η θ ι=>by show([ζ,η,θ],ι)
|cW=>KJ e
|IQ ζ η θ ι=>(ζ,λ η θ=>ι)
|xxq ζ=>autoParam ζ xfu
|qU=>xe8 κ
|x2D=>SM.Sm SG.ð.blt
|yy ζ=>vd 1 ζ
|xL6 ζ=>.int[kf ζ]
|x2E=>xfg KI rfl
|zU ζ η θ=>x2E ζ[yba Ù]
|Df ζ η θ ι μ ν ξ=>SB ζ[η≠θ] zeg
|zjx=>_ 3 Value.none
|yiw=>(s.heap.update T (Obj.mapFields (·.setIfInBounds zjx))).objs.size
|xxr=>K7 _
|Jl=>xxr Z9
|bz ζ=>ζ<a.size
|x2F ζ=>tSl[rSlL ζ]
|zb5=>_ prog w
|yix=>wpS[model zb5]
|zR=>RV K H
|xA9 ζ=>ybm[Value.ref ζ]
|Fp=>s4 _ _
|xUN ζ=>.cons ζ ih
|xL7=>b.toList.drop ib
|xxs ζ=>((ζ,.local))
|xL8=>U.map vN
|xL9 ζ=>w.getD ζ 0
|xBa ζ=>t.length+ζ
|yS=>.ref o
|zO ζ η θ ι=>aB Ê[B9 ι]
|xGb ζ=>rR xlE ζ
|zM=>h.get? b
|ZO ζ η θ=>by show wpAny _ À _ _ θ
|x2G ζ η=>xAG ζ[.fields η]
|Cy ζ=>by simp;exact ζ
|xGc ζ η θ=>DM[Iw ζ] η _ θ
|jA ζ η θ=>by show(ζ=η,θ)
|xUO=>.fields vs
|xBb ζ=>.seq (ζ).toArray
|xGd=>σ.set i
|x2H=>Builtin.Tuple.tupleExact _
|ybo ζ=>X.A.units+ζ
|x2I=>xz1 false
|xBc=>xkb κ
|jI ζ=>W13.TJ ζ It
|j9=>["number"]
|x4=>by clear g1
|iz=>ak V9.symm
|xUP=>xyi χ
|iu ζ η=>by unfold ζ;show Du η
|x2J=>Iw "blocks"
|x2K=>Iw "course"
|ZN=>.a Η
|Ct ζ η=>JU ζ[JQ η]
|xxt=>AJ T.length
|bJ=>x2x kf
|Ĝ=>_ CO CK
|ö=>_ Ce Ĝ
|yiy=>xvh ö
|Xr=>xuK T
|xGe ζ=>RU ζ X.A
|xMa ζ η=>Value.ref ζ::η
|xMb ζ=>by obtain⟨_,_,ζ⟩:=z9
|xMc ζ η=>by obtain⟨_,_,ζ,GT'⟩:=η
|xMd=>["_law_script","_law_k"]
|Ek ζ η θ=>cx z Ê
|xxu ζ=>De k_
|xMe=>I1.hok.fresh ρ
|CY ζ=>by refine DT ζ
|yx ζ=>Ls ζ Ä
|ZM=>cn Q
|Dw=>q.1
|mW ζ=>I.hok ζ _
|HN=>KC _ _
|xMf ζ=>ζ+As.flatten.length
|xMg=>tail.drop m
|xMh=>R.take i
|xBd=>List W13.Itm
|ybp ζ η=>.Call[.Attribute À apos]
|ZL=>x2p wt
|bB ζ=>ζ≤L.length
|iN=>ya Δ Δ
|IP=>2*L.length
|yiz=>(s.heap.update T (Obj.mapFields (·.setIfInBounds zjx))).get?
|Fl ζ=>k ζ _
|ao ζ=>ζ=xs.length
|yw=>aK xrU
|xBe ζ η=>["self",ζ,η]
|ybq ζ=>É[pP ζ]
|x2L=>Nat.lt_sub_iff_add_lt'.2
|xMi=>xe5 Tb
|zI ζ=>.ref[os ζ]
|Fq ζ=>Ω[mg ζ]
|mV=>kc H'
|Xq=>Fw ?_
|yv=>IT AB
|ZK ζ η=>(Č,rfl)
|iI ζ=>κ.blt[eV ζ]
|af=>nA Tm
|mQ=>xGb χ
|yu=>Kn ?_
|Xp=>H' b
|yr=>X.mg x
|xMj=>pendingOf sq0
|qP ζ η θ=>ag[xlJ (i:=ζ) Ù]
|x3 ζ η θ ι μ ν=>DE Ê Tm zdQ
|yq ζ η θ ι μ=>(vcv,ι,μ)
|IL=>q.2
|iG ζ=>Az[Et ζ]
|aY=>xwW zb5 A
|qI=>Tl b
|xBf ζ η θ ι=>codeAny À[.call _K]
|xMk ζ=>T.length+ζ
|ZJ=>K3 rfl
|yiA=>DI ((Z'.map[λ z:RA×Bd=>((((z.2.1:Nat):Int),V.ref z.1))]).map (·.2))
|CV=>FQ ha
|yiB ζ=>h1.push[seqObj "tuple" its.toArray ζ]
|aE ζ=>At κ ζ pe
|Jj=>υ y
|FY=>vN n
|tQ ζ η=>∀y∈ζ,η
|xBg=>by simpa using h1
|yiC=>I.base.keep b
|yR=>Md Z9
|mO=>List Itm
|we=>kf x
|iF=>.dT []
|ow=>nb A'
|xGf=>["_law_opener","_law_row"]
|VX=>.ref b
|x2M ζ η=>Builtin.Range.rangeSize ζ[Tl η]
|iE ζ=>(Tl ζ).toNat
|ax=>Ak Vt
|tP ζ=>ζ->Fy RD
|BQ=>tP RC
|tN ζ η=>by refine ζ;rw [η]
|xMl=>(DZ).take
|FX ζ η θ ι=>Bg C4 SZ ĉ
|aX ζ η θ ι μ=>rK Ê[JN zcd]
|yp ζ η θ ι μ=>by have ζ:η:=θ;rw [ι] at μ
|xBh ζ η θ ι=>by show(TL,(Č,θ)=ι)
|xMm=>x2A "_law_wide"
|xGg=>xxo T'.length
|xMn=>["_law_cell","_law_k"]
|xMo ζ=>ζ%65536
|xMp=>AllBare s'.gens
|xUQ=>D.nx σ
|ZI ζ=>ζ+T.length
|tK=>some v0
|iD ζ η θ=>fH[F.F.okE À] θ
|xGh=>.type "list"
|mJ=>AV Dk
|ybr ζ=>ç.take (ζ).length
|CU ζ=>Ω[H1 ζ]
|xMq ζ=>ya8 ζ .local
|xMr=>Iw "many_signs"
|xUR ζ=>B.length≤ζ
|zjG=>_ ζ[some η]
|tI ζ η θ=>û zjG[some θ]
|YG ζ=>ζ≤64
|FD ζ η θ ι μ ν ξ ο=>(vcv,ι,_y,ξ,ο)
|IJ=>LK _ _
|xxv ζ η θ ι=>by obtain⟨ζ,η,θ,ι⟩:=h
|tF ζ=>.a ζ Dk
|xMs ζ=>B8 σ ζ
|mF ζ η=>xfh[yba À]
|xxw=>(xw6).toList
|xBi=>x2r "thing"
|i' ζ=>DQ[DQ ζ]
|vt ζ η=>nz ζ[JV η]
|xBj=>.ref c
|mE ζ=>(M6 ζ).symm
|YF ζ η θ ι=>DF À SZ θ SZ ι
|YE ζ η θ ι μ ν=>by obtain⟨ζ,η,θ⟩:∃ι,μ:=ν
|F9=>St->jq
|xUS ζ=>Heap.SameBut ζ s.heap
|x2N ζ η θ=>by obtain⟨_,ζ,η,_⟩:=I.ok.funs.mem θ
|xUT=>λ _=>none
|VU=>bY ?_
|gw=>am nl
|xMt=>dw Sa
|x2O=>Pv.over rfl
|Ji ζ=>Sc J7 ζ
|xBk ζ=>Nat×ζ
|Jg=>xBk Nat
|V7 ζ=>B8 ζ x
|xBl=>xw4 NameKind
|xBm ζ η=>by obtain⟨ζ,η⟩:=h
|xxx ζ η θ ι μ ν ξ ο=>by show((Į,_y)=ξ,ο)
|x2P=>ĥ T
|xxy ζ η=>(oI À).length
|xMu=>xw8 wt bg
|Jn=>vN s
|mD=>by rintro rfl
|xUU ζ η=>.BoolOp À pos
|xGi ζ η=>.Subscript À pos
|V6=>.int j
|tD=>Km _
|xGj=>.str z
|x2Q ζ η=>UF[bootBuiltins ζ] η
|Ej ζ η θ ι μ ν=>DE Ê SZ zdQ
|FW=>Txt Â
|jV ζ=>by exact RV.of ζ
|Fn ζ=>by rw [JO,ζ]
|V5 ζ η=>by rw [ζ,η];simp
|Fm ζ η=>decide[ζ≤η]
|jU=>xfk I q
|ip=>jU Z6
|x2R ζ η=>by obtain⟨_,_,_,_,o,_,_,ζ,_⟩:=η
|xGk ζ=>I.base.slot ζ o
|CI=>[x]
|xUV ζ η=>by simp only [List.lookup,ζ,η]
|xxz=>.dT Sa
|xMv ζ=>MP ζ I.kIn
|xBn=>kv.zip its
|xGl=>.n 16777216
|FZ=>.n 100
|oq=>rQ 2
|xxA ζ=>Hj ζ Tm
|xBo ζ η=>L.filter[kP À]
|V4=>Bu JD
|Ij ζ=>∃f fd,ζ
|xxB ζ η θ ι=>Ij[Me K ĉ Jaa Ò]
|aW ζ η θ ι μ=>Ij[Me K zdy Ò]
|V3=>HY Tm
|vo ζ η=>decide[ζ<η]
|xGm=>x2r "before"
|V2=>AV vF
|xMw ζ=>Cj[aT ζ]
|xBp ζ=>T.take[64*ζ]
|m9 ζ=>(ζ).count p
|ZH ζ η θ=>by show DR À;refine θ
|AQ ζ η θ=>(xGc Ê)
|FJ ζ=>by show π;refine ζ
|Ih=>Ψ 1
|xGn=>I.pin p
|FA=>List RJ
|xMx=>False.elim z
|xBq=>rIxL K
|oo=>ExC K
|xGo=>cxHand X
|xUW=>congrArg Nat.succ
|xGp ζ=>É[pcP ζ]
|V1=>KA hx
|xUX=>Nat.lt_one_iff.1
|xMy=>congrArg V.int
|xBr=>.len rfl
|ZG=>xzP T k
|oZ=>Ak ys
|xGq=>sS Sa.length
|jR ζ η=>Ζ ζ[JV η]
|jQ=>Array xUp
|CS=>by rw [e1]
|jM ζ η=>HA ζ[aK η]
|V0=>ybe 192
|xMz ζ=>λ i j=>.int ζ
|Gn ζ η θ ι=>SB e1 À e2 _K
|ybs=>xuE Ĝ
|oR=>sm _ _
|ij=>s6 _ _
|Ĵ=>_ Cp ö
|xUY=>xqU Ĵ
|Í=>_ v_ cM cL
|xUZ=>xvQ Í
|G5=>AJ b
|xBs=>by simpa using h
|xBt ζ=>d6[ζ<1000]
|xGr ζ=>ζ=its.length
|xU0=>a.toList.drop ia
|gv ζ=>ζ<xs.size
|xxC ζ=>Kk ζ e1.symm
|AP=>.er c
|yiD ζ=>[ζ,"_law_text","_law_cell"]
|x2S=>.type "StopIteration"
|Ul=>Xk z.symm
|AL ζ η=>yD ζ[B9 η]
|y_=>_ co ck
|xBu ζ η=>yiy À y_
|DB ζ=>λ x hx=>ζ
|xGs ζ=>I.ok.bs ζ o
|xBv ζ=>.Constant ζ j
|AI ζ=>Kw ζ Z9
|xGt ζ η=>{X with pn:=ζ,xe:=η}
|xMA ζ η θ ι μ ν=>by(injection ζ with η;injection θ with ι μ ν)
|m7 ζ η=>UF[some ζ] η
|yiE=>AM ((backTo pos[starEach[e:: []] X.env]).any (·.1)=false)
|ZF=>x.2
|xxD ζ η θ ι=>SL Ê[wpS_bind ι]
|vk=>vW 0
|xU1 ζ=>λ _ _ q=>ζ
|CN ζ η θ ι=>by subst ζ;show A8 ĵ
|x2T=>s.heap.FunFrames base
|jJ ζ η θ ι μ ν=>∀(ζ:Nat) (η:θ) (ι:μ),ν
|j8 ζ η θ=>by show([ζ,-η],θ)
|j7 ζ=>É[pR ζ]
|xGu=>Ψ W.length
|xGv ζ=>Ω[failedOf ζ]
|ve=>Ak vU
|m6=>Bu SZ
|xBw=>k7 "size"
|uX ζ η θ=>by have:ζ:=η;show gB θ
|ybt=>λ _=>DG
|ZE ζ η=>by have:=ζ;rw [η] at this
|AD ζ η=>HQ[KR À]
|ZD=>Cj bV
|xU2 ζ=>some[.builtin ζ]
|Gl=>h.1
|FV=>s _ _
|aM=>υ f
|xU3 ζ η=>by show(TL,(_,_,ζ)=η)
|xU4=>(Gg).trans
|xBx=>Q .non
|sr ζ=>by rw [ζ];lia
|HL ζ η=>Ο À e
|xU5 ζ η=>by refine xyj[K6.mpr ζ][KQ η]
|xGw ζ η=>AQ ζ "finished" η
|CG ζ=>λ b hb=>ζ
|xMB=>X.base.get? b
|xMC ζ=>I.base.tups ζ xs
|xMD ζ=>I.base.tbls ζ ps
|xGx ζ=>(o.slots,ζ)
|xME=>ps.zip us
|xMF=>List.lookup x
|xGy=>V.int 0
|F8=>JY rfl
|yiF=>Nat.not_le.1
|xU6 ζ=>by(rcases u with _|_|_|_|ζ)
|xBy ζ=>.bad ζ Z9
|lz=>A2 s.fn
|si ζ η=>zH À .nil
|Ua=>iS this
|Dx=>vR 2
|ik ζ=>sM ζ nl
|Bj ζ η=>by have e:ζ:=η
|xGz=>Hc B.length
|xxE ζ=>tCall ζ [] E0
|UW=>JQ this
|ZC ζ=>by show(π,ζ)
|xxF=>S.pos ZM
|zfU=>_ X.mg X.base
|xU7=>xzf ŷ X.K zfU
|zeE=>_ scope pos
|xxG ζ=>.ListComp elt ζ zeE
|gy=>Ψ i
|gk=>KL _ _
|xU8=>List Key
|xU9=>ta σ
|IH ζ η=>∀ζ H',η
|xMG ζ=>MQ (I:=ζ)
|xMH ζ=>ζ<b.size
|yQ=>ap bi
|aJ=>8*B.length
|xMI=>Iw "waiting"
|Z1 ζ η θ=>lu C4 Ê
|yiG=>xu4 κ left key arr
|x2U=>h H1 s
|yP=>vN b
|x2V ζ=>ζ+Y.length
|xBz=>x2V X.length
|x2W ζ=>S.length<ζ
|xBA=>Y.drop pl
|A6 ζ=>FU e ζ
|yO ζ=>xFN ζ H
|lg=>Ü 0
|ig ζ η=>Uc À xlO
|xBB ζ=>some[.int ζ]
|sf=>xxn Ab
|Zh=>x2q k
|xGA=>xdy X
|x2X=>Þ f
|xVa=>.type "object"
|xGB ζ η=>RU ζ[A.deeper η]
|yiH=>s.heap.update a
|se=>o_ 12
|UN ζ=>by exact Kn ζ
|IF=>Ψ 0
|Rd ζ=>rR xlM ζ
|uW ζ=>rR bi ζ
|Je ζ η θ ι=>IX ζ hr ĵ
|xBC ζ=>ag[xUC ζ]
|xxH=>RV X.K H
|sW=>256^B.length
|sU=>xMu fn
|Kd ζ η θ=>(ζ,rfl,η,θ)
|sQ=>s0 _ _
|xVb ζ=>ζ=s.heap.objs.size
|xMJ=>JQ hsz.symm
|x2Y=>s.heap.IsSliceOf sl
|xBD ζ=>(ζ).map V.ref
|ybu=>JQ hma.symm
|A5=>kv.1
|xGC ζ=>by(rcases j with _|ζ)
|x2Z=>["_law_parts_here"]
|xMK=>s2.trans s'
|xGD ζ=>CZ s.W ζ
|ZA=>EM 64
|yiI ζ=>A.under[.builtin "type.__call__" ζ]
|xGE ζ η θ=>UF[findIn À "__init__"] θ
|UU ζ=>by rw [JP,ζ]
|gY ζ η=>by show ζ;exact η
|CF=>x2P j
|ybv=>.error e
|x20=>by split at h
|Tr=>fW d
|xxI=>X.drop m
|xVc ζ η=>((As.flatten.length,ζ,η))
|xML=>Value.bool _
|Ic=>Bf b
|oM=>Gf z
|Ib ζ=>oW g ζ g
|zqT=>_ ζ s.heap.objs.size
|xMM ζ=>envOfC qual zqT
|ky=>sgl wt
|yN=>by cases h
|xGF=>model ŷ
|x21=>xqp X RN
|yM ζ η=>by show ζ;rw [η]
|xGG ζ=>Value.int ζ t
|xGH ζ η θ=>(I.hok Ê).stay
|ybw ζ=>{s with toks:=ζ}
|kZ ζ η θ=>show ζ∈η from θ
|xGI=>JQ h.symm
|x22=>four n
|CE=>xAE 3
|xBE=>vR 64
|xGJ=>k7 "text"
|sN=>model zb5
|xVd ζ=>by simp at ζ;assumption
|xBF=>yit "copy"
|xBG ζ=>R.length≤ζ
|kY ζ=>JK t ζ
|uV ζ=>ζ≠p
|xMN=>Value.ref b
|A4=>xuy T j
|xxJ ζ η θ ι=>DF À ST θ ST ι
|zch=>_ AN .c
|xxK ζ=>.div (n:=ζ) zch
|xMO ζ=>by have:=ζ;lia
|yiJ=>MO (Obj.mapFields (·.setIfInBounds zjx))
|x23=>min 66
|xBH=>B.take i
|Br=>bD ?_
|xVe ζ η=>xlA ζ[xe9 η]
|xMP=>arrOf st'
|xGK=>["bundle"]
|xVf=>xwZ its.toArray
|xBI ζ=>by exact KQ ζ
|xGL=>(SA).length
|Cf=>.bl b
|xxL=>field fj
|xMQ ζ=>backTo pos[sR ζ]
|xGM=>none_of s1
|Yq=>Fl _
|TO=>.a Tm
|xxM=>xUZ cC
|Jd=>x2U _
|xxN=>.tbl ps
|xMR ζ η θ=>by have ζ:=(η).symm.trans θ
|xBJ ζ=>by unfold ζ at h⊢
|xMS=>Option Bool
|xGN ζ η=>B.take[max À]
|x24=>rel.val k
|ybx ζ η=>(List.replicate À).flatten.take
|Z0=>υ x
|xMT ζ η=>UF[cl.lookup ζ] η
|xVg=>UF X.env.frame X.env.locals
|xGO ζ η=>WF[makesIn À]
|Sx ζ=>xLP k_
|Yp=>qq H2
|uO ζ η θ=>(ζ).take[η-θ]
|ZZ ζ η θ=>SL Ê gE
|gQ=>UV l nl
|xMU=>by simpa using hu
|Sn=>.dK Sa
|Yo=>x.1
|xMV=>by simpa using hp
|Yn=>_O p
|SD ζ=>xqI ζ Z7
|xVh=>by simp;assumption
|CQ=>xzN C
|x25=>S'.drop W.length
|x26 ζ=>xMo[ζ/65536]
|Xt=>Ν n
|xVi=>.type "tuple"
|Bp ζ η=>xFI h À
|HK ζ η θ ι μ ν ξ=>Hu Ê SZ zeg
|kX=>Xj 3
|Jr=>rM 2
|o7=>vN m
|gM=>xUy C
|Bm=>p.2
|Jk=>vW 2
|wU ζ=>ybn ζ AN
|kW ζ=>Bv bM ζ aj
|xMW ζ η=>(xMa À).contains
|zbR=>_ X RN σ
|wR=>xs9 zbR Q
|x27=>yiD "_law_script"
|Ym=>Vr _ du du
|Rz=>List RM
|vf=>Ó X
|x28 ζ=>by obtain⟨_,_,_,ζ⟩:=hs
|xMX ζ=>autoParam ζ xfv
|xBK=>Ñ ps
|xMY=>["bundles"]
|kU ζ=>by have:ζ:=rfl
|yiK ζ=>congrArg[List.map ζ]
|xGP ζ=>ζ++Rs.flatten
|wQ=>.w SZ
|xMZ ζ η=>HC À Value.none
|XM ζ η θ ι=>Θ ĉ ae
|x29 ζ=>WF[X.fn ζ]
|x3a=>Þ "many_signs"
|vZ=>xw 1
|x3b ζ=>s1.trans[s2.trans ζ]
|xVj=>x2r "singles"
|wO ζ=>(E3 ζ)
|wN ζ=>Dz[Cv ζ]
|yby=>oF false hs
|xGQ ζ η θ ι μ ν=>cxOf zdy base ν qual
|oV=>JQ hl
|x3c=>List.replicate IL
|Pt=>Bool->jq
|uM ζ=>ZO _ ζ s
|oU=>yiq 0 lo
|o6=>h _
|gL ζ η θ ι=>∀{ζ} {η},θ->ι
|xGR ζ η=>λ _ ζ=>nomatch η
|wM=>K5 _
|xM0 ζ=>A.units+ζ
|xVk=>Ĩ xs.length
|x3d=>wpAny_newList ?_
|xVl ζ=>by show ζ;decide+kernel
|sL=>c.1
|xxO=>.sg s
|xBL=>J5 h1
|xVm=>us.map V.ref
|sJ=>ed L
|xBM=>BP.val R
|xxP=>by clear g
|Yl ζ η=>Dv[JY ζ] η
|Jh=>xwY q
|x3e ζ=>xUq ζ .local
|ybz ζ=>ζ=.function
|xM1=>ybz scope.kind
|Wg ζ η θ ι μ=>dN C4 zdy
|Be=>Gi 2 SZ
|Jf=>x2s z
|OT=>DY e
|yL ζ η=>kS ζ p CO η
|xM2 ζ η=>kS ζ p Ce η
|yK=>tU e
|È=>_ _ rfl
|Bb=>K1 È
|oS ζ η θ=>by refine ζ;show Sc Ù
|xxQ ζ η=>ybs À ck
|xxR ζ η θ ι μ=>fnOf À[xqJ st][xvK st] jn θ kV ι pm an μ ct
|xBN=>xu7 r H
|Jc=>xBN H'
|vY=>al S p
|Jb ζ η θ ι=>(ζ,H,η,θ,ι)
|xxS ζ=>o.data=ζ
|xVn ζ=>IsRangeIter ζ it
|xxT ζ=>eval ζ env
|xxU ζ=>S.length-ζ
|xM3 ζ=>Walk ζ p
|xVo ζ η=>xs.toList.take[ζ+η]
|xGS=>Y'.take l
|xGT=>Y'.drop l
|xBO=>.n 4000
|CH ζ=>r.length=ζ
|x3f=>S.drop W.length
|CC ζ η θ ι=>hC.keep[λ ζ η θ _=>ι]
|xVp=>rs.map V.ref
|ybA ζ=>hr.hand ζ Z9
|WE=>ya6 x c
|x3g ζ η=>wpS_bind[bv À]
|sI=>FQ hp
|yJ ζ=>xAL t' ry ζ
|x3h ζ η=>I.fpOk ζ[I.hok.fresh η]
|xGU ζ η=>dJ (ζ,.inr η)
|CB ζ=>ζ≤1900
|BS ζ=>Gi 64 ζ
|Yk=>vW 1
|xBP ζ=>us.length=ζ
|x3i=>x2A "_law_place"
|xxV ζ=>(ζ).count q
|x3j=>yiD "_law_right"
|ZY ζ η θ ι μ=>by show((ζ:η)=θ,ι=μ)
|wL ζ η θ ι μ=>by rw [ζ] at η;have θ:ι:=μ
|Ì=>_ b hb
|uL=>UV Ì
|xGV ζ=>aY ζ Q E
|ZX ζ η=>∀H',ζ->η
|Ja ζ=>ZX AA ζ
|BK ζ=>Ja[fi ζ H']
|xM4=>MG _
|ybB=>Value.ref g1.objs.size
|gA=>z.1
|Yj=>ak hb
|ybC=>s.heap.FunFrames X.base
|oK=>PA X
|xBQ=>Sem Bool
|xM5 ζ η θ ι μ ν ξ=>by obtain⟨ζ,η,θ,ι,μ,ν⟩:=I.lstM ξ
|xM6 ζ=>{X with H₀:=ζ}
|eM=>val B
|oJ=>rl T
|xGW=>S.take p
|xM7=>Kp.mp h.s1
|xM8=>Kp.mp h.s2
|xxW ζ=>[V.ref ζ]
|xGX=>C9.Good L
|xGY=>["piece"]
|xM9 ζ=>some[V.ref ζ]
|xBR=>.ref c'
|x3k=>plainId_quiet M1
|x3l=>s₁.heap.get? b
|xVq=>["many_signs","signs_check"]
|dU=>ya7 64
|ybD=>(DZ).drop
|A1 ζ η=>xu À s
|fz=>RelV v u
|cj=>Ak xAJ
|HJ ζ η θ ι μ=>dN [_,_,_] zdy
|BJ=>xUE n
|f7=>BY 1
|yI=>.m 8
|xBS=>Ω Xp
|xVr ζ η=>AQ "many_signs" À
|vX ζ η θ=>El ζ ST η ST θ
|xBT ζ η θ=>Du[LP Ê ?_]
|sF ζ η=>(ζ+η).toNat
|wK=>o6 _
|xBU ζ η=>xs3 À p d
|BX=>.str x
|xNa=>by simpa using e
|x3m=>λ _ _ _=>False
|cD=>e::es
|xVs=>.type "int"
|ybE ζ=>(s1.heap.push ζ).objs.size
|oG ζ η=>((none,ζ,η))
|zy ζ=>(LC.mp ζ)
|bu ζ=>((none,ζ))
|x3n=>h1.symm.trans e
|uy=>by unfold nb
|xGZ=>R.take s
|vT=>pv 10
|xxX=>.n 255
|xxY=>.n 300
|IY ζ η θ ι μ ν=>DE Ê Δ zdQ
|vS=>C7 Tm
|xBV=>rT te
|xBW=>HV Δ
|oE ζ=>JW[JQ ζ]
|o5 ζ=>nO H ζ
|vP=>xFR AB
|xG0=>RV.of ae
|Iq=>by cases z
|xBX=>yT aj
|vO=>ZN SZ
|Io ζ η θ ι μ ν=>(vcv,ι,_y)
|tH ζ=>rI0[xMz ζ]
|zb2=>_ scope cl
|yiL=>xlF X N zb2 fp
|Ii=>by exact q
|xNb=>["bale","place","many_signs"]
|vM=>TD[hz xxe]
|Vz ζ=>Sc e ζ
|x3o ζ=>Qn ζ isSubtype_stop
|yiM=>IsTup s.heap
|xG1 ζ η=>by(injection ζ with η _)
|ybF=>s.heap.Ns X.env.locals
|xxZ=>X.pn++RN
|x3p ζ=>X.env.scope.kind==ζ
|xVt ζ=>(ζ).stop i
|ybG ζ η=>Builtin.Slice.slicePlaces À 1
|x3q ζ=>subscripted ζ false
|xNc=>NS.mp this
|ybH=>b.extract ib
|x3r ζ η θ=>(ζ).eraseIdxIfInBounds[η+θ]
|x3s=>SM.Sm SG.ltI
|Ig=>b.1
|xx0=>V.ref q
|vL=>Good L
|sk=>hP L
|xNd=>W13.Walk L
|x3t ζ=>st.heap.objs.size+ζ
|x3u=>Ų n
|xVu=>mg "BadBody"
|xNe=>sa T
|wJ=>xNe k
|vJ=>Goal w
|xNf ζ=>.turned (ζ).ls
|x3v ζ=>((ζ,.globalImplicit))
|xBY=>.ref ea
|xBZ=>.lst xs
|xx1 ζ η θ=>fH[F.okE À] θ
|BI ζ η θ ι μ ν ξ=>HD ĉ (_y,ξ)
|xG2=>xLI 272
|xx2 ζ η=>yB zjF
|xVv=>call Xl
|B7 ζ η=>HC L À
|B5 ζ η θ ι=>xFK k_ ĵ
|xx3=>É jv
|wH ζ η=>κ.blt[zA ζ][zA η]
|yiN=>κ.blt[zA key]
|o4=>h.2
|xx4 ζ η=>vD zjF
|xG3 ζ η θ=>(ζ).filter[kP Ù]
|xB0 ζ η=>Õ ζ[rT η]
|xB1=>.inr jl
|ZW ζ η=>kS ζ p C η
|xVw=>xw8 wt true
|vG ζ=>kM È È ζ
|xx5 ζ=>ζ->Bool
|bf ζ η=>λ ζ η=>Al
|vE=>L.length=272
|Aq=>Ų S.length[ju S]
|AR ζ η θ ι μ ν ξ ο=>xBu _Y ξ ο true
|wG ζ=>by rw [Kh ζ]
|x3w ζ=>ha RN ζ σ
|bZ=>Sr K H
|xB2=>xyn P w
|zdH=>_ vs H Q
|å=>_ zdH E
|o3=>sp å
|xVx=>fs.lookup f
|x3x=>Vis X.env.scope
|ybI ζ η θ ι=>{ζ with heap:=h',gens:=η,drawn:=θ,toks:=ι}
|ybJ ζ η θ=>by obtain⟨ζ,⟨η,_,_,θ,_⟩,_⟩:=I.loc
|ybK=>I.mod.glob.keeps I.bk
|xVy ζ=>I1.kept (t':=ζ)
|x3y=>Option NameKind
|x3z ζ η θ ι=>by(rcases ζ with⟨rfl,η⟩|⟨θ,ι⟩)
|xx6=>ExI K
|xNg=>xvg.refl _
|xG4 ζ=>bv (i:=ζ)
|x3A=>SG.ord SG.ð
|xB3=>codes L
|x3B=>Þ "finished"
|ybL ζ η=>["_law_text",ζ,η]
|x3C=>["_law_script"]
|sD=>υ tx
|rZ=>υ bl
|rY=>υ ro
|xVz=>C' H1
|uF=>vN c
|ue=>Ee aj
|xG5=>Gi 64 SZ
|ud=>Ak xFL
|uc=>Ak xAN
|ua ζ η=>Au[xFP À]
|uH ζ η=>tR[xFH À]
|az ζ η=>by rw [ζ,JP,η]
|x3D=>DT rfl
|xNh ζ=>Ω[X.mg ζ]
|uG=>V7 xs
|xVA ζ=>xMv ζ True.intro
|wF ζ η=>rI ζ[xMz η]
|ZV=>g2 İ
|ZU=>gg İ
|yG ζ η θ=>xfe Ê[xlH _]
|aw ζ η θ=>by show(Bj À,A6 θ)
|zx ζ η θ ι μ ν=>by show(Ty ĉ,μ=ν)
|ybM=>items.toList.drop oU
|EG ζ η=>(∀ζ,η)
|xVB ζ η=>NL.le À c.length
|uE=>PS X
|xG6 ζ η θ=>uE[.Assign Ê]
|xG7=>by have:=r.un
|x3E ζ η=>by obtain⟨_,ζ⟩:=Ka.mp η
|ybN ζ=>ζ++Eb.reverse
|zv=>Ψ k
|wC=>xAF X
|aq=>by exact h
|sh ζ η θ ι=>UF ζ[.ins ĵ]
|uD=>b.2
|xG8=>Xk e.symm
|ybO=>xs.toList.Pairwise Di
|HI ζ η=>by have e1:ζ:=η
|u6=>K26.Txt Â
|yiO ζ η=>backToKw ζ[keywordEach η X.env]
|vC ζ η=>by refine xyj À
|x3F ζ=>s2.heap.push[xLT ζ]
|xB4=>by exact this
|xNi=>IE xAS
|xG9=>by unfold û
|xB5 ζ η θ ι μ=>xrR À Z7 _K μ .nil
|xx7 ζ η θ ι=>x2F Ê[Ă ι]
|xVC=>rem T Rs
|uY ζ η θ=>(ζ,UV Ù)
|tu=>xe4 Í T
|yF=>xGA x
|tZ=>xfz _ _ _ _
|xVD ζ η=>tupleKind[xyh À]
|xHa ζ η θ=>by show([-ζ,-η],θ)
|xB6 ζ=>B.length+ζ
|uU ζ=>aF[xfU ζ]
|x3G=>by dsimp only;split
|x3H=>TM.k.trans hk
|xVE=>pos C
|xNj=>Rb.map vN
|x3I ζ=>cu ζ T0.cl
|xHb=>ü X
|yiP ζ=>wpAny_handleBy_cons[codeAny_handlers_test ζ]
|xVF=>ç.map vN
|xHc ζ=>.sub (n:=ζ)
|xHd=>.ref cd
|yE=>Ν k
|xVG ζ η θ ι=>by show((Č,_)=θ,ι)
|sH=>C7 Δ
|xHe=>rQ 64
|uT ζ=>xwY[th ζ]
|xHf=>h.get? a
|ybP ζ=>ar[UV R2 ζ]
|xHg ζ η θ ι μ ν ξ=>by show(TL,(Į,_y)=ξ)
|wB ζ η=>by have:ζ:=η;show xFX
|rX=>mz Im
|xNk ζ η=>by intro ps ζ;cases η
|aZ ζ=>Hl ζ xs
|uS ζ=>ak[pq ζ]
|xx8=>yy 3
|xVH ζ=>JQ (ζ).symm
|xNl=>start N vs
|ybQ=>xGr its.toArray.size
|wA=>.frz o u
|xHh=>["signs","size","end"]
|xVI ζ=>List[Option ζ]
|w8=>sR cD
|rS=>ybP g2
|uQ ζ η=>(ζ++η).drop
|ybR=>s.heap.IsListIter it
|xNm ζ η=>seqItems? ζ>>=η
|xVJ=>Decidable c
|ybS=>ys.toList.map (·.1)
|oz=>K.In h
|oy=>_n L
|xHi ζ η θ ι=>by rintro ζ η⟨θ,rfl,ι⟩
|xVK=>Sm.mem O
|xVL=>Sm.trans ?_
|xVM=>by simpa using hy
|xVN=>xvg st0
|yiQ ζ=>h4.update ζ (Obj.mapSeq λ _=>out.map (·.2))
|xVO=>by simpa using h0
|xVP=>s3.trans s4
|xB7=>row L
|xNn=>.tbl #[]
|xNo=>LJ SH
|xHj=>["head"]
|xB8=>nb F'
|xVQ=>mg "Behind"
|ã=>_ hb hl
|w6=>xlB ã
|xVR=>hp.same s2
|w4 ζ η=>Sc[Kh ζ] η
|yo=>υ r
|uw=>υ rr
|uP=>by cases h1
|cm=>Fy Nat
|uN=>by rw [ec]
|uK=>by subst e1
|Ie ζ=>EL ry ζ
|xNp=>by cases ry
|IZ ζ=>Gj ζ g2
|xx9 ζ η=>by unfold ζ;show CM η
|uv ζ η=>Sc[ya9 ζ] η
|xNq ζ η θ ι=>by generalize sG Ê=ι at*
|eE ζ=>∃m',ζ
|yn=>xw4 V
|iw ζ η=>by(rcases ζ with h|η)
|uC ζ η θ=>Κ[ai À] θ
|ur=>Ak Bw
|Xe=>Gi 8 SZ
|zu ζ η θ=>Ud dx Ê
|xB9 ζ η θ=>upd À[.own θ]
|xCa=>xFW pos
|xCb=>x2B z
|xVS=>nP A.length
|uq=>mV s'
|uJ ζ η θ=>by have:=ζ;rw [η,θ] at this
|uk=>.a Φ
|xNr=>xuH ŷ
|xCc ζ=>DR ζ M'
|Vy ζ η=>∃t,UF[mg ζ][Sf η]
|Fg=>Tr r k
|xNs=>["row","many_signs"]
|aP=>Tl m
|cR=>yiL s H
|Xd=>st _ _
|cI=>UO _ _
|xHk=>xqB KU Lb Lf xlG
|uI ζ η=>(ζ).toList=η
|nr=>M8 _
|tX ζ η=>λ ζ H1=>η
|uB ζ η=>t Ä[tX À]
|xVT ζ=>.Attribute ζ f
|xCd=>mroIn K
|xNt=>I.list h2
|x3J=>by exact Nat.one_pos
|xVU ζ=>a.extract ζ na
|xVV ζ=>b.extract ζ nb
|xNu=>Q.count q
|xNv=>["signs"]
|xNw ζ=>tryCatch ζ _
|xNx=>Sr.of ht6
|xNy=>Option LE
|zt=>υ l
|xCe ζ=>ζ=S.length
|xCf=>List IA
|aH ζ=>xvX X[compareOp ζ]
|o1 ζ=>autoParam[¬ζ] xfs
|u9 ζ η θ=>x2o À hz[I.list θ]
|aO ζ η=>(ζ).length+η
|xHl=>.ref Iy
|Xc ζ η=>xvL xrV ζ xrQ[xu3 η]
|xHm ζ η=>xw1[iq ζ] η
|gp=>(b_ S q).2
|xHn=>Le blt kf
|nZ ζ η=>xA8 ζ[xBp η]
|xNz ζ=>(ζ).length<1000
|nD ζ=>Gv ζ Ä
|ybT=>.int hi
|xVW=>["lengths","place","ahead"]
|Xb ζ=>ni p C ζ
|yiR ζ=>.or (a:=false) (b:=ζ)
|yiS=>Calls.Name_function_global I.ok.kind
|gc=>.ref q
|x3K=>ms.map V.int
|xCg ζ=>ζ+r.length
|xCh ζ=>ζ*S.length
|xNA=>C.map vN
|ybU=>Data.seq vs.toArray
|zr=>υ o
|x3L ζ η=>UF[X.env.kindOf ζ] η
|ybV=>Bf s.heap.objs.size
|ym ζ η=>xFI z À
|xHo=>xwX ob b
|tT=>rP 2
|zq=>xAK 0
|zp=>xAK 1
|xVX ζ=>xzd.part k_ AN
|xVY ζ η θ=>xU5 ζ (η,.inl[AK θ])
|x3M=>ybL "_law_size" "_law_other"
|x3N ζ=>ha pos RN ζ σ
|xHp ζ=>(Kr ζ).symm
|zo=>im _ _ _ _
|Ei ζ=>λ q=>ζ
|EO ζ η=>(∃ζ,η)
|nV=>x.d c
|zm ζ η θ ι=>by rw [ζ,η,θ,ι];rfl
|x3O=>I.base.frzs b
|xNB ζ η=>W ζ m' η σ3
|xVZ=>λ _=>true
|ybW ζ=>cellsFrom ζ scope.names
|W5=>_Q n
|ybX=>Int.not_lt.1
|xNC ζ=>by unfold ζ;split
|W4=>JU 14
|xHq=>xlD KI
|u7 ζ=>yiG[base+ζ]
|x3P=>κ.negTrans _
|W3=>J6 hj
|x3Q ζ η θ=>by obtain⟨ζ,_,η⟩:=MY.mp θ
|xHr=>bb.2
|xND ζ=>xqj[xu2 ζ]
|xV0 ζ=>cn[Qs.take ζ]
|xV1=>hT.same s1
|ybY ζ=>.ExceptHandler[some ζ]
|xV2=>Rs.take m
|xV3=>ho.same s2
|Ff=>υ C
|xCi ζ=>by rw [ζ] at hj
|f6=>.n 12
|eu=>ac aj
|WD ζ=>JJ[vN ζ]
|dv ζ η=>WF[blt À]
|x3R=>Y.Pairwise Di
|xV4=>k7 "tail"
|xV5=>k7 "wide"
|W2=>Eu ck
|zl ζ η θ ι μ ν ξ=>cF ĉ rfl μ ν ξ
|dQ=>AV JA
|xV6=>pyNext fj
|aG=>(x2q k).length
|VG=>ju T
|VF ζ η θ=>show ζ≤η from θ
|cJ=>Ar zB
|xNE ζ η=>(tr À).trans
|Ds ζ=>by have X:=ζ
|zfX=>_ κ.blt zA
|W0=>Sm zfX
|Vg=>yx te
|Xa=>xAV L
|VL=>kindOf sq0=oneType'
|bL ζ η θ ι μ ν=>∀(ζ:η) (θ:ι) (H':μ),ν
|VJ=>Vals Uu ds
|VC ζ=>EN H l1 ζ
|VI=>xrv mg base
|xCj ζ=>Sd C ζ r d R
|Uy=>sR es
|x3S=>(x24).isSome_eq
|UM=>xFJ X.K ps ds
|Ur ζ=>yiN[eV ζ]
|Bx ζ η=>Sc ζ[η]
|xV7=>.fields us
|xNF=>Q ()
|xV8=>pure false
|aU=>pure x
|xNG=>P.zip vs
|ybZ ζ η=>{ζ with heap:=s3.heap.push η}
|xNH ζ η=>by simp only [h,ζ,η]
|xCk ζ η=>xfq À scope
|yb0=>SM.eqv SG.ð.blt
|xHs=>by simp at hB
|Fc=>no _
|xV9=>Pp.map th
|xWa=>K26.C.xu8 G
|xNI ζ η θ ι μ ν ξ ο=>by obtain⟨ζ,η,θ,ι,μ,ν,ξ⟩:=hN.gb ο
|X9=>Ψ m
|xCl ζ η θ=>by show([-ζ,η],θ)
|x3T=>.type "dict"
|ui=>Tl i
|aA ζ η=>HC ζ j η
|Fb=>xUt b
|EZ=>JB 8
|x3U=>pendingOf U2
|EY=>Eu d
|eC ζ η=>BG ζ C η
|EX=>nN e
|Um ζ=>.a[Ar ζ]
|Zg=>ĩ S p
|Zf=>aE sq0
|UJ ζ=>xL4[xMz ζ]
|uf=>by rw [e]
|Y7=>vc P w K RZ
|EW=>GN T Rs
|Zz ζ=>by have ih:=ζ
|U9 ζ η=>(ζ-η).toNat
|xCm=>ys++[y]
|xWb=>nO H4 xCm
|xWc ζ=>ybo ζ<cLine
|yb1 ζ η=>yiR false ζ[λ _=>η]
|x3V ζ=>(Mw.mp ζ).1
|UT ζ=>(dx,ζ)
|x3W ζ=>setFlight zeO
|xWd ζ=>Value.str ζ t
|yb2=>X.env::X.outer
|xWe ζ=>(ζ).yld i
|xNJ=>by have:=r.dp
|xWf ζ=>F.run ζ outer
|yiT=>wpAny_newFunctionEnv_cells S.kind
|x3X=>.ref sl
|yb3 ζ=>RR ζ s3.heap.objs.size
|xWg ζ=>by(injection h with ζ)
|xHt ζ=>ζ≤xs.size
|x3Y=>JQ hmb.symm
|xHu ζ=>xs.toList=ζ
|x3Z ζ=>Y.length-ζ
|xNK=>X.take k
|yb4 ζ=>by obtain⟨_,_,_,_,kp⟩:=ζ
|yiU=>Builtin.Builtins.bindParams "min"
|x30=>V.int.inj z
|UI=>two c
|UB=>mk bg
|xNL=>.word z
|xWh ζ=>Gv.eqc (K:=ζ)
|xWi ζ=>Gv.new (K:=ζ)
|xCn=>.ref y
|xCo ζ=>D8 ζ 64
|DV=>.n 9
|xWj ζ=>ns.length≤ζ
|X8 ζ η=>Γ JO À
|yb5 ζ η θ=>WF[Builtin.Range.small Ê]
|Tt=>Vu h' t'
|DN=>Xj 0
|xHv=>zA key
|xCp=>nO H1 []
|Zy ζ=>xLS _[RV.of ζ]
|xWk ζ η=>bindArgs ζ[BC η]
|TP=>kO "course" x []
|xCq ζ=>DI ζ nl
|xCr ζ=>Ju ζ n
|DL ζ=>xA0 ζ k
|yl ζ=>(DH ζ)
|uA ζ η=>h ζ[AU η]
|xWl=>xBe "text" "before"
|xWm ζ=>Et ζ.2
|Ts=>xxA Tm
|xCs=>by refine Gw
|TF=>(yA).irr _
|D9 ζ η=>ybn ζ[xxK η]
|lQ ζ=>Q ζ H
|zw ζ=>lQ[vN ζ]
|xHw ζ=>Ó ζ body
|xWn ζ=>Rs.flatten++ζ
|x31 ζ η θ=>xMw[yD ζ[yD Ù]]
|yk ζ=>xGV ζ s
|xZ ζ η=>(o,Č)
|HH=>H x
|Gk=>H b
|xHx=>.cell v
|xNM=>J.stop i
|zY=>Itl K a
|x32=>congrArg not
|x33=>bindL kindOf
|x34=>bindC kindOf
|xWo ζ=>(ζ).take k
|xWp ζ=>xs.length+ζ
|yb6=>HT._Q its.length
|X7=>H4 l
|xNN ζ=>ζ<ns.length
|xWq ζ=>rv.get (i:=ζ)
|x35 ζ=>by simp [List.getD,ζ]
|xHy ζ=>S.length=ζ
|yiV=>a.extract ia
|yb7=>a.toList.take na
|yb8=>b.toList.take nb
|yb9=>hB.sm.2
|yca=>kla_fn "<lambda>"
|Tz ζ=>DB[hb x ζ]
|xWr=>CpR R
|xHz ζ=>ζ<A.length
|xNO=>Sr.of h0
|xHA=>rEqD K
|ycb ζ=>(ζ).S.map vN
|x36=>K26.Ck.Cks K
|x37=>sS ys.length
|SQ ζ η=>Ef zeZ
|zP ζ η=>JH zeZ
|zN ζ η=>Vr rfl À
|S9 ζ η θ=>UF[Vq À] θ
|TC=>vN 0
|X6=>Eu r
|xWs=>.a Δ
|x38=>AJ Pp.length
|zK=>xxc xs
|zJ=>yiq items.size hi
|z8=>Ω[K.lookup Tb]
|ycc=>Iw "signs_check"
|xCt ζ η θ ι μ=>(Į,μ,false)
|EV ζ η θ ι μ ν ξ=>(vcv,ι,_y,ξ)
|X5=>my C
|xWt ζ η=>yix A E s À sq0
|dm ζ=>xWt ζ Q
|HG=>k _
|xNP=>bale T sP
|xHB ζ η θ ι μ ν ξ ο=>by obtain⟨ζ,η,θ,ι,μ,ν⟩:=hf ξ ο
|X4=>xw5 K Xl
|X'=>uV b
|yj ζ η θ ι=>Bg À ST θ ST ι
|xNQ ζ η θ=>El ζ SZ η SZ θ
|wg=>Ja ybb
|ĳ=>_ p hp
|pL=>UV ĳ
|xHC=>xuH P w
|xNR=>xkm Í
|Zx=>b≠e
|ycd ζ=>s.heap.IsList ζ items
|yce ζ=>by obtain⟨_,_,_,e,_⟩:=ζ
|x39=>frs X.stack
|xWu=>X.wish E
|xNS ζ=>ζ≤1000000
|yi ζ=>out++ζ
|W9 ζ η=>∀u∈ζ,η
|wc=>JQ h
|x4a=>s4.trans s5
|ycf=>X.mg "__name__"
|ycg ζ=>wpAny_updateSeq k_
|xWv ζ=>(Kh ζ).trans
|xNT=>["first","inside"]
|ych=>T.drop W.length
|xHD=>["bale","end"]
|xWw=>X.map vN
|xCu=>.n 24
|xCv=>IT AS
|zry=>_ C s.heap.objs.size
|xWx=>instObj zry
|xWy=>.inr rfl
|Qt ζ=>AX _ ζ
|xCw=>rM 13
|xCx=>AV Hb
|Z3 ζ η θ=>pY _ Ê
|xX=>RT a b
|Hy=>by cases e
|ă=>_ _ È
|zj=>NL.xeM ă
|xCy=>xLY SZ
|xCz=>mz χ
|xCA=>xxn AS
|xW ζ η θ ι μ=>JG È zdy
|EU ζ η θ ι=>by show ζ;rw [η,θ,ι]
|xWz=>b.drop s
|xNU ζ=>dot c ζ N
|SU=>xuy T Β
|Zv ζ η θ=>kM _ k_ Ù
|xWA ζ η=>by obtain⟨ζ,h2⟩:=η
|pJ ζ η=>by rw [Kh ζ,η]
|zi ζ=>ζ≤12
|zh ζ=>kk ζ È
|Hx=>kY rx
|xCB=>TO Η
|xWB ζ=>JY[xve.mpr ζ]
|yiW ζ=>BP.num[xLJ xFM t ζ]
|xCC=>yiW s
|x4b ζ=>rT[tC ζ]
|Tf ζ η=>vG[bj À]
|pI ζ η θ ι=>Cn[Hj À][Hj _K]
|xCD=>pq nx
|yci ζ η=>λ us ζ⟨vs,H2,I2,r,q2⟩=>η
|Hn ζ η θ=>rE È ζ _ Ù
|xHE=>My _
|wa=>Lg _
|vz=>hf Ì
|xCE=>Itr lo
|x4c ζ=>F.run ζ X.stack
|yiX=>Around.frames_deeper e0.frames
|Zu=>y.1
|yiY=>codeAny_call_function hr.depth
|xWC=>.Try body
|Zt=>H2 c
|TZ=>fR d t
|x4d ζ η=>Beg ζ[rest.take η]
|ycj=>List.replicate z
|x4e=>s5.trans s6
|SS=>.st s
|yck=>List.mem_cons.1
|xCF=>xfO rfl
|xWD ζ η=>Υ ziy
|xCG=>dJ Z9
|xHF ζ η=>.cat ζ[AN η]
|ycl ζ=>Builtin.bitAnd[Tl ζ]
|xWE=>Xk hb.symm
|E9=>rP 1
|vw ζ η=>Sc[Kq ζ] η
|SP ζ=>by obtain⟨_,_,FI,bI,MI⟩:=ζ
|x4f ζ=>Ar[rM ζ]
|T8=>CA 2
|xWF=>Iw "rest"
|xCH=>JB 256
|Hk=>EM 3
|Zs=>z.2
|Hi=>BE 8
|Hh ζ=>vA AB ζ
|Hd=>ux h1 h1
|SF=>by exact q'
|SX=>xAR Wp β
|Zr=>pS 1
|LB=>vW 3
|xWG=>List.replicate L.length V.non
|vv ζ η=>by show(π,DW À)
|xCI=>StateT SortSt Sem
|xHG ζ=>aB ζ Si
|xNV=>xFJ K ps
|CP=>ak n
|xCJ ζ η=>by rw [JO,ζ] at η
|vq ζ η=>(show ζ from η)
|vp=>x21 H
|CD ζ=>by rw [Kq ζ]
|xWH ζ η=>(æ ζ b η).length
|ċ=>_ a xs
|Zq=>zR ċ
|zjI=>_ scope X.env
|ycm=>relabel zjI
|tS ζ η θ ι=>SB À BM θ[ED ι] BM
|Ap=>xVz H2
|SE=>by exact cW
|RB ζ=>DQ[Fy ζ]
|xWI=>Ds Z.H.N.X
|x4g ζ=>xUP TR.cl Tk GT ζ yc
|Mh=>x4g TQ
|AG ζ η θ ι μ=>by exact(Į,μ)
|x4h ζ η=>(xuI À).length_eq
|Zo=>Wu _ _
|ycn=>(ycm).names.lookup
|ZT=>xfa _ _ _ _
|xV ζ=>Tl[ζ+1]
|jT=>xV i
|x4i=>JW I.ok.bsz
|yco ζ=>wpAny_standAt[JV ζ]
|xCK=>JS hi[xLQ RQ]
|xy=>h2.1
|xWJ ζ=>σ3.length=ζ
|xv=>d4 ps
|xr=>Mc Z9
|Mg=>a.size+b.size
|xp=>KH hk
|wI ζ η=>(ζ++η).Perm
|yiZ=>Builtin.Range.rangeFitsLong i
|xyA=>xrL iA hb
|x4j=>ShG L
|Ċ=>_ Z9 Z9
|xo=>bx Ċ
|x4k=>s.trans s1
|x4l ζ η θ=>by have ζ:η:=θ;dsimp-zeta only
|jP=>[Dc,Aj]
|xn=>xw4 RA
|xU ζ η θ ι μ ν=>by refine ζ;show xLO ĵ μ ν
|xNW=>Ee χ
|xk=>Eu co
|jO ζ η θ=>zS ζ hr Ù
|yi0=>Builtin.Tuple.tupleItemsOf yd
|xS ζ=>Aw ζ ?_
|xHH ζ=>by rw [KS] at ζ
|x4m ζ η=>List.replicate[ζ+η]
|x4n=>(pT).reverse
|xR=>yZ hb hb
|xHI=>.m 64
|vn ζ η θ=>zU[xu1 ζ] Ù
|xj ζ=>by exact xUN ζ
|xWK ζ=>x2G "range" ζ
|xb=>JU 64
|x4o=>bJ xs
|xWL ζ=>Tl (ζ).length
|xQ=>by have Si:Gu:=BM
|xHJ=>V7 X.N
|xO ζ η θ=>by show([ζ],Υ Ù)
|xyB ζ=>jF[A7 ζ] 200
|vm=>sQ e
|xA ζ η θ ι=>Fu[.bl ζ] ĵ
|xyC ζ=>Q[some ζ] sq0
|wx=>ap xzI aj
|xyD ζ=>λ _ h=>ζ
|wk=>Ω sL
|xHK ζ=>by rw [ζ] at hb
|Ha ζ=>xFJ K ζ []
|HZ ζ=>yB b ζ
|xHL ζ=>blt[kf ζ]
|ycp ζ η=>λ us ζ⟨vs,H1,I1,r,q⟩=>η
|eG=>b∉ch
|ycq ζ η=>tD[tD[xff À]]
|eF=>vN xCC
|ycr ζ=>xLL "range"[.fields ζ]
|eB=>xNV []
|x4p=>["_law_opener","_law_row","_law_start","_law_wrong_here","_law_due"]
|xNX=>xUP TB.cl Pu GP Uj
|yi1=>PySem.Within mA
|yi2=>X.s₀.heap.FunFrames X.base
|ycs=>s.heap.IsCell c
|xyE=>PT X
|yi3 ζ=>wpAny_pyIter_range[IsRange.new ζ]
|dg=>LH _ _ RQ
|yct=>attributeBase e
|x4q=>by simpa using h2
|yi4=>Builtin.Slice.sliceAdjust lo
|ycu=>s.heap.update p
|ycv=>s.heap.IsList p
|xWM=>numAt ys
|yi5=>wpAny_comprehension_free rfl
|yi6=>X.stack.filterMap (·.frame)
|pH=>c.2
|xyF ζ=>ζ+b.toNat
|xHM ζ=>ζ<T.length
|xNY ζ η=>T.map[λ ζ=>η]
|ycw=>Int.ofNat_le.1
|xNZ=>by simp [JT]
|yi7 ζ=>((As.flatten.length,ζ))
|yi8=>by unfold Builtin.Range.rangeFitsLong
|pG=>H2 l
|x4r=>JQ YR.symm
|ycx=>λ {m n}=>Qr.mp
|xN0=>fC n
|xN1=>JQ hl0
|xHN=>.st s'
|vj=>by intro z
|pF=>Bf p
|vi=>Sf i
|yh ζ η=>Ο À q
|pE=>RelV y u
|pD=>Eu b
|xHO=>II q
|xHP=>vD a
|zg ζ η θ ι μ=>ET Ê ST zcd
|xWN ζ=>ζ≤T.length
|xHQ ζ η=>show bz ζ from η
|dY=>JU 8
|pA=>xGe k
|zge=>_ this this
|ycy ζ=>Ek ζ zge
|xHR=>xMo n
|xWO ζ η=>AQ "blocks" À
|xHS=>by refine M'
|lK ζ=>A8 ζ e e
|oj=>te Ä
|x4s ζ=>ç.take[xGD ζ]
|dI ζ=>ζ≤100
|vh ζ η θ=>xw1[PW.pt[xVe À]] θ
|xWP=>RV.of hl
|xHT=>x26 n
|xN2=>wU 256
|xWQ=>RV.of hB
|xCL ζ η=>DB[kj hx À]
|xyG=>Kh h1
|xN3=>s.toks+1
|xJ=>CZ jD r
|oX=>xB2 H h
|xN4=>b∉X.fs
|xyH=>Kh h2
|xN5 ζ=>tTup[x4b ζ]
|ycz ζ η=>xzF À false false
|xHU=>xqE κ a b
|oQ=>xfV _ _ _
|oP=>xvc H x W
|VT ζ=>λ h=>ζ
|lG ζ=>ζ≤n
|xI=>vY b m
|xN6=>E.sum c
|x4t ζ=>assign zeJ
|xN7=>J.yld i
|xN8 ζ η=>EO m[W 0 m [] À]
|â=>_ σ' H'
|dt=>W i m ys â
|x4u ζ=>ζ≠.free
|yi9=>wpAny_sequenceKey ht.typeIs
|ycA ζ=>seqIndex_neg[O7 ζ]
|ycB ζ=>d.params.defaults=ζ
|ycC ζ η θ=>wpAny_Try_except[LZ Ê]
|x4v=>.ty "list"
|xHV=>.n 40
|xN9 ζ η=>out.push ζ[(η)]
|x4w ζ=>{s' with heap:=ζ}
|yja=>Nat.eq_zero_of_le_zero hB
|x4x=>.n 100000
|xOa ζ=>u.length-ζ
|xHW ζ=>runP ζ Pp
|xHX ζ=>CK.xs2 ζ p
|dH ζ=>ζ<65536
|x4y=>Rs.drop j
|x4z=>["_law_way","_law_count","_law_inside"]
|x4A ζ=>(ζ).nameGoes hN
|x4B=>XE.same s4
|xWR=>.ref D0
|xyI=>.n 2
|xHY=>.n 14
|xHZ ζ=>.add ζ AN
|x4C ζ=>kO "waiting" ζ
|xH0=>Bu ST
|dF ζ η θ=>Ω[xUw Ê]
|xH1=>AV Ey
|xH2=>CA 64
|xyJ=>EI 3
|xWS=>EI 1000
|rL ζ η θ=>(cg Ê)
|xOb ζ=>Gi ζ bP
|dE ζ=>yB a ζ
|xyK=>xFW p4
|xH3=>Cj Ε
|xH4=>G8 SZ
|xyL=>ZP 8
|xCM ζ=>Dm[Fp ζ]
|xOc=>xxs ".0"
|xH5 ζ=>(ζ).get? b
|xH6=>mz mQ
|vg ζ=>.add (m:=ζ) .c
|xH7 ζ η=>xMt[kk À]
|xCN=>Eb++D0.reverse
|d8 ζ η θ ι=>ig[Bv Ê] ι
|xyM=>.thing q s
|xH8=>kW Ab
|xH9=>Be ST
|x4D ζ=>jH xs.toList[xBc ζ]
|Ub ζ=>xxQ ζ co
|xIa=>ED 31
|xCO=>sk Pp
|UZ ζ=>xFH g1 ζ
|Tn ζ=>EN H4 l5 ζ
|dD=>xVC 0
|xOd ζ=>R.drop[ζ-ok]
|xOe ζ=>xyw C ζ r d b
|x4E ζ=>(ζ).drop q
|xyN ζ η=>ħ 8 29 [ζ,η]
|xIb=>exO cls vs
|xyO ζ=>(RS,iter,ζ,0)
|xOf ζ=>UF ζ .cell
|xG ζ η θ ι=>Cn[ya À][ya _K]
|xIc=>AU hy
|Sg ζ=>ho RN ζ σ
|xCP ζ=>.a ζ JD
|xId=>(xUu).push xWx
|xWT=>xAP cls vs e
|oO ζ η=>Ty h1 ζ h2 η
|x4F=>.fields ts
|x4G=>I.stkSub b
|ycD=>Array GenState
|x4H=>.Compare a
|xCQ=>by cases z'
|yjb=>wpAny_pyNext_range_item st
|xWU=>T.keep _
|x4I=>plainGet K
|yjc=>Str.ofString "__getitem__"
|ycE=>seqIndex_of h0
|ycF=>sliceBounds lo
|ycG=>excClassObj nm
|yjd=>unbindBehindTheSuite X.env
|ycH=>s1.heap.get? T
|x4J=>IntsAre kv
|x4K ζ=>(("rest_size",ζ))
|x4L=>Tx.map vN
|ycI=>Nat.le_zero.1
|xWV=>X.drop x
|xOg ζ=>ζ<R.length
|x4M ζ=>(S.map ζ).sum
|xIe=>xfJ rfl
|xF=>fC d e
|x4N=>W13.StOk x
|x4O=>["things"]
|ycJ=>.type "module"
|xWW=>BP.val A
|cU ζ η θ ι=>ItR ĉ b'
|xWX=>["text"]
|x4P=>["_law_e"]
|xE=>xht T
|x4Q=>I.tuple h2
|xyP=>υ l3
|xD=>Ψ 8
|xIf=>some x
|ycK ζ η=>UF[s₁.heap.get? ζ] η
|xyQ=>Fy RC
|xWY=>RV.of XT
|wz=>xLK 3
|xyR=>BY 32
|xyS=>BY 31
|xIg=>zC 125
|xWZ=>Iw "way"
|xyT=>xUx U2
|xW0=>(xw6).size
|xCR=>xFM t
|ycL=>FL "are_whole"
|ziU=>_ mainGlobals mg
|xyU=>h.Ns ziU
|xOh ζ=>(#[],ζ)
|x4R=>nL 64 XL
|wy=>nL 8
|bp ζ=>yY nl ζ
|bK ζ=>Υ ζ gE
|xyV=>An R
|bC=>xL1 1
|aQ ζ=>by show nP ζ
|xW1=>L.take p
|ycM ζ η=>{cls:=ζ,data:=.fields η}
|xW2=>(Xr).drop
|xOi=>JW HN
|xyW=>xMi H'
|x4S=>Fq "tuple"
|xyX=>(bale T sP).length
|xIh=>aE st'
|wu=>YG n
|tE=>xMs Bh
|xOj=>L.drop[xAV L]
|xIi=>FV ha
|Ð=>_ rfl rfl
|xOk ζ=>xfc T.isi[Z.m ζ _ _ Ð]
|x4T=>codeAny xGF
|iy=>x21 H'
|xIj ζ η=>fO À ck g
|cf ζ η θ ι μ ν=>xGQ _Y scope
|xCS ζ η θ ι=>Jb[.int ζ] ĵ
|ycN=>xyn ŷ
|xOl ζ η=>by cases ζ;cases η
|xIk=>Ą[rNeD K]
|xy0=>rW κ V
|xOm ζ η θ ι μ ν=>by show((ζ,η)=θ,(ι:μ)=ν)
|xOn=>ai hp
|xIl=>ID true VU
|xW3=>(Zg).size
|aI ζ=>by subst ex;show Fv ζ rx
|PO=>b≠T
|xCT ζ=>Et[xWm ζ]
|YM=>Dp[ar[bf R1 g1]]
|ziV=>_ "is_whole" xrM
|x4U=>FL ziV Jab
|xy1=>xN0 s
|yje=>t {nx:=λ _ H'=>ybb,rt:=Q}
|xy2=>KV Sa vs
|xW4=>xql K H
|Ĳ=>_ κ a0
|xW5=>xeN Ĳ
|xy3=>xs2 w p
|x4V=>xfS _ _
|bW=>x4V Z8 Z8
|wq=>k3 _ _
|þ=>_ RN s Ä
|x4W=>he þ _
|bG ζ η θ=>cX[x4W À] θ
|yjf=>Heap.size_after_update ..
|xW6 ζ η=>Data.fields ζ=η
|yjg=>wpAny_pyIter_rangeiter st
|yjh=>es.toList.any (·.refKey)
|yji=>lim.keeps x.toInCall.keep
|ycO=>JQ hlen.symm
|yjj ζ η=>(List.replicate À).flatten.toArray
|yjk=>numsOf its.toArray.toList
|ycP=>λ _ _ _=>xig
|yjl=>Option.map_eq_some_iff.1
|yjm=>Builtin.Range.rangeSize i
|xW7 ζ=>ζ^bs.length
|oN ζ η=>∀q∈ζ,η
|xW8 ζ=>HO.ins ζ dx
|x4X=>by simp [total]
|yjn=>List.length_eq_one_iff.1
|yjo=>Nat.le_min_of_le_of_le m2
|ycQ ζ η=>(SM.xuI À).length_eq
|ycR=>hp.subset hb
|x4Y=>Ō C
|xW9 ζ η=>s.testBit[ζ-η]
|wo ζ η=>ü[ζ++η]
|x4Z ζ η θ ι μ=>by obtain⟨⟨dx,ζ⟩,η,θ,ι⟩:=μ
|xXa ζ=>ζ*Rb.length
|ycS=>s5'.trans s6
|xOo=>.er cT
|ycT ζ=>by obtain⟨_,_,Tw⟩:=ζ
|ir ζ=>D8 ζ 0
|PC ζ=>D8 ζ 3
|xy4 ζ=>Dv rfl ζ
|Mk ζ η θ=>dR À[xfZ θ]
|ycU ζ=>kO "whole_bytes" ζ
|xXb ζ η=>Sa.any[kP À]
|b9=>lE hq
|ycV=>k7 "lengths"
|x40 ζ η=>Ι "need_row" À
|aV ζ η θ=>xvL xrV ζ[xu3 η][xu3 θ]
|xIm ζ η=>dig[xF7 À]
|xCU ζ η θ ι=>by unfold ζ;rw [η,θ,ι]
|yg=>k l
|YL=>YG b
|aR ζ η=>by have ζ:ED η:=BM
|xCV ζ η=>(lc S p À).2
|wm=>xCV IV j
|xXc ζ=>xs.length=ζ
|Kl ζ η θ=>show ζ<η from θ
|yjp=>xU2 "object.__setattr__"
|xIn ζ η θ=>Vb À[Ü θ]
|ycW=>V.int.inj xBL
|xXd ζ=>.of[.eq (n:=ζ) zch]
|iP ζ η θ ι μ ν=>Cn ζ[HJ ĵ μ ν]
|xXe ζ=>xNr ζ s.heap
|xCW ζ=>Inv ζ []
|JM ζ=>∃t,ζ
|aC=>Dv yby KF
|YK ζ η=>HC σ À
|xCX ζ=>lp ζ L res
|xXf ζ=>(Mu.mp ζ).1
|Zn=>BH ae J8
|x41 ζ η=>Kl ζ ç.length η
|tO ζ=>Rn++ζ
|tM=>tO r
|Zi=>tO x22
|xOp=>At c
|ycX=>MU hit.typeIs
|xIo=>env::outer
|ycY ζ=>ζ<h.objs.size
|ycZ=>by simpa using I.len
|x42 ζ η=>λ _ _ _ _ _ st ζ=>η
|xy5 ζ η=>by have:ζ:=η;lia
|x43=>PH.mp nd
|x44 ζ=>ζ==items.size
|yc0=>I.base.frzs c
|xXg ζ η=>.cons À .nil
|x45=>B.drop n
|yjq ζ η θ ι μ=>by obtain⟨ζ,⟨_,_,η⟩,⟨_,_,θ⟩,⟨_,_,ι⟩,⟨_,_,μ⟩⟩:=Y
|YJ=>aN z
|yc1=>Nat.lt_min.2
|yc2 ζ=>ζ<xs.toList.length
|x46=>Y.drop k2
|yjr ζ=>PyProof.Rows.callWith_kw (e:=ζ)
|xXh=>KD.mp z
|yc3=>s03.trans s4
|xCY=>JX Ue
|xXi=>["reader","codes"]
|x47=>u.drop t
|XO=>nb A
|x48 ζ=>hw.re (cC:=ζ)
|ES=>υ d
|Wd=>Ψ b
|x49 ζ=>UF A.frames ζ
|yf ζ η=>A8 e À
|YI=>Ν b
|EP=>Tl 0
|qe=>va o
|yc4 ζ η=>by obtain⟨ζ,η⟩:=hN.facts
|xIp ζ η=>by rw [<-ζ,η,Cm]
|iO ζ η θ ι=>px ζ Tm ĵ
|xXj ζ=>by exact nomatch ζ
|qc ζ=>Xg ζ b qI
|WY ζ=>upd ζ e
|yc5=>FL "_law_fed"
|x5a=>B.take n
|xCZ ζ=>xAR γ ζ
|xXk ζ=>holding [ζ]
|WX ζ=>IB aj ζ
|WC=>(b_ S p).2
|xIq ζ η=>num[(b.drop ζ).take η]
|YH=>Fl l
|x5b=>xBe "number" "size"
|Vp ζ=>iG ζ.2
|xOq ζ η θ=>by rw [ζ] at η;refine θ
|x5c=>N.map xUT
|xy6=>xMt k
|X3=>Ax a ta
|xIr=>xGn hp
|xXl=>New X RN
|WZ=>Rows Â
|E8 ζ=>l≠ζ
|WR=>E8 d
|xXm ζ=>xAP C5 vs ζ
|Vo ζ=>A1 ζ wR
|Vn ζ=>xBU ζ H'
|yc6=>(b_ S q).1
|Uw ζ η θ=>xFP ζ[Hj Ù]
|gz ζ η θ ι=>xB5 ζ hr ĵ
|Uo ζ η θ=>xw1[PW.pt[xq9 ζ[xqC η]]] θ
|yjs ζ=>Int.eq_ofNat_of_zero_le[ybX ζ]
|xOr ζ η=>ζ≤(η).length
|qb=>Yq rh e
|xy7 ζ η=>wpAny M A À E
|xOs=>xyt X RN D
|WN=>xCr b
|WH=>DH L
|xy8 ζ η=>JH rfl À
|UK ζ=>vX Tm Tm ζ
|WG=>CodeHd base c Tb
|W7=>TW T W
|W6 ζ=>ç++ζ
|xXn ζ=>W6 (ζ).flatten
|gD ζ η θ ι=>by have:=ζ;show vH Ù this ι
|xOt=>fr _ _
|gs=>VP _ _
|gW=>nJ _ _
|fq ζ=>xNB ζ xCm xWb
|gN=>yix A E s
|tJ ζ=>IH l[DP->ζ]
|qY ζ=>IH l[AA->ζ]
|wd=>g i j
|qW=>hb b
|x5d=>.Tuple es
|xOu ζ=>by unfold ζ at h2
|x5e=>IsPart vl
|x5f=>IsPart vu
|xC0=>SlR X
|xXo ζ=>(Oo ζ).mpr
|xC1=>dig n
|xC2=>WM.1
|xXp ζ=>(Mu.mp ζ).2
|xOv=>by unfold xqE
|xIs=>LI t1
|yc7 ζ=>seqEpoch_at k_
|xC3=>J5 z
|yjt=>List.Sublist.count_le _
|xC4=>LN hs
|x5g=>spLeft C
|x5h=>["block"]
|x5i=>.done rfl
|yju=>Nat.ToInt.div_congr rfl
|xOw=>K8 hx
|yc8=>qs.map V.ref
|xXq=>am hp
|yc9=>s6.trans s7
|yda ζ η θ ι=>by obtain⟨ζ,η,_,_,_,_,θ,_⟩:=id ι
|xC5 ζ η θ=>λ ζ η=>V.int θ
|xC6=>υ la
|xC7=>.w ST
|xC8=>Ak []
|xC9=>C' H1 H'
|xDa=>ap xlK
|xDb=>Ak cq
|qV ζ=>yC a ζ
|xDc=>rN s'
|xy9=>Az h
|x5j ζ=>.inr[.inl ζ]
|ydb=>k7 "reader"
|TV ζ η=>by rw [ζ,η] at e
|x5k=>.cons rfl
|wZ ζ η θ=>zS ζ Si Ù
|xXr ζ η θ ι μ=>by show(TL,(va6,ι)=μ)
|xXs=>Ü 1
|x5l ζ=>AV[C7 ζ]
|xDd=>JJ yd
|oC ζ=>xvX X[binaryOp ζ]
|xOx=>JQ Ww
|qT=>Fj R
|xOy=>Cj χ
|W8 ζ=>Κ ζ e
|xOz=>xvI B4
|xDe ζ η=>x2C[U6 À]
|xOA=>Il uZ
|xDf=>Þ "blocks" xxa []
|xIt ζ=>J6[KJ ζ]
|xIu ζ=>(h1,ζ)
|xXt ζ=>D.nx[xGd ζ]
|qS=>xMi H
|xOB=>A7 mJ
|xDg=>It->jq
|xIv=>SC->jq
|ydc=>Uz.trans gw
|x5m=>(Ih).toNat
|xIw ζ=>JV[Kn ζ]
|xDh=>oR e
|xOC=>B9 B4
|xDi=>xU1 q
|xOD=>.ref d
|xOE=>FV hy
|xOF=>ik VN
|xOG=>ik Yt
|xDj=>Vals xs its
|x5n=>wpS_lift[Ot Xq]
|x5o ζ η=>congrArg[λ ζ=>some η]
|xDk=>ap xtY aj
|SO ζ η=>Ñ ζ++η
|xDl ζ η=>WF[xxg kf À]
|xIx ζ η=>(wM,Č)
|ï=>_ n1 n2
|ydd=>OT ï
|xDm=>MH κ a b out
|xIy ζ=>vG[bY ζ]
|xDn=>xx5 κ
|xOH=>cu B4
|xOI=>xxr[MN _]
|xXu ζ η θ=>xUv Ê [] pos
|xOJ=>by have:=Jq
|x5p=>I.kept (t':=s.toks)
|x5q=>aH .NotEq
|xOK=>Ar vF
|xXv ζ=>JJ[.ref ζ]
|xOL=>xCo xBE
|xOM=>vA Ε AS
|xON=>AU hx
|xDo=>Lt blt kf
|xOO=>x4f 64
|xDp ζ η θ=>by refine ζ;have η:=θ
|xDq=>k b ob
|qR=>xyN a b
|yde ζ=>x23[run ah ζ]
|yjv=>RT[t.length-1]
|xIz=>yjv[xBa 1]
|xDr=>TU H p Xr
|xDs=>wC â s'
|zdr=>_ rfl AN
|xDt=>xqD hp zdr
|qQ ζ η θ ι=>(JS ζ[xNQ ĵ])
|xDu ζ η θ=>(σ,va6)
|xOP ζ=>R.length=ζ
|xDv=>xXl H'
|xOQ=>xXm ea
|xOR=>g1 _ _ x3D
|ydf=>wpS_bind x5n
|zb4=>_ Â B
|zc4=>_ zb4 D
|Ź=>_ C0 C1 C2 C3
|zdt=>_ CW Ź
|Ğ=>_ CK Sk
|oB=>Rdg zc4 G' zdt Ğ CO C G Ce cM cH cK cT
|xXw=>xeL zbN cC
|yjw=>args_listiter_next _
|ydg=>sb1.extBut a
|ydh=>sb1.extBut b
|xOS=>keep b
|yjx ζ=>by obtain⟨_,⟨_,_,_,e,_⟩,_⟩:=ζ
|ydi=>env.kindOf x
|xOT ζ=>D.rt ζ H'
|xOU=>Sem RC
|xOV=>gTup K
|xOW=>J.go i
|xXx=>by simp [RQ]
|yjy=>.ref s1.heap.objs.size
|ydj=>List Keyword
|xIA=>by subst h2
|ydk=>SeqAt.EqAt A
|ydl=>M3 hlen.symm
|ydm=>PySem.call f
|yjz=>h'.Ns s.heap.objs.size
|ydn=>intKind_is _
|xXy=>ExC X.K
|xXz=>this.1
|xXA=>[.none]
|xXB=>["signs","place","back","most"]
|xOX ζ=>by rw [ζ] at hq
|x5r ζ η θ=>by(rcases ζ with z|⟨η,θ⟩)
|xOY=>pr out
|ydo=>SM.Sm.refl _
|xXC=>.dK []
|ydp=>by simp [W13.Ë]
|ydq=>s0.trans s01
|A_=>_ H2 s2
|xIB=>k A_
|xOZ=>pin Z6
|xO0 ζ η=>GT' À base
|xO1 ζ=>((ζ,.cell))
|qO=>H3 c
|xXD=>.bl fn
|ydr=>Þ "begun"
|xO2=>vN 184
|yjA=>List.set_append_left _
|xXE=>Four H'
|yds ζ=>(("_law_script",ζ))
|ydt=>K26.Ck.Crs K
|ydu=>K26.Ck.Hds K
|qN=>xAD 5
|Lw=>Ψ j
|x5s ζ η θ=>Ty ζ Y.Z.pr.H.N.X Ù
|fV=>vN i
|Lv=>by intro _
|ydv=>Ω A.handled
|xIC ζ=>bD[AK ζ]
|xO3 ζ=>Wv.c ζ EK
|gK ζ η=>by show ζ;show CM η
|qM=>Q Hm
|xXF=>WF s.fn
|x5t ζ η=>RL.filter[λ ζ=>η]
|xID=>Xm n
|xO4=>zC 129
|qH=>xUr A
|ydw=>methodObj Xl
|qG=>D4 x
|fJ=>Xi j
|qE=>EM 0
|xXG ζ=>by refine .inr ζ
|xXH ζ η θ=>by obtain⟨u,ζ,η⟩:=θ
|xXI=>Ft 272 hm tm
|xDw=>Et h
|xXJ=>û xs
|xO5=>(ft).In
|ydx=>AJ Rb.length
|xO6=>BE 256
|xIE ζ=>by cases(ζ)
|fG ζ η=>xIE[BL u À]
|xIF=>bj[Gf h]
|xXK ζ=>xIF[λ _=>ζ]
|ydy=>xUH Sa.length
|ydz ζ η=>autoParam[∀ζ,η] xft
|ydA ζ=>A2[ζ==sysModules]
|xXL=>.cons a
|fE=>x2I T
|xO7=>xBc key
|xDx=>xuy T m
|xO8=>Lev ZL
|yjB=>CU s1.heap.objs.size
|ydB=>YG Rb.length
|qC ζ η=>by rw [ζ,Kq η]
|Lp=>Ax e te
|J' ζ η=>jR[Kq ζ] η
|Hq=>by subst z
|xDy=>x2X v
|xDz ζ η=>YF C4 ζ AZ η
|xDA ζ=>xNU[λ j=>ζ]
|qB=>E3 R
|fD=>sJ j
|CL ζ η=>by show(xxP,Ai À)
|ydC=>Pv xs.length ys
|ydD=>Pv i ys
|qA=>RelV x v
|xO9=>rW Key V
|xXM=>(xHb).set
|p7 ζ η=>sG H2 À
|Av ζ η=>by show(xCc ζ,Gd η)
|ou=>xu2 0
|om=>oK cD t
|oh=>g x Ä
|xPa=>Q true
|xDB=>ybp o m cD [] pos
|i_=>_ [] []
|zdq=>_ i_ pos
|xDC=>ybp o m zdq
|xIG ζ η=>xxR x ζ dV dc η
|xPb=>xIG qu cd
|xPc=>xVX hp pl
|xDD=>LM _ _
|xXN=>b∉X.ex
|xDE ζ η=>Cj[xvA ζ[xq0 η]]
|og ζ η=>ag[xfY cv xFU Z7 À bd]
|xPd=>Ha Jaa
|ydE ζ=>(ycr ζ).objs.size
|xDF=>xHP o
|xIH ζ η=>by have:=ζ;show ycy η
|xXO=>two xHR
|xXP=>two xHT
|x5u=>RV.of hS
|x5v=>xLJ xFM t
|xDG=>x5v s
|oa ζ η=>xrW (v:=.ref ζ) Z7 η rfl
|oY=>xOe H
|u5=>xUY H p s
|ydF=>xOH Z.pr.R.cl
|xXQ=>Lz _ _
|xII=>xXQ[NB hb]
|rz=>xgn _ _ _ _
|yjC=>x3N s H _ I h
|dS ζ η=>ζ->Fy η
|ydG ζ=>wpAny_of_eq ζ ?_
|x5w=>rawInt L
|zk ζ=>hch ζ z
|tG=>[b]
|t8=>[a]
|ydH=>r.append hd
|xPe=>noA b
|x5x=>.type T
|xIJ ζ=>min ζ n
|x5y=>.inl hl
|ydI=>JQ l1.symm
|xIK=>JY Z5
|xIL ζ=>PT' ζ ts
|x5z ζ=>none_of ζ n5
|xIM ζ=>b.size-ζ
|ydJ=>JQ Ys.symm
|yjD=>(Z'.map (·.2)).Perm
|xXR ζ=>ζ<C.length
|yt ζ=>xzh ζ xs
|xPf=>cP L
|xXS ζ=>É[xPf ζ]
|xPg=>["state","byte","wide"]
|xXT ζ=>L.length<ζ
|xXU ζ=>Rs.length=ζ
|x5A=>c_ ta
|xXV ζ=>xgl ζ hN.hb
|ydK=>s2.trans s
|ydL=>JQ hn.symm
|yH ζ=>De hv ζ
|xIN=>pv 7
|xIO=>.n 4
|x5B=>.n 1712
|xDH ζ=>UF ζ v
|ydM ζ=>Ω[fs.lookup ζ]
|x5C ζ η θ=>by simp only [ζ,η];show Du θ
|x5D ζ=>kO "group" ζ
|xIP=>rQ 3
|xIQ=>Xj 2
|xXW ζ=>xlL χ k_
|ydN=>k7 "block"
|ydO=>k7 "other"
|ydP=>k7 "signs"
|x5E ζ η=>by obtain⟨o',ζ⟩:=η
|xIR=>rM 0
|wY ζ=>xFM ζ 8
|x5F ζ=>S.length≤ζ
|xDI ζ=>JK rfl ζ
|x5G=>.ref cC
|xIS ζ=>k8 rfl ζ
|sj ζ=>ζ≤D1
|x5H ζ=>AJ (ζ).length
|eh=>jG q
|xIT=>vW 4
|x5I ζ=>congrArg ζ e
|xIU=>Builtin.bitXor i j
|eO=>tU q
|xIV=>ZP 2
|pk=>num[b.take 3]
|ż=>_ 0 []
|yjE=>vK "blocks" ż
|xIW=>yy 5
|eK=>kf i
|pj ζ=>xL6 ζ t2
|xIX=>hidT s₁.heap H
|xIY=>.Name "_law_e" p3
|xXX ζ=>mF ζ Tc.nd
|pK ζ η θ ι μ ν=>by exact(Į,_y)
|wX ζ=>UF ζ u
|gP ζ η θ=>xxB C Ê
|xXY=>some T
|xDJ ζ η=>bO ζ[xBC η]
|pC ζ=>FV ζ[.inl Dy]
|xIZ=>uV l
|xPh=>xMQ []
|pB ζ=>Binds K ζ ps
|xDK ζ η=>KQ[xGU À]
|xI0 ζ η θ=>by unfold ζ;show Sc Ù
|xPi=>Tl Ig
|_F=>_ .nil bo
|zd7=>_ bI _F
|ml ζ η θ=>xlC MI À Z7 θ zd7
|wW ζ=>EG j ζ
|xDL=>.Name y py
|ydQ=>Iw "things"
|xPj=>Kk hxn hn
|x5J ζ=>F'.drop[64*ζ]
|xPk=>x5J xB8
|xDM ζ η=>xM2[VC ζ] η
|xDN ζ=>Tg ζ Ä
|xPl=>B.take[IP-2]
|kL ζ η=>DR[Cj ζ] η
|kK=>Tl n
|xI1=>rM 5
|wV ζ=>Tl[p+ζ]
|xXZ ζ=>PE ζ elt te
|E7 ζ η=>by have e2:ζ:=η
|xt=>MA κ a b out ia ib
|xDO ζ=>Gi 8 ζ
|xX0 ζ=>xs6 K ζ f
|gC=>xIj b m
|jh ζ=>aN ζ hp
|xI2=>Ite K a
|xDP ζ η=>bj pz[Bp À]
|xI3=>xLT[x2v n]
|xI4=>Ft 3 hle tl
|x5K ζ=>xxh ζ np Vl
|xI5 ζ=>x3w s H ζ I h
|xI6=>y.d c
|xI7=>x.p j
|ydR=>Value.ref e
|ydS=>sb.extBut b
|ydT=>I.ok.noex b
|y9 ζ=>λ e=>ζ
|xI8=>.bl c
|xI9=>Ow hp
|ydU=>Data.cell v
|xJa=>Itr 0
|xJb=>hb _
|ydV=>F_ s.heap
|x5L=>xgx I.hok
|ydW ζ=>ζ<recursionLimit
|xDQ ζ η=>ζ≠some η
|yjF=>args_tuple_getitem _
|x5M=>max 0
|x5N=>HT._Q n
|yjG=>SeqAt.EqAt.str_str a
|ydX=>xgJ N.length
|je=>hn _
|xJc=>.cp b
|xJd=>val R
|x5O=>rlF n
|xJe=>Kh xmK
|xDR ζ η=>by rw [ζ] at η h2
|xJf=>JY z
|x5P ζ=>by rw [eb] at ζ⊢
|xX1=>LI hia
|mj=>a.1
|xX2 ζ η=>R.map[λ ζ=>η]
|yjH=>wpAny_pyIter_enum he
|x5Q=>xm6 I.hok
|x5R=>ul I.hok
|ydY=>K26.C.Mks K
|ydZ=>by simpa using hSI
|yd0=>ñ FI
|xJg=>id hR
|xJh=>RnR R
|yd1=>K26.C.Mk2 K
|xJi=>dig 0
|xJj=>xfQ hb
|x5S ζ=>by simp [ζ,Ñ]
|x5T=>["bale"]
|xJk=>lay w
|x5U ζ=>λ _ _ _ k=>ζ
|x5V ζ=>Pv.op0 (g:=ζ)
|x5W=>CK.xqS hp
|yjI=>xlD PassesOwn.leaving
|yd2=>FlyV s.heap
|x5X=>r.cl cL
|yd3=>List.take _
|x5Y ζ=>ζ<4294967296
|yd4=>.str "cut"
|xJl=>Kr hc
|yd5=>K26.C.Lns K
|yd6=>K26.Ck.xuM K
|mi=>Ν p
|yd7=>Ν W.length
|x5Z ζ=>.upto[AN ζ]
|x50 ζ=>(q,ζ)
|x51=>RV.of XH
|xJm=>ap xl5
|xJn=>ac B4
|JL ζ=>WF[ζ]
|jd ζ η=>by exact De À
|g9 ζ η θ=>zd À ae θ
|yd8=>le_of_lt yA
|mh=>D4 a
|xJo=>kj hy
|xDS ζ η=>Vr zeZ
|yjJ=>b.toList.Pairwise Di
|yjK=>a.toList.Pairwise Di
|x52=>["bits","lengths"]
|yd9=>Xi X.length
|mf=>RelV x u
|ja ζ η=>xAL rfl À
|rq ζ η θ ι=>by show(TL,ka ĉ)
|me=>xFQ i
|yea=>AJ L.length
|fh ζ η θ=>vB Ê pX
|xJp=>xxc vs
|x53 ζ η=>Cb "read" À
|xJq=>xF3 Pp
|iY ζ=>by have h1:=ζ
|xJr ζ η θ ι=>DM À[some θ] ι
|xJs=>Gs UQ Ui
|gO ζ η=>Eh 1 À
|lX ζ=>by have T:=ζ
|lV=>GX i
|lP ζ=>E1 JP ζ
|xJt=>Ak xL8
|fZ ζ η θ=>zO ζ hr Ù
|x54=>W13.TJ a
|lO=>xxu _
|yjL=>ao its.toArray.size
|xJu=>ybq Pp
|iX ζ η θ=>tQ ζ[lF Ù]
|lN=>xUQ H
|xX3=>I.freeC x c
|yeb ζ η=>AQ "signs_check" À
|xPm=>ij hp
|x55=>.ref ZF
|xX4=>I.cell x c
|iW ζ=>by(rcases ζ with rfl|rfl|rfl)
|xJv ζ η θ=>(rfl,va6)
|lM=>Due L rest
|yec=>yiK Prod.fst
|lL=>Xn b u
|xJw=>AJ Jh
|xJx=>xrO Z7 X.range
|yjM=>CB Ps.flatten.length
|lJ ζ=>Dv ζ xM4
|lI=>wK z
|yed=>Vz True.intro
|x56 ζ η θ=>wpS_bind[xG4 Ê]
|x57=>Pv.isNot (b:=false)
|xJy=>A.getD j 0
|lH=>RT 130 2
|xPn=>by show(qX,xNp)
|xX5 ζ η=>xU9 H[tX À]
|xDT=>u7 i
|x58=>SM.eqv SG.ltI SG.xpU
|č=>_ H' p
|xJz=>xUY č
|xJA=>xCj H'
|kh ζ=>Sc JP ζ
|ke ζ=>Sc hl ζ
|kI=>Y7 1
|xPo=>xCq []
|xJB=>lQ ybg
|yjN=>xv4 (W:=[])
|gX ζ η θ=>Zv ζ[xAU η] θ
|et ζ η θ=>by show ζ;rw [η,θ]
|xX6=>æ B b
|gH ζ η θ ι μ ν ξ=>Cn ζ[Dd ĵ μ SZ ν ξ]
|xJC=>x4o ys
|kG=>e≠Tb
|xDU=>vN k
|yee=>#[Hm,xxa 0]
|xPp=>(yiv yee).objs.size
|yef=>its.toArray.size*k.toNat
|kF=>B7 q s
|fu ζ η θ=>x31 À[IB θ Aa]
|fk ζ η θ=>Ax[xXu Ê]
|xJD=>bZ p ys
|yjO=>Fl t _ _ H'
|jg=>UD u W T ps
|yeg=>xIJ v.toNat
|xPq ζ η=>xDH[atI À]
|x59=>x5M total
|jb=>sT _ _
|jY=>TH _ _
|xJE=>ĥ F i
|zcC=>_ ã Wj
|xPr=>xkX zcC
|xJF=>zR p ys
|jX=>xHC H h a
|xJG=>xDm na nb
|jW=>xgu _ _ _ _
|wj=>xgr _ _ _ _
|yeh=>spFed Ĵ zbN cC
|yei ζ=>Value.float ζ t
|yej ζ=>h.objs.size≤ζ
|yek ζ=>wpAny_Name ζ hd
|yjP ζ η=>wpAny_isTrue_Compare1[Ý À]
|x6a=>mA name
|yel ζ=>I1.laid (t':=ζ)
|xX7 ζ=>xkT (us:=ζ)
|eJ ζ=>h ζ Kj
|yjQ ζ=>typeLookup ζ "__getitem__"
|yem ζ=>by rw [ζ];assumption
|xX8=>sub e
|yjR=>if_false_right.mp h
|yjS=>Nat.ToInt.of_le rfl
|yen ζ=>by(injection this with ζ)
|yeo=>hx.same s1
|yjT=>by apply Array.toList_inj.mp
|xJH ζ η θ=>by rw [JO,ζ,η] at θ
|yjU=>SortSt.mk' oneType'
|x6b=>pairs r
|xDV=>by intro n
|xPs ζ=>kf[φ ζ]
|yjV=>hZ.symm.subset hz
|yjW ζ=>M7.mp[hLp.symm.subset ζ]
|yjX ζ=>List.count_le_length (a:=ζ)
|yep=>ks.map kV
|xX9=>xtz ry
|xYa=>u1 hr
|yjY=>X.mg "__builtins__"
|yeq ζ=>ζ≠mainGlobals
|xYb=>Kh hb
|xYc=>xgp hu
|xDW=>Ks h
|yjZ=>(l.map (·.1)).zip
|xYd=>am hq
|yj0=>List.mem_flatten.1
|yer=>Ps.take i
|x6c=>.str z'
|yj1=>Ψ its.toArray.size
|yes ζ=>UF X.A.frames ζ
|xYe=>.n 69
|xDX ζ η θ=>by have:=ζ;show AX Ù
|sZ ζ=>[Aj,ζ]
|xYf=>Cj aj
|oA=>by intro y;cases y
|xYg=>rQ 16
|xPt ζ=>TD[hc ζ]
|x6d=>.tup xs
|xYh=>Bu Φ
|xYi=>xw4 Int
|xYj=>A7 JD
|y8 ζ=>Ex[ζ]
|wD ζ=>y8[ku ζ]
|xJI ζ η=>ak[ai À]
|xYk=>EI 24
|xYl=>EI 64
|HX ζ=>xFM ζ 4
|x6e ζ η θ=>by obtain⟨ζ,η,θ⟩:=z9
|xYm=>A7 vF
|xPu ζ=>by have:=ζ;show xLW
|yj2=>ybf s.heap.objs.size
|xPv=>Dm hp
|x6f ζ η=>Cb "number" À
|xYn=>HY qZ
|xYo=>Yb XL
|yet ζ η=>Paired.mapP ζ[x2B η]
|fX=>xUL i
|yeu ζ=>pyNext[.ref ζ]
|xYp=>AU hb
|xYq=>Il XL
|xYr=>nA uj
|xYs=>nA FK
|x6g ζ η θ ι=>by show((ζ,η)=θ,tR ι)
|xYt=>AV Xs
|xDY=>by exact e
|xYu=>Lc cW
|yev ζ=>x2D ζ out.toList
|fU=>xL9 i
|xJJ=>os i
|xYv=>xwZ #[] e1
|xYw=>tF Ey
|xPw ζ η θ=>swapsWith zjG θ X.env
|xYx=>yiF Uq
|xYy=>xLT[.seq vs.toArray]
|xYz=>Rd AS
|xJK ζ=>by show(pM ζ,x20)
|zf ζ η θ ι μ ν=>by show(ζ=η,Fx _K ae μ ν)
|yj3=>(xMP).toList.Pairwise
|xDZ=>xBI jl
|xPx ζ η=>GX ζ[.bl η]
|xYA=>(xFM).drop t
|xPy=>(xFZ).drop t
|xPz ζ=>Cv[FQ ζ]
|xJL ζ η θ=>by show Υ À;refine θ
|xYB=>ybA Z9
|xJM=>(b_ S p).1
|xYC=>yis xs.length hi
|yj4=>vD s.heap.objs.size
|xYD=>xG5 ST
|HU ζ=>xFH g ζ
|xPA ζ=>by have:=ζ;cases this
|xJN=>xVC j
|xYE=>HV xx8
|xJO=>A'++T
|xPB ζ η=>yb1[.of ζ] η
|xYF=>vA Ε EH
|xJP ζ η θ=>by refine(Č,θ)
|xYG=>xVX hp eP
|x6h ζ η θ ι=>by rw [ζ];generalize η:θ=ι at*
|xD0=>by rw [ae,J8]
|yew ζ=>Sy ζ A ts bs
|uR=>yew H
|xJQ ζ=>cst ζ W T
|x6i=>SP Z.init
|x6j=>SP O.init
|xPC ζ=>JV[L9 ζ]
|xYH=>xNW AS
|tB ζ η θ ι μ=>by show(SL ĉ,[μ])
|xJR ζ η=>JN[JU À]
|xYI=>ybw xN3
|xYJ=>(oJ).take i
|xYK=>xw8 l1 true false
|xYL=>PC Δ
|zfQ=>_ Ò ps sp
|zcK=>_ k zfQ
|HS=>xU7 CX zcK
|xYM=>D8 kX 2
|yex=>TD[e z.symm]
|xYN=>Ft 12 hm tm
|yj5 ζ=>(List.nodup_append.mp ζ).1
|yj6=>["_law_k","_law_wrong_here"]
|xYO=>xXW B4
|xJS=>Y++tail'
|x6k ζ η=>gP "number" À
|yey ζ=>ii ζ hg hm boot_range
|xPD=>x5K Cp
|xYP=>xp5 xpk aj
|xD1 ζ η=>by have:ζ:=η;rw [this]
|xD2=>A'++M
|HE ζ=>ζ≤i
|rJ ζ=>3≤ζ
|xD3 ζ=>λ i=>ζ
|yj7=>xD3[.int[-i]]
|yj8=>tUn[xwH yj7]
|xPE=>yj8 vZ
|yj9=>vs.setIfInBounds 1
|yez ζ η=>by obtain⟨vs',ζ,_⟩:=η
|xYQ=>by simp at e
|yka=>h'.Ns X.env.locals
|yeA=>AllBare g'
|yeB=>I.ok.cab x
|xJT=>tn i
|ykb=>letOwnedTupleGo tg
|yeC=>M3 hl.symm
|yeD=>kitOne X.K
|yeE=>frs outer
|yeF=>Un.kept hk
|yeG=>by simpa using hi
|yeH ζ η θ=>operate ζ[getItem Ù]
|yeI=>by simpa using ew
|ykc=>ns.map WData.int
|xPF ζ η θ ι=>(ζ,.int Ù,ι)
|x6l=>.ref D
|ykd=>X.s₀.heap.get? c
|x6m ζ=>λ _ _ _ z=>ζ
|yeJ=>by simpa using hl
|xYR ζ η=>by rw [ζ,<-η];rfl
|yeK=>hx.same s0
|xPG ζ η θ ι μ=>by rintro σ ζ⟨η,θ,ι,μ⟩
|xYS=>.ref u
|x6n=>dbl of
|yeL=>by simpa using RQ
|xD4 ζ=>LD ζ hz
|xYT=>hjp _
|x6o ζ=>ζ=As.length
|yeM=>by simpa using hP
|yke=>Nat.le_max_right _
|x6p ζ=>ζ*RP.length
|ykf=>Tj (Z'.map (·.2))
|fP=>xfR L
|xPH ζ η=>by simp [ζ,OP,η]
|fK=>dl e
|fF=>xqA e
|x6q ζ=>Sa.length+ζ
|x6r ζ=>valueAt ζ k
|xPI=>by subst ey
|dz=>aN e
|xD5 ζ=>ShL ζ L
|yeN=>Sr.of htt7
|yeO=>Sr.of htt2
|yeP ζ=>by obtain⟨e1,_⟩:=ζ
|xD6 ζ=>spT ζ B
|E6=>T w p
|xYU=>CK.B w
|xPJ=>Lu _ _
|xYV=>ü R
|xYW=>oth5 _
|yeQ=>hD.uniq hn
|x6s=>.n 400
|yeR=>T'.map vN
|xYX=>ĥ F'
|xYY=>by unfold nB
|x6t ζ=>ns.getD ζ 0
|x6u=>xic rfl
|yeS=>hz.elim id
|di=>xfB _
|xD7 ζ=>Wv ζ σ
|x6v=>Ks hat
|x6w ζ η=>.cat ζ[.one η]
|xYZ=>R.k 14
|xY0=>R.m 14
|yeT=>ho.same s1
|x6x ζ=>.fst (W:=ζ)
|xPK=>xt7 hb
|yeU=>ho.same s3
|xPL=>.v 6
|yeV ζ=>X.A.mark[υ ζ]
|x6y ζ=>UF l.most ζ
|xPM=>pv 8
|xPN=>vN ah
|df=>Tl p
|ykg=>Iw "__classdict__"
|ÿ=>_ j hj
|xD8=>UV ÿ
|x6z ζ=>ζ="finished"
|yeW=>I1.fpOk ρ
|rn ζ=>oW gg ζ gg
|xJU=>xwY s
|dO=>JJ v
|d5=>xLK 4
|xY1=>zC 117
|yeX=>xUr X.A.in1
|xPO ζ=>Tl[Az ζ]
|x6A ζ=>vK "wide" ζ
|xY2 ζ=>! decide ζ
|x6B=>.inr z
|xJV ζ η=>Hf ζ[Kq η]
|xPP=>rM 6
|xPQ=>rM 9
|xJW ζ η=>Ax ζ[tC η]
|yeY=>Iw "begun"
|xD9=>yis 0 lo
|x6C=>jt rfl
|xEa=>jk Ċ
|xq ζ η θ ι=>upd À[.ins _K []]
|ykh=>FL "are_of_things"
|cw=>AJ s
|yeZ=>K.lookup a
|xJX ζ=>xxh ζ nx ndk
|xY3=>AY IK
|E5=>jD++r
|x6D=>xxk nck
|cY=>mg x
|xJY ζ η=>.a ζ[G8 η]
|xPR=>JJ xA4
|xPS ζ η=>L.take[ζ+η]
|xEb ζ=>Ą ζ a
|x6E ζ η=>.tt ζ[Sr.of η]
|xPT=>yy 8
|x6F=>S.xzN ZM
|xPU=>Fj xMh
|xEc=>D8 af 4
|xEd ζ=>(ζ).Pairwise[Le blt kf]
|xEe ζ=>UF Xp ζ
|Vx ζ η θ ι μ=>x3 Ê ST zcd
|bh=>[xGj]
|Y5=>Ax o ta
|xEf ζ=>jM χ ζ
|rm=>xBt 1
|xPV=>KL _ 1
|ye0=>xGA "range"
|x6G=>["signs","back","size"]
|Y4=>uV e
|ye1=>out.toList.Pairwise[SG.xqo SG.ð]
|x6H=>putK Sa k
|xPW ζ η=>tCB ζ[rT η]
|z_=>_ X.K C
|Wq=>Cls z_
|xY4=>xG2 ln
|Wm=>foldedSetIterable iter X.env x
|Yi ζ η=>((ζ,vN η))
|ye2=>xNh "range"
|x6I=>ybP q2'
|ye3=>Iw "held"
|xY5=>Meth z_
|xPX ζ=>xM0 ζ<cLine
|ye4=>(CF).length
|ye5 ζ η=>xs.toList.drop[ζ+η]
|xPY=>(xHr).take j
|xEg=>∃o',Xn b o'
|x6J ζ=>xvG ζ Z7 T.list
|xPZ=>Cv e
|WW=>b≤255
|xY6 ζ η=>FV ζ[.inr η]
|Vd=>Rds Â
|xEh=>Crs Â CK CO
|ye6 ζ=>Prt Â ζ Sk CO
|xEi=>ycq hb e
|yki=>yi1 (fs.map (·.1))
|xEj ζ η θ ι μ ν=>by have ζ:=η;rw [θ,ι,μ] at ν
|ye7=>OldK s₁.heap s'.heap
|ye8=>xzR κ a
|ye9=>xzQ κ a
|xEk ζ=>(ζ:C6).Nodup
|xP0=>ED 4
|xP1 ζ=>show JM ζ from r
|xP2 ζ=>yiI (ζ,kw)
|xm ζ=>A8 ζ z z
|xP3 ζ=>g1 _ _[AK ζ]
|xEl ζ=>Fa Í ζ tx
|xEm=>Ft 3 h3 t3
|xEn ζ=>mw[ybk ζ ybd]
|o9 ζ η=>A2[ζ==η]
|x6K=>λ j=>rfl
|Vc=>ydD H
|xY7=>Ý yjC
|Tp=>On T Rs
|xY8=>xLJ DZ 3
|TY=>xX0 C
|zeR=>_ RS iter
|TX=>PI X zeR wi
|vy=>Bdy Â cB cN
|x6L=>xFT b ck1 g1
|xP4=>xX3 e
|xEo=>Hn È ?_
|x6M=>["body","head","window"]
|x6N=>HY[wQ 256]
|rj ζ η=>(∀ζ o,η)->ybb
|o8 ζ=>rj c ζ
|x6O=>TH b o
|pf=>Od X G a
|yfa=>(jI a).length
|xP5=>x6H v
|xEp=>xUw b xHo
|oi=>xA8 b S G
|oH=>yjO s f
|kr=>gw _ _ e
|jw=>xxM i z c
|jm=>xza H y T d
|il=>xfH _ _ _ _
|xP6=>(t++CI)
|yfb ζ=>xl7[hq.keep ζ]
|x6P=>.inr x
|xY9 ζ=>(ζ).map kV
|xP7 ζ=>ζ∈X.fs
|x6Q=>I.cne x
|x6R=>cellK x
|x6S=>LV hiσ
|yfc ζ=>isTrue zeJ
|xP8=>hc RN
|xY ζ η=>λ ζ H2=>η
|ie ζ η θ=>xY σ2[tb {ζ with nx:=η,ct:=θ,bk:=D.nx} σ2 H2]
|Z2 ζ=>ζ≤j
|x6T ζ=>Q[.bool ζ]
|ykj ζ η=>λ ζ s3⟨z,H3,I3,r3,k,e,q3⟩=>η
|x6U=>.inl e
|x6V=>F.len _
|x6W=>e0.bs b
|ykk=>.seq its'.toArray
|ykl=>pre_splitW hpre
|zds=>_ σ3 H3
|xJZ ζ=>λ σ3 H3=>tt zds ζ
|xJ0 ζ=>λ σ3 H3=>te zds ζ
|xZa=>A â
|xZb=>B â
|xP9 ζ=>TabK ζ d
|ykm=>I1.hok.fresh hT
|yfd ζ=>.done[.ret ζ]
|ykn ζ η=>Builtin.«list.sort» (ζ,η)
|yfe ζ=>I.step (ch:=ζ)
|yff ζ=>(P.map ζ).sum
|x6X ζ=>by simp [ζ] at hq
|x6Y=>Good ps
|yko ζ η θ=>by obtain⟨ζ,⟨_,_,η⟩,⟨_,_,AW⟩,_⟩:=θ
|xZc ζ=>cu ζ T.cl
|x6Z=>Ord blt
|x60=>O.neg _
|x61=>O.tot _
|x62 ζ=>ζ=A'.length
|xQa ζ η=>R.take[ζ-η]
|ykp=>pe.toList.map two
|xQb ζ=>min ζ Ve
|ykq=>Int.lt_irrefl a
|xQc ζ=>PD k_
|x63=>.refl _
|x64=>Q5.mp h
|xQd=>xzS sg
|xQe=>ba.1
|xQf=>bb.1
|ykr=>le_of_le_of_eq p1
|yfg=>Itm.rep r
|xQg=>num u
|yfh=>u.take k
|yfi=>u.drop k
|xZd ζ=>atKey ζ k
|yfj=>BP.num u
|xQh=>TOk L Pp
|x65 ζ η θ ι μ ν=>by obtain⟨ζ,η,θ,ι,_,μ,_⟩:=id ν
|xQi=>aN XR
|yfk=>T.take i
|yfl ζ=>ζ≠builtinsNs
|yks=>defaultsOf params
|ykt=>congrArg Nat.pred
|yfm=>fI.at nI
|yfn=>ff.at nf
|xQj=>LW hx
|yfo ζ=>some[V.int ζ]
|x66=>.bl bg
|xQk=>vN 66
|x67 ζ=>ζ≤F.length
|yku ζ=>SeqAt.RcNeAt.tuples (e:=ζ)
|ykv=>ç.take W.length
|yfp=>spWord cs
|xZe ζ=>xv4 (T:=ζ)
|x68 ζ=>.lst (A:=ζ)
|xZf=>am ny
|xQl=>b2 x
|x69=>.dK xq3
|xQm=>υ l5
|xEq=>Ψ p
|xQn=>vd 2 3
|yfq ζ=>UF env.frame ζ
|x7a=>EM 1712
|xEr=>vN p
|xQo=>BZ ha
|xQp=>BZ UQ
|ykw ζ=>Int.min_eq_right[IE ζ]
|yfr ζ=>ζ="signs_check"
|x7b ζ η θ=>by obtain⟨ζ,hx,η⟩:=θ
|xQq=>Ω oT
|Vw=>H l
|xi ζ=>EL e ζ
|xQr=>C' H2
|x7c=>A2 s.bg
|xQs=>BY 33
|x7d ζ=>TD[r.hd ζ]
|xQt=>Sf lo
|x7e=>List EE
|xQu ζ=>Ez ζ 300
|x7f=>DQ Bool
|xQv=>DQ RA
|xQw=>xw 0
|xZg ζ η θ=>ĕ[Vb Ê]
|HM ζ η=>by have q':ζ:=η
|xQx=>Hc T0
|xEs ζ η=>xuG K "__init__" À Ò
|ykx ζ=>xEs "CodeReader.__init__" ζ
|yky ζ=>xEs "BitReader.__init__" ζ
|x7g=>List BW
|x7h=>jf 1900
|ykz=>bm'.contains xLU
|xQy=>BE 14
|x7i=>Dm hp4
|xJ1 ζ η=>by rw [ζ,η];lia
|xZh ζ η=>if ζ then η else 0
|rk ζ=>E2 t ζ
|HF ζ η θ=>by show ζ;show BH Ù
|sV=>kJ[A2[x==yir]]
|xQz ζ=>bJ ζ all
|yfs ζ η=>call_meets ζ[xxu η]
|ykA=>(xMj).setIfInBounds
|xQA=>AJ IL
|x7j=>tP Bool
|xJ2=>xMl n
|xQB=>.a EA
|xQC=>xMs Cs
|xQD=>xMs Jj
|xZi ζ=>xUU .And ζ
|xJ3 ζ=>by rw [e1,ζ]
|ykB ζ=>(ζ).push[xwZ #[] 0]
|xQE=>ykB[yiv yee]
|xZj=>xU4 s3
|x7k=>xBy ρ
|x7l=>.int gy
|ı=>_ σ H1
|xQF=>t ı
|xQG=>xMH ib
|x7m=>yO true
|xJ4 ζ η=>BindsTo ζ fd[BC η]
|xQH ζ=>Sd C ζ p d R
|xQI=>Due L
|ra ζ=>Q[.int ζ] H
|hJ ζ=>C8 io[RV.of ζ]
|xQJ=>xxS xUO
|xQK=>IntsAre vs ns
|xAa ζ=>by apply MB;intro ζ
|xQL=>x6 xBS
|xQM=>K26.Rows Â
|yft=>xVw false
|xQN=>rW xU8 V
|xh=>xNk z z
|xQO=>Ak[w.map vN]
|xQP=>B.take[xUM 2]
|xQQ=>ç.set k v
|xQR=>vN gp
|rF ζ=>(IH σ' ζ)
|xQS=>Xb []
|xZk ζ=>xND ζ gNil
|xQT=>xWc 64
|xQU=>DL R
|xQV=>Array[xBk Jg]
|xQW=>LM 3 _
|xZl ζ η θ ι μ ν=>by show((ζ:η)=θ,(ι,μ)=ν)
|xZm ζ η θ=>Hn ζ[RV.of η] θ
|xAb ζ η θ=>A3[ak ζ] Ù
|xQX ζ η=>ζ<(η).length
|xQY=>a.size-1
|ykC=>a.toList.drop xQY
|xJ5 ζ η=>qh[xHk ζ[B9 η]]
|xQZ=>xyi AB T.cl
|xQ0=>xOb 14
|xQ1=>xyw C H' r d
|xQ2 ζ=>Ą ζ ta
|xQ3=>xW4 Aj
|xQ4=>yg H'
|Î=>_ ?_ ?_
|rD ζ η θ=>Np[xMG ζ (Q:=η) Î θ] ?_
|Gz=>[u]
|xZn=>xVv Gz
|xQ5=>vN yc6
|xQ6=>gF[ZF≠.cell]
|xQ7 ζ η=>Kj (a:=ζ) (l:=η)
|zr4=>_[.inr Bt][.int Bm]
|xQ8=>putK a zr4
|xJ6 ζ η=>(TD ζ,TD η)
|rC ζ=>Q ζ H1
|zbV=>_ rv pl
|x7n ζ=>by show(TL,u9 zbV ζ)
|xQ9=>i'[Fy β]
|xJ7=>HL c o
|xRa=>xDO JD
|xZo=>xGo ea G3
|xAc ζ η θ=>by show(xBT zeZ,uM θ)
|rA ζ=>xX5 x ζ
|ykD ζ=>N8 ζ hit.typeIs entry_listiter_next
|ykE ζ=>let(q,_,_,hq,_):=dd';ζ
|xJ8 ζ=>(MJ ζ).1
|xAd ζ η θ ι=>by show(ζ=η,Υ _K)
|xRb ζ=>xBU ζ H N
|xZp=>Lc[J6 cW I.ok.above]
|ykF=>["_law_k","_law_script"]
|yfu=>["row","before"]
|ykG ζ=>xJV Builtin.Range.rangeSize ζ
|zcj=>_ fW XX
|xRc=>x4U zcj
|xRd=>N â
|xZq=>FnD Â
|xRe=>Bts Â
|x7o=>xq6 t.wb t.tb
|xRf=>xvG xvH Z7 X.list Ly
|xJ9 ζ η=>IB[xOk ζ][xOk η]
|xRg=>Gs ydd ï
|yfv=>xyy blt kf all
|xRh=>xyx blt kf all
|xRi=>KT H Sa xs
|zhe=>_ body scope
|zcp=>_ params zhe
|x7p=>fnOf name qual zcp
|xRj=>cs Ź
|zbM=>_ Í hN
|xRk=>On.rest zbM
|xRl=>yjN Í
|xRm ζ=>λ _ s'=>ζ
|x7q ζ=>by rw [<-ζ];rfl
|yfw=>Sum.inl a
|yfx=>Sum.inl b
|yfy=>Sum.inr a
|yfz=>Sum.inr b
|yfA=>K.In base
|xAe ζ η=>BkH À c
|xEt=>hl i
|xRn ζ η θ=>λ _ _ _ H _ ζ η=>θ
|ykH ζ=>λ _ _ _ _ _ _ ζ=>h.elim
|xEu=>hs i
|ykI=>intBits_le_64 h1
|xEv=>[ov]
|ykJ=>c.names.lookup x
|ykK=>tupleItemsOf_ ht
|ykL=>wpAny_typeOf hTs
|yfB=>mg d.name
|yfC=>xoE X.prog
|yfD=>pure true
|xEw ζ η θ ι=>(Į,os)
|x7r=>by simp at hx
|x7s=>exp rs
|x7t=>by simp at hz
|xEx=>H' p
|yfE=>spMove C
|ykM ζ=>V.str[Str.ofString ζ]
|ykN=>getElem?_pos arr
|x7u=>jp2 ()
|ykO=>xs.toList.take i
|yfF=>Rm.mpr h0
|xRo=>Kh e
|yfG=>.dict #[]
|xEy=>xgA L
|xEz=>xf7 L
|x7v=>["self","way","count","inside"]
|ykP=>toString ".loop"
|yfH=>by simpa using n
|Gy ζ=>F w p ζ s
|yfI ζ η=>by obtain⟨ps,ζ,_⟩:=η
|ykQ ζ=>by obtain⟨_,_,ζ⟩:=Y.checkof
|yfJ=>kp.tr Sv
|ykR ζ=>Ñ[W13.Itm.Ë ζ]
|x7w=>by rw [<-J8]
|qz ζ=>∀H1,ζ
|yfK=>K26.Wal K
|x7x ζ η=>BO ζ Z.R.whole η Z.needsize
|xEA=>Ν q
|xZr=>Bf ck
|x7y ζ=>c_[rT ζ]
|ykS=>I2.hok.fresh ρ
|yfL=>Xk zF0.symm
|xZs=>FQ hw
|yfM=>instObj C
|xKa=>D4 b
|ykT=>Þ "rest_size"
|qy ζ=>ζ->Nat
|yfN=>Iw "wide"
|xRp ζ=>by obtain⟨⟨dx,hp⟩,hC,hw⟩:=ζ
|yfO ζ η=>Ι "need_size" À
|yfP ζ η=>Ι "are_whole" À
|yfQ=>yit "sign"
|xEB=>II p
|ykU=>FL "need_window"
|ykV=>FL "_law_opened"
|xRq=>va e
|yfR=>yb I2.kIn
|yfS=>yb I1.kIn
|yfT ζ η=>(ζ).app[Sm.refl η]
|xEC ζ η θ=>yD ζ[jZ Ù]
|x7z ζ η θ=>by obtain⟨h1,ζ,η⟩:=θ
|xAf ζ η θ=>by show(Υ À,θ)
|x7A=>by unfold _P
|x7B ζ=>.inl[dJ ζ]
|x7C ζ=>.inr[dJ ζ]
|yfU ζ η θ=>by obtain⟨⟨ζ,b2⟩,η⟩:=θ
|x7D ζ η=>WF[codeIn K À]
|xZt ζ=>x7D ζ qual
|xKb=>by exact z
|rG ζ=>λ p hp=>ζ
|xRr ζ=>rG[n.pin p ζ]
|xED=>[Jn]
|xKc=>Fn JO
|x7E ζ η=>AQ ζ "begun" η
|yfV ζ η=>AQ ζ "rest_size" η
|ykW ζ=>λ _ _ _ _ _ _ _ _ ζ=>xMx
|xEE=>xBx H
|yfW=>(("count",yP))
|xRs=>((x2J,yP))
|xEF=>x2W e
|xKd=>UU JP
|xAg ζ=>YF C4 D2 D2 ζ
|x7F=>by simp at h1
|xRt ζ η=>by have:=ζ;show xMO η
|xRu=>by show(Sx hc,xA1 Ui.symm VE.symm)
|yfX=>V.str Yo
|xRv=>x≠"__name__"
|xEG=>wO B
|xEH=>6≤vs.size
|xEI=>xzg A s.heap
|xEJ=>K26.xvT Â
|yfY=>xxS .plain
|ykX=>List.replicate k
|xEK=>xM3 S
|xRw=>xMM scope f cd
|yfZ=>ybH b.size
|xRx=>x3u c
|xEL ζ=>zd ă ζ
|xRy=>xEL ?_
|yf0=>xVK h.symm
|ykY=>I.hok.fresh nr
|xEM=>Q Dc
|xEN=>2^j.toNat
|yf1=>yiV a.size
|xZu=>wa hp
|yf2=>CpX ok R
|xRz=>xwY[253+y]
|yf3=>Walks.list (prog:=X.prog)
|xEO=>xHO s
|xEP=>xHU r
|xEQ=>lG k
|xER=>k b o
|xAh ζ=>xtZ ζ O.cl Ov.m GV Si Ov.b _F
|xAi ζ η=>xvL xrV ζ[xu3 η] xrQ
|xKe=>by cases r
|xES ζ=>callWith pos f first ζ[yiO pos []]
|yf4=>T9 K "__init__" "Check.__init__" á
|yf5=>xOt e a1
|xET=>neC b o e hx
|x7G=>xsA κ X
|xEU=>TxG R W
|x7H=>fr7 _ _
|xKf=>xxG [xyO cs]
|xZv=>yde[L.drop q]
|xEV=>yje xNl H
|yf6=>(Ψ 272).toNat
|xEW=>Ax b tb
|xEX=>(xMk 1)
|xEY=>B8 xs v
|x7I=>UV l1 nl1
|xZw=>UV l1 n1
|yf7=>xq8 I hg hm
|xRA=>MK[yf7 ?_ YY]
|xAj ζ η θ ι=>Fu Ê[q _ ι]
|xRB=>xX4 e
|xRC=>xB7 j p
|xRD=>xX6 n
|yf8=>lc S p m
|yf9=>UF o.dict builtinsNs
|xZx=>A'++CI
|xEZ=>JU 2
|xE0=>rJ z
|yga=>xJT s.heap
|xZy=>rW RC RC
|xE1=>Yd Vs d
|xE2=>aA Rs R
|ykZ ζ η=>xUz f (oc,od,.func ζ,η)
|xE3 ζ=>ykZ ζ sl
|xE4=>g x σ' H2
|ygb=>MZ dT _
|ygc ζ η θ ι=>by show((_,_,ζ,_,η)=θ,ι)
|xE5=>z≤18
|yk0 ζ=>xEs "Reading.__init__" ζ
|yk1 ζ=>xEs "Presser.__init__" ζ
|xE6=>jH xxZ[Bt≠b]
|xE7=>xkl H a
|xE8=>xtW a b c
|xE9=>s9 _ _
|ê=>_ Â C
|xFa=>Rdr ê
|xFb=>xv9 CX X E
|xFc=>ha H1 s _
|xFd=>xfW _ _ _
|xFe ζ η=>wpS M A E s À sq0
|xFf ζ η=>Sc[M2 _ _ _ _ ζ] η
|xFg=>xfL _ _ _ _
|xFh=>Ops zc4 G' zdt Ğ CO C G Ce Cp cM cH cK cT cB cN cL cC cP cs
|xg=>h k
|Hs ζ=>ζ%256
|xFi=>Hs c
|ygd=>λ _=>0
|rg ζ=>o.cls=ζ
|yk2=>assignEach elts
|yge ζ η=>h.DictOf[xyh À]
|x7J ζ=>.dict ζ ep
|x7K ζ=>h.Ns1 ζ mA
|xZz=>.tbl[ps++more]
|yk3=>storeName X.env
|yk4=>h.IsListIter it
|yk5 ζ=>wpAny_pyIter_list ζ ?_
|ygf=>stat Y2
|x7L ζ=>InstAt ζ x
|xZA ζ=>A.depth+ζ
|ygg ζ=>N5 (first:=ζ)
|yk6=>N.take P.length
|yk7=>codeAny_func ?_
|x7M ζ=>NV ζ htake
|yk8=>call_list_seq p
|ygh=>.type c
|yk9=>excClassObj nm'
|yla=>Oi I.ok.mod.kin
|xZB ζ η θ=>B.foldl[λ ζ η=>θ]
|xZC ζ=>Lj[Ks ζ]
|x7N ζ=>ζ*T.length
|x7O=>Lq SH
|ygi=>BP.val B
|ygj ζ η=>(Pc.cp À).size
|xZD ζ=>KY[Ks ζ]
|xKg ζ=>ζ=a.size
|ylb=>TN.k.trans hk
|ylc=>b.toList.take 1
|xZE ζ=>NJ[Nf ζ]
|yle=>Uh.k.trans hk
|ylf=>Uh.f.trans hf
|x7P=>by simp;lia
|x7Q=>JQ hn
|ylg ζ=>h.sq0.app[Sm.refl ζ]
|xZF=>Mj RQ
|x7R ζ=>Y.length=ζ
|x7S=>QB ?_
|xKh=>ln p
|x7T ζ=>(ζ).keep s5
|x7U=>PJ hu
|ygk=>Sr.of ae
|ylh=>rawInt pos.line
|ygl ζ=>(ζ).getD .none
|ygm=>fS.at nS
|yli=>PySem.W.WalkO q
|x7V ζ=>cu ζ TB.cl
|ylj=>mg "PressError"
|xZG=>am n3
|xZH=>JX hj
|x7W ζ=>I2.kIn ζ _
|ylk ζ=>List.append_inj' k_
|ygn ζ=>.lhead (a:=ζ)
|x7X ζ=>.gt (n:=ζ)
|x7Y=>JQ lT
|ygo=>h.same s
|yll=>Fa.hp.same s1
|ylm ζ=>by obtain⟨_,_,ζ⟩:=Z.headof
|ygp=>.ref fa
|yln=>Builtin.bitXor[Ψ a]
|x7Z ζ=>UF ζ false
|ygq=>some v'
|x70=>AV Tm
|x71=>Cj dj
|xKi=>Tl q
|x72 ζ η=>ω ζ hr.units η
|ygr=>va iter
|ġ=>_ q hq
|xRE=>UV ġ
|x9 ζ η θ=>HC[ζ] Ù
|xKj ζ η=>Gh[bv À]
|xKk ζ=>UF ζ o'
|x73 ζ=>xUq ζ .cell
|x74=>IT B4
|ygs=>Az this
|xKl ζ=>B8 cs ζ
|rf ζ η θ ι=>lD À[AY θ] ι
|x75 ζ η=>JN ζ[NL.K' η]
|x76=>rM 14
|xRF=>Xi k
|x77=>Bu Ey
|rU ζ η θ ι=>SL Ê[DT ι]
|xZI ζ=>Xm[pq ζ]
|ygt=>EI 1400
|x78=>Cv hy
|x79=>Cv XH
|x8a=>Cv ha
|ygu ζ=>((Str.ofString "key",ζ))
|xFj=>[ygu Xl]
|x8b=>HV Η
|xZJ=>xv8 Bz
|xZK=>BN xFL
|ylo=>FL "_law_check"
|x8c=>xFR Ε
|x8d=>Ar Iu
|ygv ζ=>.int ζ s.toks
|x8e ζ=>xUG ζ .cell
|rH ζ=>Gi 2 ζ
|xKm=>iZ i
|x8f=>jr xAS
|xKn ζ=>DI ζ n5
|x8g ζ=>CodeHd ζ c
|qm=>Ju a m
|ygw ζ=>Ju ζ A.length
|ygx=>Ë Pp
|x8h=>oF false fx
|xRG ζ η=>x2C[tr À]
|x8i=>xxn AB
|xKo ζ=>JN ζ ER
|x8j=>Il ST
|x8k=>Il Dk
|ygy=>.ret xA7
|x8l=>nA FG
|x8m=>nA BV
|x8n=>BC Dl
|xKp ζ=>Bv cZ ζ aj
|x8o=>xGb Ε
|x8p ζ=>xyi ζ T0.cl
|ygz=>xBe "code" "length"
|ylp=>Fq "ValueError"
|xAk ζ η θ ι μ=>(Č,rfl,θ,ι,μ)
|xKq=>H1 c
|x8q=>tF Tm
|x8r=>tF Φ
|x8s ζ=>mF ζ xyv.nd
|x8t=>xxA zB
|x8u=>xBr ha
|x8v=>AV Dx
|x8w=>envX qual scope s.heap.objs.size
|x8x ζ=>SD ζ X.len
|x8y=>Cv Eo
|ylq=>Int.lt_trans xBL
|ygA=>xve.mp xBL
|xKr ζ=>xM2 H1 ζ
|x8z=>xxW l1
|x8A=>yI Tm
|x8B=>xMQ cD
|x8C ζ=>yiM ζ items
|ygB=>xVw true
|xZL=>ykB[yiB 0]
|xKs=>xFP iN iN
|x8D=>xG5 xHe
|x8E=>Xe ST
|x8F=>yiH[x2u #[]]
|x8G ζ=>UF ζ .free
|qk ζ η=>xVY ζ TM η
|xRH=>(xVE).map[sgl CQ]
|x8H=>eu xBX
|xZM=>Ų T.length VG
|x8I=>Ar Dx
|x8J=>x3V zT
|xZN=>Zy XJ
|x8K=>xWs vF
|x8L=>xWs Hb
|ygC ζ=>yi (ζ).reverse
|x8M=>Hi uZ
|qj ζ=>d4 ζ N
|xKt ζ=>.m ζ Tm
|x8N=>xHI Δ
|qd ζ=>tQ ζ[D4 y]
|xZO ζ=>qh[xNX ζ]
|ygD=>dY hlen
|xKu ζ η θ=>xrP (D:=ζ) (lo:=η) (n:=θ)
|x8O=>x4u ZF
|xKv ζ η=>xfM (m:=ζ) ci η Ð
|ygE ζ=>xH7 ζ u.length
|qa ζ=>jH ζ[xBc p]
|x8P=>xCP xBW
|x8Q=>xqL Z.X.len AB
|xRI=>xCR 6
|x8R=>ZA x4R
|x8S ζ η=>xW4 ζ[.type η]
|x8T=>Mp RQ xHE
|x8U=>TD[e[h1.trans z]]
|x8V=>x5l m6
|ygF=>xGd none
|xZP=>Ct 8 hlen
|x8W=>xDy fs
|x8X=>Kh Z9
|xZQ ζ=>Pv.isT (b:=true) (x2O ζ)
|xZR=>xIG x cd
|xKw ζ=>dS Hp ζ
|Gp ζ=>dR ÿ[K9.mp ζ]
|xKx=>ybh 0 yjE
|_G=>_ (K:=K) rfl
|xKy=>xfI _G hu
|xKz ζ=>cX[xI5 _] ζ
|xKA ζ=>hi RN ζ σ
|x8Y=>xJb Z6
|xKB ζ=>xfP (v:=ζ) Z7
|x8Z=>xnq I.hok eb
|xKC ζ=>zV hs b ζ
|xZS=>(Z9,Z9)
|xZT=>xFT b c g1
|xZU ζ=>Lc[J6 cW ζ]
|xZV=>Ο x H' y
|x80=>xVH xPJ
|ygG=>pe.toList[j]?
|xKD ζ=>BY ζ ps sp
|qL ζ=>zC ζ 0
|qK ζ=>zC ζ 1
|x81=>(xrN hB.sm.1 nl).symm
|x82=>(xrN yb9 nl).symm
|xKE ζ=>Fh ζ [TC]
|xZW=>X.stack=yb2
|x83 ζ η θ ι=>by generalize ζ:upd η ea θ=ι at*
|xZX ζ=>ap xpm[aK ζ]
|ylr ζ=>xEs "Opener.__init__" ζ
|yls ζ=>xEs "BitRow.__init__" ζ
|ylt ζ=>xEs "Course.__init__" ζ
|xKF=>e≠ck
|x84=>xxE xXw xBV
|xRJ=>bn b e
|xZY ζ=>(vx,ζ)
|xZZ ζ=>x7H[ij ζ]
|xKG ζ=>ζ->Hp->Fy VK
|xAl=>xKG SC
|xKH ζ=>vB bM Ab aj ζ
|xRK=>yf8 n
|x85=>ND ygb
|xRL=>b::rest
|x86=>Kn[AK[Kn h]]
|xRM ζ η=>UF[xUA À] b
|zbu=>_ ï n3
|ygH ζ=>hC.off ζ zbu
|xZ0=>ygH kp
|x87=>Mp RQ[Mm[MN _]]
|x88=>D8[Hk Tm] 2
|x89=>xDz AZ g1
|xKI ζ=>xq1[xXd ζ] pz ybt
|xKJ ζ=>I.turned ζ f0 f1 f3 f4 f5
|qJ ζ=>xu8 C ζ p d e L
|x9a=>E.le c
|x9b=>id hit
|xZ1 ζ η=>show¬ζ from η
|xZ2=>Kg Z6
|ygI=>u.keep b
|ygJ=>X.H₀ b
|ylu=>AllBare s.gens
|ygK=>id I.loc
|qF ζ=>∀s',ζ
|xKK=>PW X
|x9c=>Turn P
|x9d=>rule i
|xKL=>xpw r
|ygL=>K6.mpr h
|ygM=>N4.mpr h
|ygN=>xjm outer
|ygO=>CX outer
|ygP=>N5 I.kIn
|ygQ=>by simp [this]
|xZ3=>IxR X
|ylv=>Obj.mapSeq f
|ylw=>compEnvC scope
|ylx ζ=>(ζ).env.cells.lookup x
|xZ4=>[cnd]
|xZ5=>tt σ
|ygR ζ η=>λ _ _ _=>xio À
|yly ζ=>wpAny_getItem_of ζ hm
|xKM=>Xx c
|ylz=>bindName X.env
|xKN=>H' e
|xRN ζ=>by exact ih ζ
|x9e ζ=>by simp [ζ] at h
|xZ6=>val A
|x9f=>num bs
|x9g=>Kh xnZ
|xZ7=>aN hp
|xZ8=>JX l1
|x9h=>["signs","place"]
|xZ9=>J5 hc
|ygS=>by have:=h.sq0
|qx ζ=>ζ++out
|x0a=>xgm hO
|ygT=>xzR.go hI
|ygU ζ=>ζ++out.reverse
|ygV=>xzQ.go hI
|ygW=>xuB.mp hk
|ygX=>by simp;omega
|ygY=>X.drop n
|ylA=>l.eraseIdx i
|x0b=>Uk Rs
|ylB ζ η=>by simp only [bne_self_eq_false,ζ,η]
|x9i=>Lev sg
|ygZ=>KD.mp hq
|x0c=>xvD SH
|xKO=>[av]
|xKP=>H4 c
|x9j=>LnOf C
|x0d=>td σ
|ylC=>W13.xqX tok.six
|x9k=>JW hto[JU _[xOi[JW XU Sl]]]
|ylD=>rawInt pos.col
|ylE=>X.base.get? bm
|ylF=>.Lambda params
|ylG=>C.keeps I.bk
|ylH=>h h'.objs.size
|ylI=>toString "min"
|ylJ=>VD.heap.get? b
|x0e=>C' H4
|xKQ=>WP n
|yg0 ζ η θ ι=>by obtain⟨ζ,η,θ,ι⟩:=hw.facts
|yg1=>V.int 16
|xKR=>k H'
|x0f=>fC 16
|x0g=>grp b
|x9l=>PrAt C
|x0h=>fr4 _
|x0i=>xrw H0
|x0j=>hb H1
|ylK=>Inv.unhand I2'
|x0k=>RdO R
|yg2=>nope rfl
|yg3=>mg "Cut"
|ylL ζ=>(Nat.zero_xor ζ).symm
|xKS=>k H3 Ut
|x0l ζ=>d7 (A:=ζ)
|x0m=>s23 _
|yg4=>w.take k
|yg5=>rLenS K
|yg6=>.isl rfl
|x0n=>s0' b
|x0o=>Cts X
|xKT ζ η=>Sc[LL ζ] η
|xFk ζ=>Sc e1 ζ
|x0p=>by rw [MW]
|x0q=>by clear gg
|x9m=>some r
|x0r=>EM 12
|x9n=>EM 192
|x0s=>Ν ah
|xKU=>Ν m
|xFl ζ=>Ζ e1 ζ
|ylM ζ=>Builtin.bitXor[Tl ζ]
|x0t=>by exact ih
|xFm ζ=>EL rx ζ
|x0u=>ap xpl
|xAm=>CM e
|x0v=>by rw [e2]
|yg7=>.ref wt
|ylN ζ=>Xn s.heap.objs.size ζ
|x9o=>iS h'
|x0w ζ=>KW[TD ζ]
|x0x=>xfX yA
|x9p=>.int k
|x0y=>Ω i7
|ylO=>Y'.Pairwise Di
|xKV=>vN x
|x0z=>Fw Al
|yg8=>(xLN).size
|xKW=>EM 8
|x9q=>EM 255
|yg9=>(SA).take
|xFn ζ=>DR ζ gE
|yha=>.inl jl
|Gm ζ η θ=>Bg C4 ζ SZ η SZ θ
|x9r=>jf 300
|ylP=>FL "need_size"
|ylQ=>FL "weight_of"
|xKX=>AJ n
|xKY=>xLV n m
|yhb=>RV.of UQ
|yhc=>tCall sp
|x0A ζ=>xaX[xUF ζ]
|x0B=>aS Z9
|ylR ζ=>Jw (hZ.symm.map (·.2)) ζ
|xKZ=>BY 2
|xK0=>pQ p
|yhd=>by unfold ò
|x9s=>Ga hl
|ylS=>V.int.inj Jq
|x9t=>rN tV
|x0C ζ=>rN[kR ζ]
|xAn ζ η θ=>rI0[λ ζ η=>xw7 θ]
|ylT=>nsIn K mainGlobals
|xFo ζ=>Sc xGa ζ
|yhe ζ=>ζ="rest_size"
|GG ζ η=>λ ζ η=>DG
|ylU ζ=>I.base.there b o ζ hx
|xRO=>ylU e
|xRP=>ĩ S q
|x9u ζ=>iu pyNext ζ
|x0D=>mW a ea
|yhf=>(xMg).drop
|x0E=>ybq xFS
|yhg=>Fq "min"
|x0F=>base.Ns ziU
|x9v=>Cv CV
|x0G=>JN h1
|x9w=>ybr IK
|x0H=>JW IJ
|Yh ζ η=>∃W:i' ζ,η
|x0I=>DQ F9
|yhh ζ η=>x2Q ζ[.builtin η]
|ylV=>bootBuiltins x
|x9x=>xxA SZ
|Yg=>(w++ZG)
|x9y=>oR hp
|x0J=>by subst hb
|xRQ ζ η=>yx[xxE À]
|x0K=>te ı
|G9 ζ η=>EN H À
|yhi=>yO false
|xK1=>yO b
|x9z=>uV wt
|x0L=>max 1
|x0M=>xUv "isinstance" p2
|ylW ζ η=>SD À PyProof.Rows.boot_max
|x0N=>ap xtY
|xK2=>wO W
|x0O=>Tl oU
|x0P=>x3e Yo
|x9A=>Sr X.K H
|x9B=>Walk L
|yhj ζ η=>x3g ziy
|qD ζ η θ ι μ=>by show(ζ=η,A3 _K μ)
|Ż=>_ Ä Q
|xK3=>t Ż
|x9C=>o5 xAJ
|x0Q=>yiL s3 H3
|x0R=>vD d iF
|x0S=>(yiB 0).objs.size
|x9D=>xyj rfl
|xK4=>(xNi)
|x0T=>x3I AB
|x9E=>Kk hxn lC
|x9F=>Xd Su
|x0U=>cI XJ Ui
|ylX=>X.A.units<cLine
|ylY=>Wv.fed (cC:=cC)
|x9G ζ=>ylY (σ:=ζ)
|x9H=>aH .Eq
|xRR=>xHn x y
|x0V=>xBp Β
|x0W=>Value.ref T !=Value.none
|yhk ζ η=>VF ç.length À
|x0X=>xNF s'
|x9I=>xNF st'
|x0Y=>xNF tV
|xRS ζ η=>A7[JB À]
|x0Z=>Y7 35
|_L=>_ σ H'
|x00=>g x _L
|x9J=>x3Z pl
|x9K=>DL DZ
|x9L=>Q none
|ylZ=>xWp zs.length
|xK5=>xWr e
|x9M=>HG rfl
|mr ζ η θ=>xqG (D:=Ym) (K:=ζ) (a:=η) (xs:=θ)
|x01=>b∉ex
|xAo=>Qt e
|x02=>lp s0
|yhl=>closureFor zjI
|x03=>Beg L
|xK6=>CXD D P w
|xK7=>x4j e
|x04=>É[sk xFS]
|x05 ζ=>bj[VT ζ]
|xK8=>lG i
|x06=>W i m σ
|x07 ζ=>EO m[W 0 m σ ζ]
|x08 ζ=>Ó X0[(xvK jK).drop ζ]
|x09=>xUw e xWT
|x1a=>dE xxz
|xK9=>k b u
|xRT=>xOd k
|x9N=>x4E xNP
|xFp ζ=>Sc xvJ[KW ζ]
|x1b=>ycN H'
|x9O=>xOn nx
|x1c=>TU H p Ps
|x9P ζ η=>by show(Gj[ar ζ] g,Gj[ar η] g)
|xLa=>xOp N
|yhm=>.cons bd
|xLb=>xOs f
|x9Q=>xxg kf we
|x1d=>T9.i l9 c9 k9
|x1e=>xID Eo
|x9R=>.int c t''
|xLc=>ydA a
|yhn ζ=>js.map[λ j=>ζ]
|x1f ζ=>dot c[λ j=>ζ] c.length
|x1g=>NC (pl:=pl)
|xLd=>Cks Â
|x1h=>xXZ cR
|yl0=>xfK _G
|xRU=>yl0 hu
|x9S=>y9 AE
|x1i=>tb ı
|xLe=>Xx b o
|xLf=>s14 _ _
|xLg=>kp2 _ _
|xAp ζ η=>UF[findIn K C5 ζ] η
|x1j=>xxE yeh
|xFq ζ=>Ib[xl8 ζ DG]
|xRV=>xJQ i
|x1k=>Ω[Vq TZ "take"]
|x1l=>NewA X RN
|x9T=>xvg sq0 st'
|x9U=>x23[xAV kH]
|xLh=>Inv X Td σ
|xLi=>ye6 C
|x1m=>xN8[xUD n] xCp
|xLj=>ye8 b sq0
|xLk=>ye9 b sq0
|xf ζ η=>Bc[ζ++η]
|x1n=>hint+la
|x9V=>Kk WA hn
|x1o ζ=>bx ha[AI ζ]
|yho=>x7k .tail
|yhp=>SD xl6 T.isi
|yhq=>SD xl6 X.isi
|x1p=>x6[vp b]
|x1q=>xY8 7++[y]
|yl1=>xZq "pieces_of"
|x9W=>yfv out
|x9X ζ η=>(ζ++η).toArray
|xLl=>xCj H 0
|xLm=>Exc1 Â p
|x1r=>yf5 a2 a3
|x1s=>x7G D0 Eb
|xLn=>xzc Â
|yhr=>RV.of[Dm hw]
|x1t=>Jv jD r
|x1u=>E2 b[k.map kV]
|x1v=>A2[behindInMarks op b]
|x1w=>ym z xNo
|xLo=>WF[isFn K Xl]
|xLp=>COp Â Cp
|x1x=>xKG SR
|xLq=>Erx Â cM cH cK cT
|x1y=>Un fs ex
|xRW ζ η θ=>xvP P w À base θ outer
|xLr=>su _ _
|x1z=>Tbs Â
|xLs=>Y2 _ _
|x1A=>ybf it h'
|x1B=>RV K H1
|zdS=>_ xzJ Jah
|zdu=>_ fN fdN
|x1C=>FL "need_row" zdS zdu
|xLt=>MH κ a b
|x1D=>xw8 l1 bg fn
|ze7=>_ "ones" xzt Jal
|x1E=>FL ze7 fO fdO
|x1F=>yje _L
|zeS=>_ T.m T.b
|x9Y=>xgy Co.F S0.Zb R0.W.cl zeS GT
|x1G=>xqB KU M9 NH xfT
|xLu ζ=>Wal zc4 ζ zdt
|xLv=>Prz zc4 G' zdt c Ğ CO
|x1H=>xgS Í
|DA ζ η θ=>by have:ζ=η:=θ
|yl2=>Value.bytes b
|x1I=>λ _ q=>q
|yl3=>I.base.frzs _
|yl4 ζ=>by rw [ζ,Array.append_assoc]
|yhs ζ=>exec zeJ
|yl5=>.UnaryOp .Not
|yl6 ζ=>by refine wpAny_execs_cons ζ
|yl7=>I.list_inj hy
|yl8=>IsRangeIter _
|G7=>r x
|yl9 ζ=>h zqT
|yma=>codeRec_of KX
|ymb=>r.append r2
|x9Z ζ η=>if c then ζ else η
|x90=>xqF rv
|ymc=>intItems ys
|x1J=>ZF=.local
|ymd=>I.hok.kept hk
|yme=>by simp [Value.isInt]
|ymf=>I.base.keep c
|ymg=>I.base.free c
|yht ζ η=>by obtain⟨cd,ζ,_⟩:=η
|x91=>by simp [h]
|yhu ζ=>xfE ζ T.range
|x1K ζ=>runP ζ P
|x1L ζ=>xfD ζ key
|ymh ζ η=>Nat.succ_lt_succ[J6 À]
|x92=>by simp [e]
|ymi=>pendingOf st'
|ymj=>OZ hma.symm
|x1M ζ=>by rw [<-ζ,e]
|yhv ζ η=>by rw [ζ,η];dsimp only
|ymk=>Nat.max_le.2
|yhw ζ=>((ζ,r.length))
|yml ζ=>(l.map ζ).eraseIdx
|yhx ζ=>(ζ).map V.int
|ymm=>sm.trans s3
|ymn=>Z'.map (·.1)
|ymo=>Z'.map (·.2)
|ymp=>s05.trans s6
|ymq=>Nat.le_min.2
|x93 ζ η=>Sa.map[λ ζ=>η]
|ymr=>Paired.snoc r
|yms=>s13.trans s34
|ymt=>J2.turn fS2
|ymu=>Int.le_refl _
|yhy ζ=>none_of ζ n3
|ymv=>mg "BadCheck"
|x94 ζ η θ=>congrArg[λ ζ:η=>θ]
|yhz ζ=>ζ≤R.length
|x95 ζ=>ζ-S.length
|yhA ζ=>G.length≤ζ
|x96=>xmE hj
|ymw=>ho5.same s6
|x1N ζ=>Sc this ζ
|x1O=>D8 Ye 100
|xRX=>UF oT T
|yhB ζ=>sS (ζ).length
|xAq=>CZ P X
|qw ζ=>EL h ζ
|ymx=>xwZ kv.toArray
|xLw=>yC b u
|qv ζ η θ=>FR À JO θ
|yhC ζ η=>C.filter[kP À]
|G6=>H e
|x97 ζ=>DD[.inl ζ]
|x1P=>B8 X.N y
|yhD ζ=>I.write ζ rh
|xAr ζ=>ζ=.non
|xLx ζ η=>xLI 18[λ ζ=>some[D3 j η]]
|ymy ζ=>Hf Builtin.Range.small ζ
|ymz=>X.Pairwise Di
|ymA=>l.Pairwise Di
|xFr ζ η=>Ο h' À
|x98=>bD Al
|yhE=>xw4 Bool
|Vv ζ η=>gJ À q q
|x99=>rB SH
|xFs=>h H Bq _
|x1Q ζ=>(o,ζ)
|ymB=>Hc its.length
|qr ζ η θ ι μ ν ξ ο=>(Į,μ,rfl,ν,ξ,ο)
|xRY=>Dp Al
|zgr=>_ none rfl
|yaa=>ID zgr
|ymC=>κ.keyOf Bt
|xFt ζ η=>EN H3 À
|ymD=>FL "in_pairs"
|xFu ζ η=>xxb À s2
|ymE ζ η=>Cb ζ "Reading.go_through" η
|ymF ζ η=>Cb ζ "Reading.read_parts" η
|yab ζ η=>Cb "tell" À
|yhF=>.inl[AK rfl]
|ymG=>excMatches zD
|ymH=>s3.trans nJ
|xFv ζ η=>xlF À scope [] fp
|ymI=>ybm Value.none
|qp ζ=>ZO X.A.in1 ζ _
|yhG ζ=>x2G "slice" ζ
|xFw ζ=>xuz X[.builtin ζ]
|ymJ=>xFw "isinstance"
|yhH ζ=>iu setFlight ζ
|xRZ ζ η=>Ek n.s0 À
|qo ζ η θ=>x2o À hz[I.tuple θ]
|ql ζ η=>by have h1:ζ:=η
|xLy ζ η=>by rw [ak ζ,η]
|xAs ζ=>jF[A7 ζ] 5
|ymK=>failedOf VM
|xR0 ζ=>by exact AK ζ
|yac=>sQ ha
|yhI ζ η=>ç.take[CZ À]
|yad=>uV ck
|ymL ζ=>a.setIfInBounds ζ Yo
|xR1=>by simp [pairs] at hb
|ymM=>gM "finished"
|yhJ ζ=>wR[.bool ζ]
|_A=>_ e cls
|x1R ζ=>Fly ζ _A
|x1S=>x1R h'
|x1T ζ η=>(ζ).flatten=η
|xFx ζ η=>HC vs À
|yhK ζ=>xve.mp[J5 ζ]
|xR2=>ybD 3
|ymN ζ=>x3s ζ (Z'.map (·.2))
|xAt ζ=>EG i ζ
|yae=>ybN D0
|nj ζ η θ=>zd ζ _ Ù
|yaf=>Kh KF
|yag=>s'.heap.update c[x2u #[]]
|xLz ζ η=>EC[DT[Cj ζ]] η
|xR3=>JE[show False from r]
|x1U=>Ι ziV Jab
|x1V ζ=>W ζ m' σ'
|yah=>VC Vt
|yhL ζ=>getItem ζ x3X
|ymO=>xWm hw.facts
|ymP=>rest.take s
|xR4=>HZ u
|xFy ζ η=>Ο ζ s' η
|xR5 ζ η=>xCL ζ[TD η]
|x1W=>ycz co2 wt1
|xAu ζ η θ ι=>(Į,?_)
|xAv ζ=>t ζ σ
|mq ζ η θ=>(∀ζ∈η,θ)
|x1X ζ=>ybi[λ p=>vN ζ]
|x1Y=>x1X[Fj []]
|ymQ=>ycY sysModules
|xAw ζ=>(Eg B ζ)
|xR6 ζ η=>xv7[KQ (ζ,.inr η)]
|ymR=>s2.trans xXq
|yai ζ η=>show qV ζ from η
|xR7 ζ η=>by rw [z,ζ] at η
|xAx ζ=>xy7 ζ Q s
|xAy ζ=>ydz x ζ
|xR8 ζ η=>xHq[Bv dX À]
|Fz ζ=>Int->ζ
|yaj=>x50 hq
|xLA ζ η θ=>EB ζ[te σ3 H5 η] θ
|x1Z ζ=>(Oa ζ).mp rfl
|xAz ζ=>zC ζ 2
|yak=>xm this
|xR9=>Z2 i
|x10=>app B x
|x11 ζ=>xfC (K:=ζ) rfl
|ymS ζ=>xEs "Head.__init__" ζ
|xFz ζ=>xzO ζ O.cl Fe.m GF WT Fe.b .nil xl1
|xFA ζ η=>T9 K À st dV
|xSa=>x7n h1
|xSb ζ η=>xHG GU Tu[IB À]
|xSc=>xRp hR
|x12=>253+z
|x13 ζ=>ykZ ζ osl
|xSd=>Hs e
|yal=>NP[NB hj]
|ymT ζ=>(h.trans ζ).cons_inv
|x14=>[1,65536,256,16777216]
|x15 ζ=>xf9 lk VA ζ len
|xSe=>h h'
|xAA ζ=>∀h',ζ
|ymU=>Value.bool b
|ymV=>Value.type n
|ymW ζ=>by obtain⟨_,_,_,_,e⟩:=ζ
|yhM=>List β
|ymX=>z.sameBut hs
|yhN=>s'.os=s₁.os
|yam ζ=>I.kIn ζ o
|xSf=>PG X
|yan=>f2 Ì
|yhO=>binT ha
|yao ζ η θ ι μ=>by obtain⟨o,ζ,η,θ,ι,_⟩:=μ
|xSg=>Oq _ _
|yap=>L9 ?_
|ymY ζ η=>N8 À entry_tuple_getitem
|x16 ζ=>JV (m:=ζ)
|ymZ=>typeIs_int s
|xSh ζ=>xq7 ζ wi
|ym0=>hsb.extBut b
|ym1=>intKind_is P
|x17=>fr Ì
|yhP=>clsIn K
|yaq ζ η θ ι=>by obtain⟨ζ,η,θ,ι⟩:=xpq h
|yhQ=>tAt σ0
|ym2=>I1.landed fr
|yhR=>Ql c.hd
|xSi ζ η=>V.int ζ[(η)]
|xSj ζ η θ ι=>(ζ).foldl[λ η θ=>ι]
|x18 ζ=>256^(ζ).length
|ym3=>rlF L.length
|xSk=>xu0 N
|xSl=>xqn O x
|yar=>jp ()
|yhS=>Kk this
|xSm=>wt p
|x19 ζ η=>xfN ζ (B:=η)
|xSn ζ=>occ ζ q
|ym4 ζ=>s1.heap.objs.size+ζ
|ym5=>sm.trans s5
|yhT ζ=>Wk.length≤ζ
|yhU=>LCaps X
|xSo=>kf j
|ym6=>Data.dict es
|yhV=>xz1 true
|yhW ζ=>(("before",ζ))
|ym7=>s.testBit w'
|ym8 ζ η=>by rw [ζ,η,Nat.testBit_mul_two_pow]
|ym9=>mg "BadMark"
|yna=>mg "BadHead"
|ynb=>mg "BadTail"
|yhX=>spRdG C
|yhY ζ η=>((ζ).mono η).imp
|yhZ=>V.bl bg
|xSp=>vN 1
|ync=>dG "waiting"
|yh0=>xgf Wi.F
|x2a=>wn F i
|ynd ζ=>Rs.flatten.length≤ζ
|yne=>pb.facts tw
|yh1=>xgk Ta.F
|yh2 ζ η θ ι=>by obtain⟨ζ,η,θ,ι,_⟩:=hR.ne
|yh3=>CK.xyf n
|yh4=>X.set k
|ynf=>I2'.hand nE'
|yas ζ=>xuP zeO
|yh5 ζ=>(Ku ζ).symm
|xSq ζ=>xpS ζ hb
|x2b=>k H1 EK
|yat ζ=>xfG (P:=ζ)
|yau=>xl3 hj
|yav=>λ _ h0=>?_
|yh6=>hblk h0
|yaw ζ=>xl4 (P:=ζ)
|yax ζ=>xgd (P:=ζ)
|yng=>s1.trans s3
|ynh=>xrS ps.length
|yni=>K26.Ck.Txt K
|ynj=>K26.Ck.Chk K
|ynk=>K26.Ck.Bks K
|ynl=>K26.Ck.Prz K
|ynm=>K26.Ck.Erx K
|ynn=>K26.Ck.Prt K
|yno=>K26.Ck.Rdr K
|ynp=>K26.Ck.Rds K
|ynq=>K26.Ck.Tbs K
|ynr=>K26.Ck.Tbk K
|yns=>K26.Ck.CRe K
|ynt=>K26.Ck.Rdg K
|ynu=>K26.Ck.COp K
|ynv=>K26.Ck.Bdy K
|ynw=>K26.Ck.Ops K
|ynx=>Ψ ns.length
|yh7=>model P
|xSr=>vN y
|xSs=>Ν s
|yny=>sS ns.length
|xSt=>[Hm]
|xSu=>xLI n
|xSv=>Bf a
|xSw ζ=>rR ζ AB
|xSx=>xLK 5
|yh8 ζ η=>by obtain⟨dx,ζ⟩:=η
|xSy ζ=>Xm ζ ae
|xSz=>BY 5
|xSA=>a.2
|ze ζ η θ ι=>xUs ĉ h
|VZ ζ η θ ι μ ν ξ=>Hu Ê Tm zeg
|xc ζ η=>A3 e À
|xSB=>EM 1
|ynz=>Þ "state"
|yay ζ=>D3 ζ .non
|yh9=>by unfold Ē
|xSC=>[Dh]
|xSD=>[DZ]
|xSE=>JB 2
|yaz=>rB h1
|xLB ζ η θ=>zH À[jt θ]
|ynA=>Hc fs.length
|xAB ζ η=>xAL ζ rx η
|qi ζ η θ ι=>upd À[.ins θ Vk ι]
|x2c ζ η=>û zjG none
|yaA ζ η=>tTup[Bk À]
|yaB=>qq H3
|yaC=>qq H4
|xSF ζ=>DY ζ Up
|xSG ζ=>nO H3 ζ
|ynB=>FL "runs_of"
|ynC=>FL "bits_at"
|xSH=>BE 2
|yaD=>vA χ aj
|xFB=>zL r
|xSI=>Yd x2K co
|yia=>(Ay).app
|xSJ=>nL 2
|ynD ζ η=>Cb ζ "Reading.read_tail" η
|xSK=>ybj i
|qg ζ η=>Eh 2 À
|xSL=>(Dg)
|ynE=>GX xs.length
|xSM ζ=>jN ζ nt
|yaE ζ=>d9 ζ tail
|xSN=>cX yjC us
|xSO=>xUM p
|ynF=>xs.extract i
|xSP=>qU y x
|yaF ζ=>.int ζ t2
|xSQ=>bz i
|xSR ζ=>aB ζ hr
|xSS=>yiC o
|xST=>H1 b
|xSU=>xMq x
|xSV=>xUR n
|xSW=>yba 0
|ynG=>.Subscript o
|ynH=>xMv kitx_list
|ynI=>xMv kitx_dict
|xSX=>Ax o
|ynJ=>fs.length<1000
|xFC=>xBt 0
|xSY=>gv i
|x2d=>BP.val[C.take i]
|yib=>pure xME
|xSZ=>[xGy]
|xS0=>xMH j
|xS1=>xxH p
|yaG=>LS ybu
|xS2=>R ybv s'
|ynK=>PassesOwn xGF
|yic=>Vals ys
|E4 ζ=>vc P w K[xe3 P w] ζ Ò
|x2e=>E4 31
|xS3 ζ=>.a ζ Η
|yid=>.str Yo
|ynL=>gM "waiting"
|yie=>RelV Bm
|xS4=>x29 x
|xS5=>E3 B
|yaH=>o6 ?_
|yaI=>xGp xxO
|yif ζ η θ=>List.foldl À[List.replicate θ its.toArray]
|x2f=>oG SK hi
|xS6 ζ=>xVt ζ H'
|xS7 ζ η=>(h1,Č)
|xS8=>kO "things" d []
|xS9=>xx6 C
|xTa ζ=>xFH gg ζ
|xLC ζ η=>by rw [JO,ζ,η]
|xTb=>σ.length=n
|xTc=>xVN s
|xTd=>Meth K C
|xTe ζ=>xHm ζ pX
|xTf=>ybT u
|xAC ζ=>∃xs,ζ
|yig=>.int ui
|xTg=>∃sl,Xn b {o with slots:=sl}
|xTh ζ=>xWe ζ H'
|xLD ζ η θ ι=>.st[iQ ĉ true]
|yaJ=>xWo xFO
|yaK=>ycb wJ
|zb0=>_ [_,_] Tm
|mn ζ η=>xxJ zb0 À
|xLE ζ=>mn SZ ζ
|yaL=>LM 1 _
|yaM=>by unfold noteFrame;simp only [hf]
|VY ζ η θ ι=>xW _ ĉ
|xLF ζ η=>by rw [JP,ζ,η]
|xTi=>xNU f
|yaN ζ η=>bj ζ[λ _=>η]
|yaO=>hasDictIn K C
|xTj ζ=>xyE ζ tA
|ynM=>tail_any hm.typeIs slot_dict_getitem.lookup
|ynN=>yi7 X.length
|xFD ζ η θ ι μ=>by show Ty ĉ;refine μ
|xTk=>T.obj _ _
|xTl=>I_ _ _
|xTm=>Ē SA q
|xTn=>kk a b
|xTo=>.int 1 v
|xTp ζ=>Vb xBq ζ
|xTq ζ=>(JS ζ xAS)
|xTr=>lp s L
|xTs ζ=>(ζ).go i H'
|xTt ζ=>aN ζ WU
|yih=>xCZ Unit
|yaP=>xxg kf k
|xFE=>by show kY r;rfl
|xTu=>CB[xGD L]
|x2g=>xW5 st' L Rs
|xTv ζ=>dS LE ζ
|xTw=>b∈X.ex
|yaQ=>λ _ _ _ e=>e
|xTx=>xDN t
|yaR=>Fj xPl
|yaS=>x5O xOj
|ynO ζ=>x53 "CopyWay.read" ζ
|xTy=>RU k A
|xTz ζ=>zR ζ jy
|yii ζ=>(σ',ζ,I.unlift,q)
|yij ζ=>(σ',ζ,I.unwish,q)
|xTA=>xzi ta Ä
|xTB=>EN H1 b VW
|xa ζ η θ ι μ=>by show((ζ:η)=θ,Υ zcd)
|ynP=>A'++M.reverse
|xTC=>ii I hg hm
|ynQ=>HE xs.length
|yik ζ=>ζ=items.size
|yaT ζ=>kla_obj "<lambda>" ζ zcp
|yaU=>.m 3 Η
|x2h=>xy3 n s
|xTD=>XZ H ts ps
|xTE ζ=>x6O ζ AE
|xTF ζ=>wo ζ xP6
|xTG=>wi Ä
|xTH=>A v H'
|xTI=>B v H'
|yaV=>hint+of
|xTJ=>s34 _ _
|xTK=>kp7 _ _
|yil=>xzT P pos
|yaW=>yil qual
|xTL=>crc w p
|xTM=>kp6 _ _
|xTN ζ=>xUK ζ Pp[CZ W T]
|xTO=>vf[xvK st] t
|xTP=>notedBy sN A env
|xTQ=>yx t A
|xTR=>cI[Gs[OT z] z] z
|xTS=>PG cR RS g
|xTT ζ=>Hds Â ζ Sk
|xTU=>f4 b o
|x2i ζ η=>Ý ζ[λ _ η z9=>?_]
|yim=>xyh ŷ
|xTV ζ=>x7D cd ζ
|ynR=>A.deeper xRw
|xTW=>yf2 e
|x2j=>xwY[253+z]
|yin=>CXD D ŷ
|ynS=>.compLoop xKf
|yio=>Bs.flatten++tail
|xTX ζ=>Tw ζ ps xs
|xLG ζ η θ=>Xg À[ybk θ xBj]
|xTY ζ=>bj[Bp Jq ζ] pz
|yaX=>ZW H[xMu true]
|xTZ=>.m 2
|xT0 ζ=>zQ ζ xZV
|xT1=>(σ[j]?).getD none
|yaY=>hidT h H
|yaZ=>xwC te[xu2 i]
|ynT ζ η=>λ us ζ⟨xs,H1,I1,r,z,q⟩=>η
|xT2=>xr0 C m sp
|xFF=>by intro x hx
|ya0 ζ η=>(xq4 À).symm
|ya1=>.cp bk z
|ya2 ζ η=>if ζ then some η else none
|xT3 ζ=>UF[ylT x] ζ
|ya3=>xGs b e
|xT4=>CRd ê
|xT5=>XB H rs L
|ya4 ζ=>xAp zeO
|xT6=>xNR T k w d
|ynU=>["_law_word_here","_law_fits"]
|xFG ζ=>λ b=>ζ
|ya5=>xFG qI
|xT7=>kk _ _
|yip=>s'.os=s.os
|xT8=>PR l m
|xT9=>xuO ê
|xUa=>WP w p
|xUb=>s0 b o e
|xUc=>Uz _ _
|x2k=>kE c e
|ynV ζ=>Ι "need_lengths" ζ Jaf
|xUd=>MA κ a b
|xUe=>Sy H A
|x2l=>ml GI YV O.m
|xUf=>xUJ o e n hx
|xUg=>xQH H t
|xUh=>xRb C T
|xUi=>Shw zc4
|zcv=>_ RN s1 ı
|zbO=>_ I1 q1
|xUj ζ=>hb zcv ζ zbO
|xUk=>h þ
|xUl=>CmpD K H p q
|xUm=>xfb I1 ea c hm l ?_
|xUn=>(let N:=_;Dt N xCb)
|x2m ζ η=>xgw (P:=ζ) (w:=η) (base:=base) Pu.F
|zks=>_ (w:=w) (base:=base)
|Ĉ=>_[λ RO A outer st H vs Q E hr h=>?_] _
|Æ=>_ (P:=P) zks
|zc9=>_ [e0,e1,e2,e3,e4,e5,e6,e7,e8,e9,VS,VR,VQ,XA,Xz,e15,e16,e17] c
|zcm=>_ hO hk
|zfk=>_ Ss[λ p q hpq hq hb=>?_]
|zbc=>_ ÿ Xy
|zfF=>_ xD8[Ο zbc]
|zkt=>_ x6K[xr9 zcm hn hh Vm zfk λ k h1 h2 h3=>xg h1 zfF]
|zrp=>_[FQ VN][CC c o e Eo]
|Á=>_ _ rfl
|ß=>_ Á p
|Ö=>_ _ Á
|ę=>_ dx Ö
|vco=>_ O.cl O.nR
|vbA=>_ co ck g
|va7=>_ vbA wt
|vbm=>_ _ _ Ö
|zku=>_ (ß,Cp,ę,sI,vco,xrj _,r0,dr,Á,FQ VN,tZ,r0,va7,_,_,vbm,Ud dr zrp xZs,λ q co2 ck2 g2 wt2 H2 nq no nk T3 s2=>?_) dq
|Ç=>_ h1 h2
|Ã=>_ zdH RW
|zfd=>_[y+1+1][λ out ia ib d=>∃g p q,d=((out,ia,ib,g,p,q))]
|zfe=>_[y+1+1][λ out ia ib d=>∃g p q,d=((ia,ib,out,g,p,q))]
|zgX=>_ [(some "key",.Lambda zcp lpos,kp)] X.env
|zgS=>_ pos[keywordEach zgX]
|zbf=>_ z1 z2
|zdC=>_[mX[i+1]] dg RQ
|zhc=>_ z9[JG zbf zdC z3 z4]
|zgT=>_ _[λ y H4 z9=>Dj zbf z3 z4 zhc]
|zdL=>_ [_,_,_] dQ
|zix=>_ zdL[ZA[x9n EA]]
|Å=>_ _ Á rfl
|vbd=>_ l Å
|vb5=>_ ?_ vbm
|vdc=>_ ?_[λ c o' e z=>?_]
|zkv=>_ x0U (vbd,h4l,cz[y8[HK zix Cg Sl hW hle2]],_,vb5,q4,rfl,Zn,vdc)
|ù=>_ [_,_] AO
|zb9=>_ P zks
|zgR=>_ zb9 Fe.F
|zgQ=>_ ă Y.iL
|zfn=>_ Y.Bd[xY0 zgQ]
|zkw=>_ GF[yaw zgR Y.Z O zfn xL]
|zgU=>_[λ i m ys σ H=>m=mX i/\me/\xTb/\Vc] (xs.length,Z6,Bz,K2,h0)
|zqV=>_ JO[nP[R.length+2]]
|zcZ=>_ Cg hl
|zkk=>_[iJ Uz] ydc[xYR ae J8]
|zkx=>_ (a,l1,Å,XT,VB,bQ[by show(E1 zqV,FX D5 Jr zcZ)],gQ)[YH zkk]
|zcY=>_ BV q2
|s_=>_ Á r
|vbX=>_ s_ US Á
|f_=>_ 8 rfl
|zky=>_[xy8 _[xDP F8 h]] (Á,xZN,vbX,Uj,Fc,r,d,R,_,f_,SN,Z9,Bg [_,_] xPQ BV af zcY,Ο H4 S8 UO)
|zgV=>_ cP [e0,e1,e2,e3,e4,e5,e6,e7,e8,e9,VS,VR,VQ,XA,Xz,e15,e16,e17]
|Ï=>_ Á Á
|ô=>_ Ï Á
|zkz=>_[by rw [dW,<-ME]] (ô,l,Á,yhb,UV l9 n9)
|va9=>_ Á l
|vbl=>_ va9 Á
|Ø=>_ Á Å
|_V=>_ Ø Á
|zgW=>_ hk.le (vbl,xQp,_V,ux h h)
|zcn=>_ b[Gk=LT->X'->Xp=LT]
|Ŷ=>_ Ï p
|va4=>_ hp T.cl
|q_=>_ b rfl
|vbt=>_ S G q_
|zkA=>_ hC.ob (Ŷ,Ce,ę,va4,T.nC,wj,co,Y3,Á,U7,il,vbA,vbt,hC,λ l H1 nl s1 hl=>?_)
|zp0=>_ [_,_,_,_][AV[G8 m6]]
|r_=>_ Á ?_
|zkB=>_ e2 (vbd,gW Su,cz[y8[HK zp0[ZA xCx] Cg Sl hi[JN hri xOx]]],r_)
|zle=>_[show t+1+8=t+9 by show pI af xPQ xPQ af][Uw[Hj IU IU] IU IU]
|zkC=>_[Tl[HX[t+1+8]]+3=Tl[HX[t+9]+3]][Bx zle]
|zgf=>_ [_,_] xCw
|zkD=>_ (vbX,Uj,Fc,r,d,R,_,f_,SN,Z9,Bg zgf BV af zcY,λ H4 S8 UO=>q2' İ) q2'
|zff=>_ GS[yat zb9 Se Ch X]
|_W=>_ A outer
|zkE=>_ (s_,dx4,Á,WO,Fc,r,d,R,_,4,rfl,S8,Z9,Bg zgf BV xEc zcY,Ο H5 hR5 Wu) ez
|zdI=>_ [_,_] SZ
|zji=>_ (h:=s.heap) it
|zbK=>_ ho hd
|zeh=>_ zbK Z6
|zhx=>_ o'[xsa zeh e d' z']
|zk0=>_[λ a o' us e d' z'=>ydg zhx e][λ h' e k z9=>?_]
|zkF=>_[ybl zji][yfb zk0]
|zfh=>_ (h₀:=X.base) I.ok.mod.kin
|ze9=>_ s1 H1 _
|zhm=>_[x3N ze9 I1 q][yci s2 yfR]
|zg2=>_ hm.kp[Ý zhm]
|zkG=>_ xUm[Oi (first:=Dl) zfh zg2 Uh T6]
|zov=>_ st[xy5[HE n] hg]
|zkH=>_[hf it Z6][QQ.xkf I.hq zov λ h' eb=>Fw[xKJ[λ b o hb e=>eb b o hb e]]]
|zhA=>_[((k,v))::r][((k,x))::xDy r]
|zgY=>_[xDy[((k,x))::r]][DM k f zhA]
|zs1=>_ ea[upd G ea xOQ]
|zbL=>_ σ6 H6
|zos=>_[xGo zs1] zbL
|zkI=>_[∀σ6 H6 s6,xAF zos s6->wC zbL s6][x6m[unk _ _ _[ylK nE' z]]]
|zdJ=>_[by decide][by decide]
|zdW=>_ Tm Φ Tm Φ
|zfg=>_[wD[HJ zdW q1]] h
|zhl=>_ [(some "key",fe,kp)] X.env
|zgZ=>_ pos[keywordEach zhl]
|zkJ=>_ z[mt _ _ _ zgT z]
|zht=>_ ycW[NJ[(ycx) this.symm]]
|zg0=>_[Jx zht][Kq UR]
|zoR=>_ I.env0[hb s us I.kIn hl]
|zkK=>_[x4c X.A s H[BC us][us++ds][vs++Uu] Q E hr zoR r2 h][xFy r hq]
|zp2=>_[yma VA][xJb _ İ]
|zkL=>_[yiY[KX _ _ lk] rfl S.co S.gen rfl zp2][yiT UG λ env he s1 x=>?_]
|zhV=>_ hB1[λ c o e _ _=>e]
|zpR=>_ z9[RV.of[xSF hl VE]]
|zkM=>_[Kd none zhV][λ i σ H2 _ z9=>xF0 kp zpR]
|Û=>_ _ Å
|ė=>_ Á t Û
|Ŵ=>_ rfl Á
|vbT=>_ zq Ŵ
|zkN=>_ (ė,xNx,zp,?_) (ė,xNx,vbT,VU)
|zkO=>_[TD[xWm[zk Bt] ĳ rfl]] (keep Bt Bm ne nf nch e n,free Bt Bm nch e n,ne,nf,d)
|zem=>_ "take" "BitReader.take"
|zkP=>_[A2[x3p .class||(x3p .module&&X.env.locals !=X.env.globals)]][CM I.ok.kind]
|vct=>_ Ï Ø
|e_=>_ Ø ?_
|zkQ=>_[zl a _ _ _ x5u[uU l1] ?_] (vct,e_)
|zg1=>_ ch[(xTw\/xAM b)/\Fb/\(∀x c,WE->pD)/\xE6]
|zep=>_ H1 I1 r1 q1
|zd3=>_ vs zep
|zm6=>_ z9[xP8 s1 ı vs us Q I1 r1 q1]
|zkR=>_[xY7 λ us s1 z9=>F7 zd3 zm6] he
|zkS=>_[Np xYT λ r st' q=>by cases r<;>exact q][Np xYT λ r st' q=>by cases r<;>exact q]
|zg3=>_[σ=[u0]][match σ,hσ with| [u0],_=>dJ u0]
|zg4=>_ GH[xtw Æ He Ch X]
|zg5=>_[W13.Ë[x::It]=x.Ë++jv] ydp
|zhD=>_ t [vN S[(b)],vN[i+1-b]]
|zg6=>_[p7 zhD][xBD[ts++[t]]]
|zeX=>_ x0R xS8
|zes=>_[ZW zeX] iF
|zen=>_[WY zes] xF
|ziR=>_ o yfH
|zg7=>_[λ b o n e=>YQ b ziR e] fI.1
|zkT=>_ (vbl,BZ XH,Ŵ,Br) (va9,Û,x51,zq,?_)
|zg8=>_[λ r s'=>r=.ok ygy/\ye7/\yhN/\xMp] s₁
|zrI=>_[Uh▸I1.stack] hfr
|zkU=>_[Uh▸I1.ok.frames][xqz hf zrI F λ h' T F' hT f3 f4 f5=>?_]
|zg9=>_ GA[xpo Æ Ao X]
|zha=>_ (CO:=CO) (CK:=CK)
|zkV=>_[λ h' c' kp e=>fin its r' hz h' c' kp e][by simp only [Ko]<;>exact ydl hz]
|va2=>_ ß Ce
|Ė=>_ va2 ę
|vbO=>_ T0.cl T0.nF rz
|_T=>_ false rfl
|zkW=>_ (Ė,hp,vbO,_T,VU)[xjP[UV I' gi]]
|zeo=>_ [_,_] ST
|vc7=>_ n.loc n.cel
|vdv=>_ vc7[xRr xMV]
|zkX=>_[x6[xDv b]][CG[let n:=x17;(n.s0,n.h,vdv)]]
|zkY=>_ D[yk9 q' D N' bs' bm' hdct' sn' sub' ab' col' dd' j0 j1 j2 j3 j5 newId']
|zs7=>_ [_,_,_,_][Bu Tm]
|zeI=>_ [_,_] AZ ST AZ
|zoc=>_ τ[DF zeI Δ g1]
|zkZ=>_[ET zs7[G8 mJ] Φ zoc] [_,_,_,_]
|Ÿ=>_ Ð rfl
|zbU=>_ AZ SZ
|zmZ=>_[Z1 AZ AZ[JQ e]][Wg zbU zbU dC]
|zk1=>_[y9[h1[JY[xMy[xFP zmZ]]]]][Kh UR]
|zeD=>_ [_,_] xOO
|zl4=>_ h4[by show ybo 1<_;show yj zeD Iu hu]
|zk2=>_[xVd j1][xmj I h3 zl4]
|zfi=>_ 1[Value.ref g1.objs.size]
|zfP=>_[a/64][a%64+1]
|zfj=>_ Sk[xtW zfP b]
|zkh=>_ xC2[rB ht]
|zhb=>_[i<P'.length][C8 zkh]
|ztF=>_[Bv gq AS dj][Ft 11 VB t11][wZ[xp0 Bs Z.H] Bs 4]
|zk3=>_ xyp.nd[xNW[xzB ztF]]
|zco=>_ [_,_] Η
|zbY=>_ 8 [_,_,_,_]
|zeu=>_[x0W][by simp]
|zcQ=>_ gT dT
|zhd=>_[oF zeu][LP zcQ zT ?_]
|zgF=>_[i+1] xCm
|zdE=>_[i+1] ys H5
|zk4=>_[λ y H4=>X7=oZ/\pW/\xWJ n/\Pv zgF xWb][xWJ n/\Pv zdE]
|ze0=>_ Æ zha
|zk5=>_ GV[xwy ze0 Ov.F Y.Z.tt O]
|vbK=>_ YU Á
|vb1=>_ rfl T3
|zk6=>_ (s_,vbK,U3,Fc,r,d,R,t,1,vb1,Z9,t1,Ο H3 SN Sv) US
|zgP=>_ xCG Y.iL
|zfl=>_ xL (xYZ _ _ zgP).1.x
|zk7=>_[.inr (RQ,Pv[i+1],λ σ' H' p'=>zd[n-(i+1)] dg RQ p',xZV)] e
|zdz=>_ zco ST
|zfo=>_[iO zdz hq] ST
|zhf=>_ n[qQ zfo ST z]
|zhg=>_[bF FN][bF FN]
|zhy=>_ (xs,q,ρ)[hd ys H p]
|zhh=>_ xCK[jk zhy]
|zs9=>_ Ko r.length.symm
|zq5=>_ Mf.lookup ht.typeIs
|zk8=>_[Sc zs9][xAu "tuple" _ zq5]
|zk9=>_[WF[xMW D bm' xLU]][by rw [List.contains_cons,Zm,Bool.or_true]]
|ą=>_ dx Á
|vbW=>_ ß CO ą
|zla=>_[Xm[ai SW nl] SW] (vbW,T6,Z.cl,Z.nG,xFg,?_)
|zez=>_ [_,_,_] xH4
|zlb=>_[yhB xP5][by have:=xvB Sa k v;show Ej zez V2 ST l this]
|zlc=>_[∀c o,qO=LT->A9->(kS H3 p Cp[fQ q]) c=LT][λ c o e n=>xID e]
|zld=>_ C[ycG q C N bs bm hdct sn sub ab col dd k0 k1 k2 k3 k5 newId]
|zcH=>_ ST ST
|Ę=>_ ST SZ
|zmr=>_[px [_,_] DN zcH wc][El ST DN Ę xGI]
|zlf=>_[j=Β][Cn zmr]
|zf1=>_[tH[i+j]] 2
|zoX=>_[i-j][xIn zf1 5]
|zlg=>_[Ă[UJ zoX vZ]][xIn zf1 5]
|zhE=>_ .nil[xyD Ed]
|zhR=>_ JC[xyD Ed]
|zlh=>_ this[rE i_ zhE zhR]
|znu=>_ s1[yb[C8 r.length z]]
|zli=>_[h pos þ _ I hq][ynT znu]
|zsA=>_ Up.symm nldp.symm
|zlj=>_[by show(iW hc,xA1 zsA,nlep.symm)] e'
|zfm=>_[yL H xDf][x3a xxa xDf]
|zlk=>_[AN hx][λ H3 s3 Q k=>(Tv.of[.lt (n:=64) zch]) H3 EK j_]
|h_=>_ Ç h3
|zhi=>_ [_,_,_] JA
|zo5=>_[.m 128 xyI][Ar[wQ 128]]
|zll=>_ hy[Wg[xKt 128] zo5 HW[JU 128 xOI]]
|znh=>_ g4[λ _ z5 g5=>Kn[Kn[Fw g5]]]
|zlm=>_[λ x z4 g4=>JV[cb znh q q]] q
|zfI=>_ rfl[λ c h=>h]
|zhj=>_[xsf Ç][xy8 zfI]
|zbh=>_ [_,_] Δ
|znJ=>_[by rw [hs,Vj]][CM Vj]
|zmm=>_ I[Nd xSN znJ]
|zln=>_[Call_[yey zmm]] vs
|zlo=>_ s.heap.NoLimit[e0.mod.nolimit.keeps λ b o e=>(x6W o e).1]
|zlG=>_ xME[x3e Zu\/(x73 Zu/\nU[(ybW Iy []).lookup Zu])]
|zlp=>_ UG[tQ zlG]
|zhk=>_ "move_byte" "BitRow.move_byte"
|zfp=>_[wY[t+1]][HX[t+9]+3]
|zpr=>_ o[xDe b[nT b o q nf]]
|zlq=>_ hfr[hl.of_keeps λ b o q nf=>ZK zpr]
|ä=>_ C Ã
|_H=>_ Si Gu
|zdi=>_ P w Â N
|zdj=>_ RO _W s H
|zdX=>_ CX zdi f zdj
|zmt=>_[cf zdX E] xNl
|zm7=>_[ht [] s1 xNl H _ I hq][xFy fl hs]
|zlr=>_[xCW zmt H s1][xnd S e0 hl r x][LZ zm7 λ e s' hs=>hs]
|zhz=>_ ej[px zbh Ye bX ll]
|zls=>_[.upto yll zdr][Bx zhz]
|ĝ=>_ È _
|zfq=>_[u=X[(n)]] xMU
|zdK=>_ _ tT
|zlt=>_ e2 (a,Û,x5u,uU l2,Ŵ,ux h3 h3)
|zhn=>_ hx[Ot[JV[Ny zeh ?_]]]
|zlu=>_[λ i m σ H=>m=mX i/\me/\lV] (xs.length,Z6,Bz,h0)
|zjm=>_[ht _ _ _] xCb
|zho=>_[xzp yhF][ygR zjm]
|zf6=>_ Jal _i
|zhp=>_[kI fO fdO zf6][xtp O]
|zfw=>_ (w:=X.w) (A:=X.A.in1)
|ziH=>_ hlI its.toArray
|zlv=>_[yf3 zfw hh I l ziH] hsz
|zhq=>_ [_,_,_] Ey
|zlw=>_ len[λ A outer s H args us vs Q E hr e0 hb r Wz=>?_]
|zlx=>_ GW[xtM Æ Wo Y.Z.pr.H.N.X R]
|ztI=>_ hp3' B0
|zly=>_[∀{xs:SC} {c},qO=Gq->A9][y9[dz ztI]]
|zc1=>_ bX fl
|zlz=>_[DB[fb x V1]][Ji[ET ù ygt zc1 HN]]
|ë=>_ σ H2
|ì=>_ D Ä
|zbQ=>_ e n hb hx
|zfr=>_ e1[xGk b zbQ]
|zlA=>_ Hp[xEY->wW[iZ j->eK≤xSo/\(j<i->eK<xSo)]->AA->dO]
|zfs=>_[bF FN] b2
|zft=>_ PO[bF FN]
|zbZ=>_[i+1][j+1]
|zfu=>_[Pv[i+1]][Pv[i+1]]
|zgk=>_ ([]:Χ) hp
|zfv=>_[kZ p zgk] Z6
|zeq=>_ hpp B0
|zhr=>_ hB1[hB.keep λ c o e _=>Eo]
|_X=>_ _H BM
|zlB=>_[by show(xHs,yj zb0 SZ hB)][CG[uA b xYp]]
|zlC=>_[QR[λ _ _ z=>Int.ofNat_inj.1 z]|>.1 z][by rw [z]]
|zlD=>_[∀c o,Μ=LT->A9->(xKr ygB) c=LT][λ c o e n=>x1e]
|zlE=>_ TM[FD _[ia+1] ib[xDS _ _] hM6[xD4 hia] hib hw]
|zgj=>_ (zk c).2 x
|znv=>_[TD[Az zgj c e rfl]] ho
|zlF=>_ xRB[free c o znv xP4]
|zcM=>_ hi hg
|zlH=>_ Cp.names[xk5 hc Cp zcM LR ht he I h ?_[ykW z]]
|zcB=>_ zdI SZ
|zhs=>_[iS h][xxJ zcB hpB]
|zcc=>_ g wt S b G
|zlI=>_[AR č zcc W true][o8[Μ=LT->A9->Bo=LT]]
|zfx=>_ q[bF FN]
|zfy=>_ g[bF FN]
|zdM=>_[bG I h u] ht
|zee=>_ [_,_,_] vS Φ
|zlJ=>_[xNN j][by show(x7F,Vx zee ydI h1)]
|zlK=>_[∀M:LE,se[a::M]=se t8+se M][λ M=>xos 12 t8 M]
|ğ=>_ e1 e2
|ú=>_ lo hi
|zlL=>_ TM (_,i5,j,rfl,xDS _ _,hM6,LI hi,hj,hj0,hw)
|zra=>_[J6[mid RQ] hhn] ?_
|zlM=>_[Kh[by exact Q7 RQ]][hB _ zra]
|zer=>_ hP B0
|zhu=>_ "place" "BitReader.place"
|zlN=>_[by intro _ _ _ z;show Iq][by intro _ z;cases z]
|zsZ=>_ χ[Ft 64 Sl t64]
|zoD=>_ kD[xDa zsZ]
|zlO=>_[Bv xo8 Ε dj][Bv zoD aj]
|zlP=>_[rN[Vu h' xN3]][xKJ[λ b o hb e=>ydS o hb e]]
|zlQ=>_[Yn≤255/\Yn≤p][by unfold _O;show AX DU HN]
|zlR=>_ "keep_beginnings" "CodeReader.keep_beginnings"
|zda=>_ b[a*256+b]
|zdb=>_ x qual
|zdc=>_ [_,_,_] sH
|zhv=>_ hl[λ s' I8=>Vr _ I8 q7]
|zhw=>_ GP[x2m P w S W O M TB X]
|zlS=>_[λ b o q hb=>?_][yh b o]
|zfz=>_[b=it] iU
|zlT=>_[λ i m σ H=>m=n-i/\xK8/\lV] (n,Z6,Bz,h0)
|ztf=>_[i+q][M5.mpr hpq]
|zlU=>_[VF[i+p] ztf][J6[Nq hq _] hn]
|zpj=>_ hBl[Ge T6[Ge hpsl ER]]
|znj=>_ Ww[JN zpj]
|zlV=>_[JU 3 n2][Ge znj]
|zlW=>_ xZn[xs9 X Td σ λ r H''=>r=xL6 i/\C' H' H'']
|zlX=>_[λ xs H Q=>∃p ys,xs=Cw/\(xJF\/xJD)/\xJB] Cz
|zlY=>_[xRS 14[AV[ZP 14]]][Yb[xQ0[xQy[CA 14]]]]
|zlZ=>_[xr5 Æ FI Y.Z O] zkw
|zet=>_ l its.toArray
|zb1=>_ [_,_] vO
|vft=>_[iW hz][xA1 npc npk]
|zl0=>_ z[by show(vft,ngp)]
|zdN=>_ v[xTH->xTI]
|zfA=>_ [_,_,_] xH1
|zdO=>_ GT[xO0 P w]
|Ā=>_ ha hb
|zr1=>_ us[o.data≠ xV7]
|zl1=>_ nT[∀b o,CR=LT->EG zr1->PO]
|zl2=>_ cellK[∀x c,WE->∀v,ycs v->h'.IsCell c v]
|zl3=>_ I.loc (m,ns m hn,λ i x v e1 e2 e3=>?_)
|zl5=>_[e0.mod.kin.keeps λ b o e=>(x6W o e).1] lim
|zni=>_ br.low[(xr[LQ hk8]:2^k≤2^7)]
|zl6=>_[r<128][J6 zni]
|zl7=>_[λ out ia ib d=>∃p q,d=((out,ia,ib,p,q))] c
|zl8=>_[λ out ia ib d=>∃p q,d=((ia,ib,out,p,q))] c
|zqB=>_ [_,_,_,_][.a JA xyL]
|zl9=>_ hrl[zg zqB[Hi Φ] hs τ]
|zhB=>_[JU 9 hq][xJR 9 hwl hcl]
|zma=>_ î[λ RO A outer st H vs Q E hr h=>?_]
|zew=>_ "head_of" xt2
|zmb=>_[x2W BJ][Bg [_,_,_] zdW x9o]
|zmc=>_ "need_unfinished" "Presser.need_unfinished"
|zhC=>_[CC c o e[ij e]][ij hw]
|zmd=>_[∀{c},CU c->A9][λ n z=>Ek sI n n]
|zme=>_ e1.s[λ e vx he=>AK[kz.of s1 he[xIu h2]]]
|zmf=>_ Sl[show j<Β by show yj zez Tm wc]
|zf0=>_[x6Q c e] hc
|zmg=>_[slot c o zf0 nch ho xP4][De q hd]
|zfB=>_ "need_ahead" xv6
|zfC=>_ "with_check" xv2
|zmh=>_[Ψ 64*Tl a+qI-1=Tl[64*a+b-1]][mE[OL SH]]
|zmi=>_[Xe[Bu[EZ BV]]][wy[EZ[xOb 8[vd 3 7]]]]
|zfD=>_ "block_size" xv3
|zno=>_ dk[λ ck g H1 nck ng hC TH=>Xq]
|zmj=>_ x9O[g9 x zno]
|zmk=>_[∀b o,Gk=LT->xST=LT][λ b o e=>jY vm xCD]
|zml=>_ _[λ σ3 H3 z=>mtt _ _ _ _[Ο c H5 z] z]
|zhF=>_ s3[yhG #[vl,vu,.none]]
|zmn=>_[xVv CI][λ r VD=>EO t[r=Sf k]/\xLh H VD]
|zhG=>_ "lightest_bundles" xwP
|zmo=>_ GA[xk0 Æ Ac Z.X]
|zmp=>_[kE[iS Jq]][VT[k[x0w[h[JY[ku z]]]]]]
|zmq=>_[∀c o,Μ=LT->A9->xk->W2->Bo=LT][fi c H']
|zhH=>_[.of[x7X 0 zch]] yav
|zhI=>_[T0++[xFi,7]][150+c%80]
|zms=>_ (σ:=[Bh,yo,Ν aG,Z0,Jj,Ν g0,none]) (i:=4)
|zmu=>_[cf zdX E] â
|zek=>_ rfl la of h1 h3 h4
|zmv=>_ Uq[KQ[EV zek[.inl Uq]]]
|zdd=>_ none none
|zhJ=>_ Z9[λ vs H Q E h=>?_]
|Ô=>_ x hx
|zjH=>_ b[Xx b u q]
|zhK=>_ q[xNE zjH z]
|zex=>_ 64 [_,_,_,_]
|zmw=>_ GP[xmU Æ Pa Z]
|zdk=>_ 1[IP-2]
|zhL=>_ m[occ[xGN zdk]]
|zmx=>_[λ b ps e=>xOh[Dq e]][UV m hm]
|zhM=>_ [_,_,_,_][C7[A7 CE]]
|zfE=>_[(p+s+7)/8][p/8]
|zmy=>_ GO[xpu Æ Oe Y]
|zmz=>_[∀j,xu4 κ false key xs j= ! Ur j] zkt
|zmA=>_[∀j,xu4 κ true key xs j=iI j xHv] zkt
|zfG=>_ Mg x4X
|zmB=>_[0<Eb.length][Jx h.le[Qc this]]
|zhN=>_ kv[DM A5 k ((A5,y)) kv]
|zmC=>_ GB[xoy Æ Bl Z]
|zmD=>_ GL[xjn Æ La Y]
|zhO=>_[wD[UK q1]] h
|zey=>_ [xIY,xyK] []
|zhP=>_[bQ[Ex hl]] p
|zrV=>_[Qu x30][by rw [z]]
|zmE=>_[D3 m n][xL2[xJ6 zrV]]
|zfH=>_[uh _ _ _ I6] hi
|zou=>_ xXw[rT[xx7 K lg dZ xPE]]
|zmF=>_[xxE zou][Ü 3]
|zcq=>_ [_,_] Ec
|zfN=>_[neL b o e] hb
|zd8=>_ xET e1
|zmG=>_ e2[slot b _ zfN zd8 xUf]
|zdP=>_ [_,_,_] AO
|zmH=>_ GT[wS Æ Ta Z]
|zmI=>_ GU[pp Æ Tu X]
|zmJ=>_[i<σ.length][Sc I.len[rB hi]]
|zmK=>_[hN zds n3] (m',hm,σ3,H3,I3,w3)
|zcr=>_ ((b,o)) xEi
|zmL=>_[cf zdX E] t
|zi0=>_ Jal ó
|zmM=>_[Y7 2 fS fdS zi0][xk9 S W X]
|zmN=>_[xs[(fJ)]=xs.toList[fJ]'yeL] Z6
|zcs=>_ kv[A5=k]
|zil=>_[xAn i j[j<i]] 0
|zmO=>_ (tt:=xZg zil xQw) (te:=lg)
|zj5=>_ c[xKM u q]
|zhQ=>_ q[xNE zj5 z]
|l_=>_ H1 s1
|zhS=>_[xY7[ycp s1 yfS]] he
|zmP=>_[xpn (rs:=oJ) λ q hq=>(xsP hq).1] xwJ
|zmQ=>_ GM[xm5 Æ Mi]
|zhT=>_ yA[λ y hy x hx=>?_]
|zhU=>_[y=X[(n)]] xVM
|zhW=>_[pZ[ZI[64*i]-1]] Rb
|zhX=>_ "feed" "Opener.feed"
|zhY=>_ lH [128+p/2,p%2*128]
|w_=>_ rfl ha
|zfJ=>_ p[xY2[p∈S]]
|_E=>_ b[0<b]
|zfK=>_ k[xMM jn f RO]
|zmR=>_[keep c o zf0 nch ho xP4] hd
|zmS=>_[specialIn K xw2 "__get__"][some xUB]
|zin=>_[λ b u e=>yK] ρ
|zmT=>_[yel s1.toks zin ?_] hf
|zkg=>_ "dict" yfG
|zmU=>_[h.push[xAG zkg]] h.objs.size
|zmV=>_[t+13][æ S zfp]
|zfL=>_ ù[D8 bP 192]
|x_=>_ ă ?_
|zde=>_ H1 I1 q1
|zdf=>_ XL this
|zmW=>_ .c[Bg zeI Δ g1]
|zhZ=>_ [][λ f vs=>ydm vs]
|zeA=>_ W false
|zeB=>_ hu hr.units
|zh0=>_ hc[xsL UG Ux UH Vf]
|zh1=>_[xPt FN] e
|vcR=>_ xs[xs[(i)]]
|zmX=>_[xT0 (vcR,q,xXx)] e
|zh2=>_[u=X[(n)]] jL
|zti=>_[Z1 Hg Hg hB] xAS
|zmY=>_[B=[]][L8.mp[JS zti]]
|zh3=>_ "are_of_things" xzw
|zh4=>_ (mg:=mg) (base:=base)
|zm0=>_[by decide+kernel][by decide+kernel]
|zh5=>_[by omega][by omega]
|zh6=>_ "_law_reaching" xrC
|zb3=>_ Ĝ Ã
|zm1=>_ _[pY rfl zh5 ?_]
|zik=>_ 2[xND 0[xZk 1]]
|zm2=>_ (g:=xOV zik) (tt:=xi0)
|zm3=>_ xyo.nd[x3I B4 Tw[xnb Tw.F Z] hr8]
|zm4=>_[xVd h1][xmQ _ _ a t1 b t2]
|zm5=>_ GD[yax zb9 Fd Y]
|zh7=>_ _[xIy[yg2 H5 s5]]
|_Z=>_ Tm ST
|zdh=>_ L[b≤6]
|zfM=>_ H3[xAZ x xKx]
|Ġ=>_ D2 SZ
|zh8=>_ [_,_,_,_] x8V
|zh9=>_[xyB[.m 16 Η]] XL
|zfO=>_[((p,w))::xNG] m
|zgt=>_ b ([]:Ξ)
|zia=>_[kZ zgt z] Z6
|vda=>_ ?_[λ a ha b hb=>?_]
|zm8=>_ Kp (h1.1,vda)
|zib=>_ 9[Gi 9[qE Dk] ST]
|zic=>_[d4 ygx N0][T0+xJq]
|zm9=>_ "next_block" "Presser.next_block"
|zna=>_ "read_block" "Reading.read_block"
|zid=>_ "_law_cell_at" xwa
|znb=>_ ygo[yH[g H1 s _[xZm p h0 xRE]]]
|_I=>_ zeo ST
|_J=>_ hb hb hb
|zcV=>_ Ep SZ
|znc=>_ l5[El[yI xIW][rM 24] zcV τ]
|znd=>_[(U6 e[NB ne]).trans he][x3V h1]
|zne=>_[∀b o,i7=LT->Fb][λ b o e=>xZp]
|znf=>_[λ b o hb e=>zV sb' Ì e] fC.1
|zng=>_[hC0.keep λ c o e _=>vm][sQ hw0]
|zeC=>_ i[¬fU=fX]
|zie=>_ H[xFT[b+1] ck g]
|zct=>_ 8 [_,_]
|Ķ=>_ x zep
|zeN=>_[b+1] xGg
|zif=>_ H1[xIj zeN]
|zig=>_ [_,_,_,_][Ar xYn]
|zih=>_ "need_window" xt6
|zii=>_ "need_shares" xvx
|znk=>_ hl0[BF ([]:yn) 0]
|znl=>_[Y7 2 fB fdB Jam xrt][xmr B O X]
|znm=>_[kI fL fdL Jaa x5g][xte L.F T X]
|znn=>_[x2c[S'.map vN] xGu=AY x25] zkz
|znp=>_ "mark_once" "Presser.mark_once"
|znq=>_[yj zeD Tm hu] fin
|znr=>_ "read_mark" "Reading.read_mark"
|zns=>_ Ä[ie D zfu]
|znt=>_ t[AA->xXE t T k w xNL->xOT yd]
|zfR=>_[xDe b b2] b1
|zfS=>_ I.ok.kind hk
|znw=>_ [_,_,_,_][nL 16[xyB[ZP 16]]]
|zfT=>_ "is_row" xuc
|znx=>_[jT-qI=Tl[i+1-b]][mE[LU hbi]]
|zny=>_[Md (n:=n) (zF[0<2])][Ng this]
|znz=>_ l7[AY[pZ[ZI[64*i]-1]]++xNj]
|znA=>_[x54[.rep n::It]][xxf n++jI a]
|znB=>_[dG "begun" eI[x4C wt TP]] znk
|znC=>_[λ(x:Str×RA) b=>xRM C5 x55] l
|zij=>_ i[s^^^b*2^(n-8)]
|znD=>_ 3[A7[Bu[Il[AV[xTZ uZ]]]]]
|zbE=>_ gA Zs
|znE=>_ z[xAk zdC zbE]
|znF=>_ ae[T3.keep λ c o e _=>xE9 e]
|ź=>_ c st'
|znG=>_[Um[.m k x] r][Gi k[Ar y] l]
|zcE=>_ ğ e3
|zcS=>_ u' r'
|znH=>_[hl j y v' zcE][Dt zcS]
|znI=>_ p.isList[Cy[yeC hx]]
|zim=>_ [_,_,_,_][AV m6]
|znK=>_[x7p dV kV doc pm an RO ct] ps
|znL=>_[x0O==0&&Ih==1&&x44[zJ-oU]] _
|zio=>_ "alike_from" xwE
|zq8=>_[xHL z[kf y]] false
|znM=>_[BL zq8 h2] h
|znN=>_[Kh[ym xC3 Z5]][xJv Î sm]
|ziq=>_ "need_table" xr8
|zir=>_ "again_from" xwN
|zis=>_ hPi[B8 P' P'[(i)]]
|zit=>_[Ko ..][PK P2 ?_]
|ziQ=>_ _ ydZ
|znO=>_ hS'[YQ S ziQ hSo]
|zjh=>_ Jah ā
|znP=>_ GN[Y7 4 zdu zjh]
|zqU=>_ _[xTY B0]
|znQ=>_[xy8 zqU] x6I
|znR=>_[λ c o e n=>W8 n] nxo
|ziu=>_ "_law_mixed" xwK
|znS=>_[xSF hl4][zu ae xZ0[xSy nwp]]
|ziv=>_ "_law_wrong" xwS
|ziw=>_ [256,512][b/2%2]
|znT=>_[hJ ha][hJ hb]
|znU=>_ uu (xN3,by rw [Ko,hlen])
|znV=>_[Sc I.ok.glob ybK] hm
|znW=>_ Ki (rK zcq SZ this).elim
|znX=>_ [_,_,_,_][nL 3[xAs[ZP 3]]]
|znY=>_ (x:=.int ns[(j)]) (by simp [j1])
|znZ=>_[HV[.a x8M xPL]][yI[HY V4]]
|zn0=>_[C7[rH Tm xIV]][AV[xSH XL]]
|ziG=>_ hdd B0
|zn1=>_[t≠d][xQi ziG]
|zn2=>_ hoI'[λ v z=>xm hod]
|zeW=>_ xUb xCD
|zn3=>_ Ik[λ b o e=>kp b o zeW]
|zn4=>_[AV[Xe FG]][x7a[EZ[yy 7]]]
|zn5=>_[sj[t+1]][by cases hk<;>lia]
|zn6=>_ (R,t+s,YZ,by rw [MC]) kp
|zqA=>_ xzk[xC5 i j[i*xEN]]
|zn7=>_[rI zqA] vZ
|zdl=>_ 1 Ug.nd
|m_=>_ C4 Tm
|n_=>_ SZ ST
|ziz=>_ t [xBF,xQ5,xQR]
|zdm=>_ .nil cv
|zn8=>_ n[c=.ref n\/JM[c=.type t]]
|zfV=>_ h[De xYf k]
|ziA=>_ [_,_,_][xQB SZ]
|zfW=>_ [_,_,_][BS Η vS][BS xIO x8R]
|ziB=>_ d [xO2,xQk,xSp]
|zfY=>_ L.length Sa
|ziC=>_[cg H2 l5 SA] l5[xTm[c/7%8]]
|zfZ=>_ (K:=K) (a:=a)
|zeF=>_ X.A.in1 s
|zb6=>_ st ps Ò
|zn9=>_[λ _ j=>0<j][xC5 i j[i%j]]
|zeG=>_ JC[nofun]
|zoa=>_[Vals[vs++Uu][us++ds]] ydH
|zjc=>_ zdI BV SZ BV
|zei=>_ zjc ht
|zob=>_ τ[DF zei]
|zod=>_ [_,_,_,_,_][.a xYw[Hk JD]]
|ziD=>_ YP l.row.toRowW
|ziE=>_[xFv X N s H] RS
|zoe=>_ FG[DF zei]
|zdn=>_ xyg Jab
|ziF=>_ um[JB 9[ZP 9]]
|zdo=>_ ntp ntd
|zf2=>_[y::Nc] qual
|zf3=>_ R0.tell Co R0.W.cost
|ziI=>_ "with_byte" xvs
|zf4=>_[64*a+b-1] c
|zof=>_ "at_end" "BitReader.at_end"
|ziJ=>_ "need_room" xrD
|zeH=>_ Fe O.feed
|ziK=>_ "next_head" xrB
|ziL=>_ "need_last" xww
|ziM=>_ (cM:=cM) (cL:=cL)
|zf5=>_ Z.check Se Z.sealed
|ziN=>_[rP 4] t
|ziO=>_ "_law_long" xvv
|zdp=>_ Î Î
|zb7=>_ Ğ cO
|zb8=>_ zdb st
|ziP=>_ zfA[D8 FZ 1400]
|zbl=>_ rfl q
|zog=>_ hs[fin (v:=V.non) J zbl]
|zoh=>_ χ[ydF Ta[yh1 Z.pr.R] BM]
|zoi=>_ hq[yl9 Iy ykY jo[Lc xHE]]
|zoj=>_[xRm[xy7[x3W zD] Q s']] s
|zok=>_ neC[∀b o,i7=LT->xXN->eG]
|zrt=>_ i ((P.length,xBz,pw))
|zol=>_[ykA zrt] i
|zom=>_[v=X[(n)]][by simpa using hv]
|zon=>_[v=X[(n)]][by simpa using z2]
|zoo=>_ (SM.xuI SG.xym U8).symm hSB
|zop=>_ VB[rL H1 l1 xyV l1=Bc xyV]
|zdB=>_ zhi Φ
|zcI=>_ ST τ
|zoq=>_[px zdB zcI] Φ
|zor=>_ "thing" "CodeReader.thing"
|ziS=>_ Q[xEw h g d t]
|ziT=>_ [_,_,_][HY Ey]
|zot=>_ hl[aN hl Wl B0]
|ziW=>_ hd B0
|ziX=>_ Vs "rest_size"
|ziY=>_ hlen r'.length
|ziZ=>_ ha B0
|zow=>_ xBg x4q
|zox=>_ xRO[free b o' zd8 xUf]
|zoy=>_[xEt x v zcE][Dt u r]
|zi1=>_[HL b u] I.bare
|zoz=>_ hk[Io t lt Ig h1 Ð]
|B_=>_ r1 r2
|zi2=>_ r2 B0
|zi3=>_[f vi[V6 u]] Q
|zoA=>_[BL[xHL y we] false h1] h
|zoB=>_ x3J x3J
|zoC=>_ (kg:=xyz) (λ z:RA×Bd=>Zs)
|zoE=>_[uV a][jh ziZ]
|zi4=>_ "codes_of" xwx
|zoF=>_[xrJ Ns Na Nw Nr Vi.R] hr7
|zoG=>_[xQi zeq] ntd
|zi5=>_[xsE js σ v] H
|zi6=>_[Vp fI][xCT fI]
|zoH=>_ Ik[λ b o e=>x6O zeW]
|zi7=>_ "head_row" xr2
|zoI=>_ "count"[Yi xWZ a:: [yfW]]
|zi8=>_ "lay_copy" xwt
|zoJ=>_[L++x4m[xIq 3 6] 3 ah] ah
|zoK=>_ "finish" "Presser.finish"
|zoL=>_ hw3[(EN H2 wt []) wt=xC8]
|zi9=>_ ls[xYX[n0+j]]
|zoM=>_[xTt hp6 B0] hp6
|zja=>_[xo x][xr6 _ x]
|zrE=>_ xvl[xC5 i j[i/j]]
|zoN=>_[rI zrE] 1
|zcu=>_ rfl hx
|zoO=>_ t[AA->Hl[H' t] bh->xDd]
|zcw=>_ BM _X
|zcx=>_ dV Ò
|zf7=>_ ht[xwn hi]
|zjb=>_ f0 f1 f2 f3 f4 f5
|zf8=>_ go[zP _ _]
|zcy=>_ σ7 H7
|zoP=>_ (xs,q,ρ)[hd Ä p]
|zr2=>_ v[xAr v/\Q Dh H2]
|zoQ=>_[xY zr2] E
|zoS=>_ [_,_,_,_,_][HY[xCP qZ]]
|zoT=>_[ycv ymc][hx▸pl.isList]
|zoU=>_[i<m][Jx xBL xNc]
|zoV=>_ xs.toList.length xs.size
|zf9=>_ Pa Z.parts
|zoW=>_ U8[SM.xqd SG.xym _ hstb]
|zcz=>_ xBO Yv
|zoY=>_[W4 hlen][Ge hto[W4 HN]]
|zoZ=>_[G w p n s[V/256]][Hs V]
|zga=>_ xyq.nd yaD
|zo0=>_ "window" "Course.window"
|zgb=>_ npx[p≠x]
|zo1=>_ "finish" "Opener.finish"
|zo2=>_[AV x77][G8[ZN[ir CE]]]
|zcF=>_ hC hBm hK
|zo3=>_ Nx[xop Nx.F Z zcF]
|zo4=>_[zu ae xZ0[DY hw n4]] kp
|zgc=>_ x14[e/9%4]
|zcA=>_ v_ hN
|zcD=>_ ê CW
|zdR=>_ rfl È
|zo6=>_ _[xE1:: [(("rest",xGy))]]
|zjd=>_ _ E9
|_M=>_ P w Â base
|zje=>_ a its.toArray
|zjf=>_ [_,_][AV xBE]
|_N=>_ t S t' S'
|zo7=>_ nl[A3 K0 hl hl]
|_z=>_ Δ XL
|zo8=>_ q[aN q zer]
|zo9=>_ o[h'.get? e=LT/\rg x2S]
|zjg=>_ I.kIn M.makes
|zpa=>_ e[.Slice ú none p2]
|zca=>_ hr hb hd hx
|zeK=>_ L[1+q%3]
|zsX=>_ v[((x,v))∉binds]
|zpb=>_ m[EG zsX]
|_B=>_ mg B 0 G' 0 Ź
|zeL=>_ O Z.ones
|_C=>_ q1 q2
|zpc=>_[λ b o q hb hn=>?_] zlS
|zpd=>_[m1++m2][yl4 e2]
|zjj=>_ c'[xwX oc c']
|zdT=>_ σ1 l_
|zpe=>_ Z5[by show([hj],yeI)]
|zjk=>_ [_,_,_,_][xRS zib][Yb[Gi 9 ziF]]
|zjl=>_ (vs:=Aj::vs) F
|zpf=>_[max[v+By] 0][min v By]
|zpg=>_ [_,_,_,_,_][Bu[d5 Ey]]
|zjn=>_[Ο j Ç] _
|zph=>_[.a Hb FK][wy[D8 Hb 7]]
|zjo=>_[r*2^s+n][k+s]
|zpi=>_ "is_number" "is_number"
|zdU=>_ xzM Jal
|zeM=>_ "rest" r
|zjp=>_[xpe hn] T.min
|zpk=>_ hW[JN hT[Ge hSl hlen]]
|zpl=>_ hc2 (oI',?_,Wf,hod)
|zjq=>_ clos[ygl ycf]
|zjr=>_[Az fI][iG fI]
|zjs=>_ "bits_at" xzv
|zjt=>_[wZ GA Ao 3] 5
|zju=>_[b+1][x0g G T]
|zpm=>_[sM Sw nwt][EN H2 wt []]
|zjv=>_ "pressed" xwr
|zjw=>_ "part_at" xwh
|zpn=>_[64*0+t.length-1][xBa 1]
|zpo=>_[xL3 p _ pl][xL3 q _ WL]
|zpp=>_ "_law_pressed_good" xta
|_D=>_ cA cG
|zdV=>_ (cH:=cH) (cK:=cK) (cB:=cB) (cT:=cT)
|zpq=>_ zfX[a.toList++b.toList]
|zdY=>_ zjb it Z6
|zdZ=>_ xOF VE WR xOG
|zd0=>_ s.b s.S s.G
|zps=>_ d[xZ7 ziW]
|zpt=>_ hz[JN jj[JQ Su.symm]]
|zpu=>_ hz[J.list[sm.seq hq]]
|zpv=>_ xRO[there b o' zd8]
|zpw=>_[TD[Az[zk _] rfl]] ho
|zpx=>_[xZU[yeB c hfn hc]] e1
|zpy=>_[ycr #[xQt,xTf,xTo]] tk
|zpz=>_[InitBack Iy R][kR xId]
|zpA=>_ r2.length[x6V _ _ _ h]
|zpB=>_ hI[λ TN r d _ hW=>?_]
|zpC=>_ hI[λ WS r d _ hW=>?_]
|zpD=>_[n=1][JS[xLQ hgt] hn1]
|zpE=>_ xxY[C7[xSE[qN x8k]]]
|zpF=>_[J2p.pin zcr] xXz
|zpG=>_[nL 14 SZ][xQ0[rQ 14]]
|zpH=>_ xZP[x0G[xKo[dY hl]]]
|zpI=>_ "lengths_in_items" xsh
|zpJ=>_ "go_on" "Course.go_on"
|zpK=>_[x7W C hlC][x7W D0 hlD]
|zpL=>_[ZN[A7 xQn]][EM 11 EA]
|zpM=>_ "_law_waited_good" xtF
|zpN=>_ rfl (Z5,Z5,Z5,Z5)
|zgd=>_ _[y xs q]
|zpO=>_ _[by simpa using nfI]
|zpP=>_ w[kh[Mm h1]]
|zpQ=>_ g1[its.toArray[(j)]=u1]
|zgg=>_ 8 [_,_,_]
|zbP=>_ Tm HW
|zcb=>_ Q x H1
|zcG=>_ σ zcb
|zpS=>_ e[dz zer]
|zpT=>_ h[xxJ zcB T6]
|zbS=>_ u rfl
|zbT=>_ h2 h3
|zgh=>_ hm T.mlen
|zjy=>_ h3 Z.H.three
|zgi=>_ Vs "rest"
|zd1=>_ a1 a2 a3
|zdv=>_ Up xIZ
|zpU=>_ rs[xQA/\YG IL/\D4 Dw]
|zdw=>_ he rfl h1
|zjz=>_[De ge ce] ?_
|zpV=>_ e'[xTU[xDe b hT] hb]
|zfb=>_ ze9 zbO
|zpW=>_[xKA zfb] iv
|zpX=>_ I2[Inv.made (C:=C) I]
|zpY=>_ p.isList xMU
|zpZ=>_ "__class__"[some xw2]
|zp1=>_ [_,_,_,_][G8[Bu IU]]
|zjA=>_ I1.kIn hm.kp
|zp3=>_ YD[starEach zdg]
|zp4=>_ [_,_,_,_,_][.a V4 Δ]
|zjB=>_[xzp xB1] ycP
|zp5=>_[xLb s1][xyt.unlift q]
|zp6=>_[Sc Uh f3] f4 f5
|zp7=>_[Xe[jF Hb 7]][C7 x8m]
|zp8=>_ Bz[uo ÿ hj[Qx _]]
|zjC=>_[x9Z m1 m2] Q
|zck=>_ Η τ
|zp9=>_[lu zco zck] Η
|zqa=>_ T2[dG "course" Dh []]
|zqb=>_ As.length[xVc xBz pw]
|zjD=>_ Ue rv.length
|zqc=>_[xPs y=k][x61 _ zbE]
|zdx=>_ A' T[64*ow]
|zqd=>_ E9[UV l4 n4]
|zgl=>_ hr7[ED 7]
|zqe=>_[xrJ Ns Na Nw Nr R] Ns
|zqf=>_ htt3[Gs htt2 zdo]
|zgm=>_ Co.m Co.b
|zqg=>_ "best_way" "best_way"
|zqh=>_ "value" "Check.value"
|zqi=>_[xEL[q2' İ]] q2'
|zgn=>_ Ta Z.tail
|zqj=>_ "feed" "Presser.feed"
|zgo=>_ hr6[ED 6]
|zqk=>_ "twin" "Reading.twin"
|zql=>_[HJ V3 XL Ec XL wc] XL
|zbW=>_ Zh Yg
|zqm=>_ "_law_twice_good" xso
|zjE=>_ Jo[Xc Ab AS]
|zdA=>_ h_ h4
|zqn=>_ Ę[NL.K'[ya ST AO]]
|zdD=>_ _Z Tm
|zqo=>_ zh8[x9q[EM 500 x8r]]
|zbX=>_ H2 jS _
|zqp=>_ _[Κ V9 hpT]
|Ď=>_ i hi
|zqq=>_ t [vN[xQe+xQf],xx0]
|zqr=>_ q[El zdD Η hq]
|zqs=>_ H1 s1.heap.objs.size
|zqt=>_ [_,_,_][xyB[CA 16]]
|zqu=>_ g2[T7.toArray[(j)]=u2]
|zqv=>_ l1 [.int 29,.int 45]
|zqw=>_ H2 s2.heap.objs.size
|zqx=>_ Gl[λ _ r d e _=>?_]
|zqy=>_ iU[yeW xMe]
|zqz=>_ r1[NX (H1,I1,q)]
|zqC=>_[jF[TO xYg] 200] zdf
|zqD=>_ (name:=yjc) ht.typeIs
|zqE=>_[xn7 i D][xGd[υ e]]
|zqF=>_ "many" "BitRow.many"
|zel=>_ κ a b sq0
|zqG=>_[LoP zel y] U2
|zqH=>_[HiP zel y] U2
|zqI=>_ (blt:=κ.blt) (kf:=zA)
|zqJ=>_[P'=Pp][xv0 hwk' hwk]
|zqK=>_ "ShareWay.number" lf
|zqL=>_ "CopyWay.number" xpy
|zqM=>_ B16[xXg (a:=yg1) Dy]
|zqN=>_[kW χ][Bv cZ χ x8Q]
|zqO=>_ "tail" "Course.tail"
|zqP=>_ "twin" "Course.twin"
|zqQ=>_ "over" "Opener.over"
|zqR=>_[s2' _ _ e][ai Eo nq]
|zqS=>_[x6E zW[Cv xOE]] xIB
|zce=>_ dx hp
|zcf=>_ mg CK
|zcg=>_ _ EK _
|zdG=>_ hs pl pu
|zqW=>_ Z9[xl9 zdG ?_]
|zqX=>_ Δ[.a[xSE oq] xIV]
|ž=>_ o ho
|zeP=>_ [] true
|zjJ=>_ hl r.length
|zqY=>_ R[W9 U[r.1≤u.1]]
|zqZ=>_ h1[p/8≤(p+s+7)/8]
|zq0=>_ h1[.inr[k8 È]]
|zq1=>_ hx hi.allInts.items
|zjK=>_ hx[bf l nl]
|zci=>_ h2 h2
|zeQ=>_ Jab xuD
|zjL=>_ hle X.least
|zeT=>_ x1I xDi
|zcl=>_ hc hc
|zq2=>_[xP8 s Ä _ I h] d
|zeU=>_[i+1] H'
|zq3=>_[lookIn name od] x6a
|zjM=>_[xAs yaU] XL
|zq4=>_[xF2[CZ us ds]][C8 zpA][P4[Pf zkK]]
|zjN=>_[xx4 dx x] x
|zq6=>_ V4[A7[.a x8M xPL]]
|zjO=>_ callerA ygp
|zjP=>_ xDL Y6.line
|zq7=>_ l2[uQ zdx]
|zjQ=>_[xKM o q] z'
|zjR=>_ (e:=xVZ) pl.isList WL.isList
|zjS=>_ xJe[Kh xsB]
|zjT=>_ (P:=P) (w:=w)
|zq9=>_[MV x6n][ymh h2 x6n]
|zrb=>_[xxm hA][by show([JP,-Su,T2,-Lm],OJ ..)][xLF Lm Su]
|zrc=>_ hrev[Eb.reverse=Eb]
|zeV=>_ T0 Z.tt
|zrd=>_[Sg zfb] u
|zjU=>_ DP[xxk nl0]
|zre=>_ "ShareWay.tell" xtQ
|zrf=>_ "RawWay.number" xpp
|zrg=>_ "RunWay.number" xpi
|zjV=>_ Er.mH Er.xH
|zjW=>_ xH8[xKp EH]
|zrh=>_ "ends_in_check" xtt
|zri=>_[t+9][S++[wY[t+1]]]
|zrj=>_ "ShareWay.read" xtc
|zrk=>_ "in_four_bytes" xnF
|zrl=>_ "twin" "Check.twin"
|zrm=>_[λ c o e n=>x1e] SI
|zrn=>_ decide_true if_true
|zjX=>_ Bd.mB Bd.xB
|zro=>_[xu0 N' Z.pr.H.N] WO
|zsG=>_[ne nk][YW hC3.gr]
|zrq=>_[Gs hx3[ne nq]][hC3.off Sv[ne no] zsG][Gs hw3[YW hw3]]
|zjY=>_[Ar xYk] xYs
|zeY=>_ xzj xGf
|zjZ=>_ "law" "law"
|ze1=>_ Ð Ÿ
|ze2=>_ Ð Z8 Z8
|ze3=>_ ö Ã
|ze4=>_ "left" "BitReader.left" xzn
|ze5=>_ Ĵ Í
|ze6=>_ ĝ ă
|zrr=>_ zbK[EB[xA9 l] _ _]
|zj0=>_ H' s.heap s'.heap
|ze8=>_ zeI xYD
|zfa=>_ p zcc zeA
|zd2=>_ rfl ?_
|zrs=>_ σ[sG H p [x7l,x]]
|zgp=>_ AB T0.cl
|zgq=>_ .nil x6u
|zgs=>_ l[o6 uu]
|zru=>_ n[Dz[k2 _ _ e n]]
|zrv=>_ z[xNk y y]
|zrw=>_ q[AY ba.2++AY xHr]
|zrx=>_ e[xUw e[xwX o e]]
|zgu=>_ hb Fa.hb
|Ģ=>_ u hu
|zgv=>_ N R0.num
|zgw=>_ C "tell"
|zrz=>_ hl[len _ _ _ _ Wz]
|zgx=>_ hl Fa.hl
|zd4=>_ H4 EK _
|zrA=>_ "course" "waiting"
|zgy=>_ Pu Z.put
|zgz=>_ Uj[ED 3]
|zgA=>_ Uj SN.ob
|zgB=>_ cls none
|zgC=>_ M Z.move
|zd5=>_ Tb xNn
|zd6=>_ hv rvu
|zrB=>_ "need_lengths" xup
|zgD=>_ YV[ED 9]
|zgE=>_ .none dc
|zrC=>_[hm b _ q[TD z]] q
|zrD=>_ xET[xSS zbQ]
|zd9=>_ c' st'
|zkb=>_ xzk[i*xEN]
|zrF=>_[wF zkb] vZ
|zrG=>_[BE 16 XL][xyB xYg]
|zrH=>_[jF[TO xIP] 5] zdf
|zgG=>_ vu .none
|zgH=>_ l.prog w
|zrJ=>_ ykm[Dq hX]
|zgI=>_ (M:=sN) Y
|zrK=>_ SI[jY[sQ hp] npx]
|zrL=>_ "put" "BitRow.put"
|zrM=>_ "row" "BitRow.row"
|zea=>_ fA fdA
|zeb=>_ WO xP0
|zrN=>_ "longest_copy" xp8
|zrO=>_[by exact Mn xYx] e
|zgJ=>_[i+j] xHv
|zrP=>_[Eb[(0)]∈Eb][Ms T1]
|zgK=>_ U3 T3.ob
|zrQ=>_ T.sort[oa fW We.m]
|zec=>_ TQ xIa
|zgL=>_ U7 hC.ob
|zgM=>_ SW XW.ob
|zrR=>_ "CopyWay.tell" xpZ
|zrS=>_[λ v _=>v=xA4] x3m
|zrT=>_ "in_two_bytes" xri
|zgN=>_[xv 0] Jz
|zrU=>_ xPM[Ft 256 hfi tf]
|zrW=>_ Sq.nd[aV B4 Ε sf]
|zrX=>_[kp12 _ _ e a1] zd1
|zrY=>_[Js DZ[tO xR2]] MS
|zrZ=>_ (s:=s0) (x6x [] rfl)
|zgO=>_ Yf[v::z]
|zr0=>_ ù[ZA[BS Hg ST]]
|zed=>_ zhq EA
|zef=>_ zde z9
|zfc=>_ zdi jn f zdj
|zej=>_ args us vs
|zj1=>_ X.env X.xe
|zj2=>_ Z7 T.range
|zdF=>_ Z9 l nl Al
|zj3=>_ l[xW8 C l]
|zcJ=>_ nl nl
|zj4=>_ bM[Hh xYH]
|zj6=>_ [_,_,_] Δ
|zj7=>_ [_,_,_] EA
|zj8=>_ [_,_,_] V3
|zj9=>_ [_,_,_] Jt
|zcL=>_ R vs H1
|zcN=>_ hx hx
|zcO=>_ l5 n5
|zr3=>_ χ[uW[Ee Ε EH]]
|zka=>_ h3 Z.three
|zr5=>_ PN[ykD PN ?_ yjw]
|zcP=>_ b1 b2
|zr6=>_ e'[f4 b _ gT' hb]
|zcR=>_ q' q'
|zcT=>_ c' oc
|zcU=>_ uu Dy
|zr7=>_ I3[ynf ge z2 bk0]
|zr8=>_[By-jT=By-gy-1] Z5
|zr9=>_[λ _ j=>0<j][i%j]
|zsa=>_ "__setattr__" yjp
|zsb=>_[Rc X hm][OX X hi]
|zsc=>_ [_,_,_,_][Ar xYw]
|zsd=>_[BE 3 XL][xAs xIP]
|zse=>_ bare[uo b z z Z6]
|zsf=>_[λ b ob q=>eO] ρ
|zkc=>_[xU1 eO] ρ
|zcW=>_ T7 XC WL Vh
|zsg=>_ nums_intItems hx (BL yjk ns hi.numsOf).symm
|zcX=>_ g tt te
|zsh=>_ WL.isList[xqF XC]
|zsi=>_[yh f s1][yh e s1]
|zkd=>_ s0[xJX CO]
|zsj=>_[zP zdd] Î
|zsk=>_[j+1][xuy T[j+1]]
|zsl=>_ hO (P:=Rs.flatten)
|zsm=>_[by exact KW Uq] e
|zsn=>_ [_,_,_,_,_,_][JB znD][Gi 3 zpE]
|zso=>_ lA[CB[CZ zbW]]
|zke=>_ Bs Z.bsize
|zkf=>_[Ar xGl] Sl
|zsp=>_ (tt:=xnw) (te:=xjk)
|zsq=>_ "RawWay.tell" xpG
|zsr=>_ "RunWay.tell" xpD
|zss=>_[P≠c'][ai hP hn]
|zst=>_[Ο b u z][UV b z]
|zki=>_ x5B[W4 hl]
|zsu=>_ "cost" "Way.cost"
|zkj=>_ S0.Y S0.Zb
|zsv=>_ "add" "Check.add"
|zc0=>_ mB xB
|zsw=>_ "RawWay.read" xpL
|zsx=>_ "signs_ahead" xp6
|zsy=>_ "RunWay.read" xp4
|zkl=>_ Ao Y.ahead
|zsz=>_[kW Mh][xJ5 AS Mh]
|zsB=>_ Mo[xoe Mo.F T0 X]
|zsC=>_ npc.symm npk.symm
|zsD=>_ "_law_sealed" xtD
|zsE=>_[xBB[0+gy]::cs] _
|zkm=>_[xU4 nJ] ae
|zkn=>_ Bl Z.block
|zsF=>_[uV l1][sM hp nl1]
|zsH=>_ (S:=xBp m) (G:=xDx)
|zko=>_[yd3 _] 100
|zsI=>_ Ē List.map_set
|zkp=>_[yck hy] hy
|zsJ=>_ "_law_turned" xtT
|zsK=>_ "_law_joined" xth
|zsL=>_ "_law_chosen" xtn
|zsM=>_ "_law_opened" xuu
|zkq=>_[xAh vT] bV
|zc2=>_ â I
|zc3=>_ ĝ _
|zc5=>_ xEv ov m pl
|zkr=>_ rel dd[x5R e]
|zc6=>_ a ha b
|zc7=>_ z its n r
|zc8=>_ x y bl ro rr T k w
|zsN=>_ ?_[by size_fits]
|zsO=>_ f[UC xVx[mA f]]
|zsP=>_ _[leaving _ xBY]
|zsQ=>_ i[kP p[0<CQ p]]
|zsR=>_ n[xND i[xZk j]]
|zsS=>_ b[vK "way" a []]
|zsT=>_ e2[xZ e[Az ex]]
|Ž=>_ e s'
|zsU=>_ e[xP1[u=xGG i]]
|zsV=>_ e[xP1[u=xWd x]]
|zsW=>_ X Z.Cr.Y.Z.X.R.X
|zsY=>_ AS[Ft 64 hbs tb]
|zs0=>_ H3[xAP x5G vx e]
|zs2=>_[wF ſ[i*j]] b
|zs3=>_ Vj[I1.cne z c e]
|zs4=>_ [_,_,_,_][C7 qZ]
|zs5=>_ [_,_,_,_][wz Ey]
|zs6=>_ [_,_,_,_][G8 qZ]
|zs8=>_[kindOf x] .local
|zta=>_[xFv X N s H] cnd
|ztb=>_[b+1+(e-(b+1))] e
|ztc=>_ "row" "Head.row"
|ztd=>_ "need_signs" xps
|zte=>_[df+ui=wV i][xKs]
|ztg=>_ x7u[SrP Ĳ x]
|zth=>_[B=[]][L8.mp yja]
|ztj=>_ "lengths_of" xpA
|ztk=>_ "room_taken" xnK
|ztl=>_[xBo _E] b[2^(12-b)]
|ztm=>_ xYa[aT[jZ 3 4]]
|ztn=>_ hpp5 B0
|zto=>_ hdd5 B0
|ztp=>_[Ar[Ar x8d]] xIO
|ztq=>_[xB9 H1 d1 p1] p1
|ztr=>_[xB9 H2 d2 p2] p2
|zts=>_[xB9 H3 d3 p3] p3
|ztt=>_ Wc Z.Y.withcheck
|ztu=>_ SJ.nd[Ee Mh xI4]
|ztv=>_ "take_table" xpt
|ztw=>_ "BLOCK_SIGNS" 64
|ztx=>_ hT5[hT4.same s5]
|zty=>_ hco6 oA
|ztz=>_ hck6 oA
|ztA=>_ "take_block" xph
|ztB=>_ "read_parts" xwu
|ztC=>_ "go_through" xwc
|ztD=>_ "_law_check" xuX
|ztE=>_[none::cs][o5 []]
|ztG=>_[BN vU][wV[n+3]]
|ztH=>_[(yah) l1=ax] yah
|ztJ=>_ "_law_block" xsg
|ztK=>_ "_law_parts" xsX
|ztL=>_ [yo,Bh,yE,Jj] H2
|ztM=>_ xyZ[Z1 Ye zc1]
|ztN=>_ rel dd[xnG I.hok e]
|ztO=>_ ["key","default"] 0 ([],xFj)
|vcA=>_[λ b o e n hb hx=>?_][λ b o e n hb hx=>?_]
|vea=>_[λ b o e n hx=>?_][λ b o e hx=>?_]
|vdH=>_[λ b xs e=>tups b xs[xMC b e]][λ b o xs e=>frzs b o xs[x3O o xs e]]
|vdA=>_ hg (vcA,vea,vdH,HL b ps)
|vdB=>_[(bm,N,nm,qn,bs,hdct,sn,sub,ab,col,dd,k0,k1,k2,k3,k5,hlC,hcC,_)=xuh cC][(bm',N',nm',qn',bs',hdct',sn',sub',ab',col',dd',j0,j1,j2,j3,j5,hlD,_,hfD)=xuh hD]
|vbR=>_ T0.cl T0.nW
|vcY=>_ J.os J.bare J.base J.hok
|vdC=>_[SL I zlr][(fin:∀{σ'} {H'} {v} {u},xCW zmu s'->fz->dO->ygN P w H s Q u s')=λ {σ' H' v u} J rv q=>(v,H',vcY,rv,q)]
|Ú=>_ rfl rfl
|va3=>_ ß C
|vbh=>_ va3 ę
|vbQ=>_ H1 I1 rx
|vcy=>_ dx fs ex ea
|vcz=>_[(x,vbQ,a,vcy,l,q)=z9][aI[u=JF]]
|ves=>_[λ b o e hx=>?_] I.base.tups
|veE=>_ I.base.frzs I.base.tbls
|vdD=>_ I.bare (vcA,I.base.free,ves,veE)
|vbS=>_ I.free I.freeC
|Ć=>_ Å Á
|ų=>_ ß ą
|é=>_ h1 h2
|vdE=>_[Ý[xKA s H _ I h] λ iv s1 ⟨y,H1,I1,ry,q1⟩=>xFu zrd][(x,H2,I2,rx,a,ov,ex,g,q2)=z9]
|vcj=>_ I.loc I.cell
|veW=>_ oc od kV doc pm an
|vb8=>_ veW RO ct osl rfl
|vdF=>_[(vb8,lk,VA)=F.ex][x15 S λ A outer s H vs Q E hr Wz=>?_]
|va5=>_ T.cl T.nS
|õ=>_ hb hl
|ý=>_ rfl hR
|vcB=>_[(no:∀t,x1k)=λ t=>bW][tR Gw]
|vck=>_ I.os I.bare
|Ě=>_ vbh va4
|vdG=>_[(nE':New[xM6 G] RN H' ea)=(nE.s0,nE.h,nE.loc,nE.cel,nE.pin)][Θ zr7 uh zkI]
|vc1=>_ Z7[λ x c h=>(by show xDI[xpv h];rfl)]
|vc2=>_[hR.keep λ c o e _=>kr][λ c o e _=>kr]
|p_=>_ va3 ą
|_S=>_ rfl ha
|vc3=>_[xMc Tk Z.tk][Ty zdO TR Z.T]
|ŵ=>_ true rfl
|vcl=>_ I.hok I.len
|vbz=>_ rfl hB
|ø=>_ Å ?_
|vdI=>_[BO Nr Y.V.needrow Nw Y.V.needwin][BO Na Y.needahead Ns Y.needsigns]
|vdJ=>_[(x,vbQ,a,C,dx,fs,f,fd,ps,sp,ex,ea,l,c,hm,F,hb,q)=z9][aI[u=JF]]
|_s=>_ T.cl T.nW
|vbi=>_ é h3
|à=>_ ?_ ?_
|vdK=>_[FR hl gr.len xpj hl][(er:runP S[x::Pp]=xHW[app S x])=rfl]
|vc4=>_[(n1,n2,n3,n4,n5,n6)=hR.ne] xSc
|vcC=>_[Z3 zeS GT][Z3 zgm x9Y]
|vdL=>_[Du[O3 hol hdl ?_]][x5C KG zhn]
|vdM=>_[Du[x3o zjz]][UN[hQ _ λ b ob hb e1=>xDq[ydh ob hb e1]]]
|vc5=>_ rfl (dx,B,r,k,hp,hd,br,hk8)
|vc6=>_[DS zbL I6 q7 q6][x4A zfH zhv]
|ć=>_ Á x
|vdN=>_[EF tm hm X.many ta hag X.again][Uv tl hle X.leastA]
|vdO=>_[xNI R a n r e g Sl hj][(_,_,_,q4,_,q6,q7)=xXV Sl g]
|_t=>_ Á a
|_U=>_ _t Á
|vdP=>_[(dxp,rp,kp',hpp)=hB1.ob][x65 dxd Bd rd kd hdd hB1]
|vdQ=>_[(e0:xGu+By=Tl BJ)=ua iN iN][Dp[FD zc3 _ Ð Al]]
|į=>_ rfl ae
|vbj=>_ T.cl T.nB
|d_=>_ es ep
|vfH=>_ (t,rfl) (t',rfl)
|vdR=>_[xxv i j zbl][(u,w',rfl,vfH)=xuT r]
|vdS=>_[(hmk:Ez UB 3)=by cases bg<;>decide][xLC JO JP]
|vdT=>_[Es zeV][vV N' Z.pr.H.need Tw Z.twin Th Z.thru]
|vdU=>_[BO Nh Z.nexth zke][EF t3 zjy t11 VB Z.tbytes]
|vdV=>_[yeP[R.k i z c h2 h1]][ZC[kM c e1.x e1.n zme]]
|_u=>_ va2 ą
|_v=>_ ß CO ę
|vbB=>_ [] rfl
|vcD=>_ ok.frames ok.stk
|vdW=>_[(o,e,hc,n,hd)=pl.isList][DS o2 e2 ec ed hit]
|vdX=>_[zf s1[DI Vt nl1] T2 ztH H1][vQ zku hq T3.ob]
|va8=>_ vbR zo
|vfi=>_ hp ((dr,VN),hC,hw)
|vdY=>_ rfl (dx,r0,va7,vfi)
|vdZ=>_[Θ s1 ydq nl zjU][Cc zhr zdv x81 VE WR x82]
|vc8=>_[x7x W S][vV zeL zgy zgC]
|ě=>_ Ï a
|vd0=>_ TL[EF dxo4 hco4 hCo4.ob dk4 hck4 hCo4.ch]
|vd1=>_[xM5 zc7 hl e hH][xM5 z2 T7 n2 r2 Su e2 hB]
|vbC=>_ T.cl T.nC
|vcm=>_ T.cl T.nT
|vbD=>_ T.cl T.nF
|vcE=>_ ok.blt ok.above
|vbE=>_ none none
|vbF=>_ vbi h4
|vc9=>_ TL[xF6 old he hit st]
|vd2=>_[Bp h[jr hle]][λ h t v H5 s5 ht hv=>?_]
|vd3=>_[zc u1 r1[xya rv]][ka u2 rfl r2[xya XC]]
|vd4=>_[wG[xZ1[JL[xA9 l]] KF]][uM[xxL 1>>= _]]
|vd5=>_[(o',es',ep',ho',r')=hm][A8 ho ho' ho']
|vcF=>_ ok.funs ok.frf
|vcG=>_ T.nR[xwz _ _ _]
|vd6=>_[XM s2[HP xyV n1] zop][Ty XT x9v Uz Gg]
|vdb=>_[λ u hu d hd=>?_] ?_
|vd7=>_[Ty zqa Su[ync yg7 TP]][Θ SV znB rfl]
|vd8=>_[Du[O3 hSo zd2]][qp[xNw[yeu I]>>= _]]
|vd9=>_[x83 hG3 G xOQ G3][x83 hH3 H' xOQ H3]
|vcH=>_ ok.inj ok.has
|vdd=>_ I.ok.glob I.ok.blt
|_w=>_ ha õ
|veb=>_[xXr i z hw kz x2k][xWA h1[hw.at Y]]
|ved=>_[Ew hw[x48 cC hi] zgu zgx hN w6] TL
|vee=>_[bQ[by show aQ[1*_];lia]][UV l6 n6]
|vef=>_ vc7[xRr[by simp at hp;exact xZu]]
|vde=>_ TL[Xh z hd xs zkr]
|veg=>_ hw[λ t H' s' ht=>k t H' xMK ht]
|veh=>_[uM[yi0>>= _]][vt[ykK ?_][ykL ?_]]
|vei=>_[(p,xs,i,z,Ú,hq,he,q)=h] qX
|vdf=>_ (c,dc,F,bk,bn) fr
|vej=>_[x6g dx4 WO S8.ob x6I][CJ zkE zkC]
|vbk=>_ Ï Å
|_R=>_ rfl hp
|vcI=>_ TL[qo zbV h1]
|vcJ=>_ ok.cab ok.hd
|vcK=>_ ok.exf ok.bs
|vcn=>_ hx Sl hW
|vcL=>_[xwM _ _ _] ?_
|vcM=>_ T.nT[xut _ _]
|vek=>_[(dx0,t0,VN)=hR.ob][(_,Yt)=hR.ls]
|vdg=>_ vj[h3[xWB[Kr z]]]
|vel=>_[uJ cW z O2][Dv this[QX.mpr nr]]
|vem=>_[qv h' Jq h'][xZl RQ zmb YU zgK]
|ven=>_[xMA U7 U7 U7 _ _ z][xIE[yec z]]
|veo=>_[uM[EB[ymI] _ _]][J' Z7[Kn yu]]
|vep=>_[DB[C.has Ô]][λ x c e _=>Hy]
|veq=>_ xPI[Xh z hd vs rel dd[x5Q e]]
|ver=>_[xR7 hp Yu][xMA Yu Yu Yu _ _ z]
|vbG=>_ rfl Ö
|vdh=>_ TL[dR t zf7]
|vba=>_ wt Á
|vcN=>_ T6[BH hL Ku]
|vcp=>_ I.pin vcl
|vcO=>_ uK[FU e2 TF]
|vet=>_[EJ zlw][Cc zrz KX gR zl5 zlo]
|vcP=>_[hk c ž] hd
|vcQ=>_ (dx0,VN) Yt
|g_=>_ ZT ?_
|vbb=>_ Vk Á
|vbH=>_ _S õ
|vbI=>_ ć Á
|veu=>_[λ b _ _=>xPe][uo b z z xPe]
|vev=>_ hWb hWl[λ l0 H0 s0 n0 h00=>Al]
|_x=>_ Z9 Z9
|vew=>_[yhH[LP zdw ?_]][CD[oF zeu]]
|t_=>_ c rfl
|vdi=>_ H7 I7.unpinned
|u_=>_ s rfl
|vex=>_ xOv [K4,K4,xt1,xt1,e0,Ku]
|vdj=>_[xn4 _ _ _ _] ck
|vdk=>_[yh2 zbu n4] xSc
|vdl=>_[BZ[xPz hx]] _V
|vbJ=>_ rfl ?_
|vbn=>_ dx vbB
|vey=>_[A8 hi e1 e1][A8 x6S e2 e2]
|vcS=>_ ok.mod ok.kind ok.glob
|vcT=>_ ok.bsz ok.noex ok.exfs
|vez=>_[(xs,hq,hx)=hg][u9 rv p hq]
|veA=>_[Dp[IQ zdF]][Df Ui l r zdZ]
|vcU=>_ Ć[ux zcl]
|vbo=>_ ų Sw
|vbp=>_ vbz hb
|vdm=>_ T0.cl T0.nB jW
|veB=>_ rfl[λ i x j h1 h2=>?c2]
|veC=>_ rfl[λ i x j h1 h2=>?c1]
|vbU=>_ hp Z.cl
|veD=>_[ω sb1 zkF][x6e o' ge ce]
|veF=>_[xUs u v ru rv[xuT r]] π
|veG=>_[A8[xuk ht] hv hv][EL zoz]
|vdn=>_ xPI[fG xMN ry]
|veH=>_[FR q x3S Q0 q][xHa q zgs]
|veI=>_[Es zqf][DS US r3 kk3 zgM]
|veJ=>_[Es X Z.Y.X][xMc Tk Z.tkB]
|vbV=>_ va5 xFd
|vbY=>_ Ė hp va8
|vbZ=>_ vck I.base vcj vbS
|veK=>_ rfl ((dx,hp),hd,hb,ht)
|veL=>_[uM[xxL 0>>= _]][xAc zrr]
|veM=>_ (vcR,q,xXx)[Pv[i+1]][λ σ' H' p'=>zd zdC p']
|veN=>_[Df ntp t p zoG zn1][htt2=DY XR zdo][DS dx r kk Sw U4.ob]
|veO=>_[rf H1 l1 xyV H2][EC zkx]
|veP=>_[Dp[rE È x W zjK]][AH Ui[E8 r] zdZ Gw][Dp[Hn l[BZ ae] Al]]
|vcV=>_ ?_[HL x c]
|va1=>_ o d_
|vcq=>_ p co ck
|veQ=>_[xAc zbK[xNm Hm _]] vdL
|vcW=>_ I.ok I.os
|vdo=>_ (m0,w0) turn
|veR=>_ xSa[(T7,XC,WL,Vh)=xNt]
|vdp=>_ T.nH[xo9 _ _]
|vdq=>_ yhr[UV lr Ui]
|veS=>_[(T7,XC,WL,Vh)=x4Q][iV u1 rfl t1[xya rv]][DS u2 rfl t2 rfl[xya XC]]
|veT=>_[x5s X O Y.O][Es R Y.Er]
|vbL=>_ vbh SI
|vbM=>_ ų hp
|vbN=>_ p_ ae
|vbP=>_ vbF h5
|veU=>_[XM s3[DI [] nwt] zoL][SW=Dz Sw][Fx nwp x9z zpm H3]
|veV=>_ vdh[SB Ue zhb zis xCY]
|vdr=>_ vbT[xDP F8 h]
|veX=>_ π[Ew zfl GI zlZ zk5]
|veY=>_ Bz[N4.mpr[NB[Lc hb]]]
|veZ=>_ I.ok.frames I.ok.stk
|ve0=>_ jo[λ x c e=>xX3 xX8]
|ve1=>_ I.base.there[yh c xs]
|ve2=>_ I.base.there[yh b xs]
|ve3=>_[x1M this][Cy[Rg _ hj]]
|ve4=>_ XW[Ga[NM[JN Yv x9k]]]
|ve5=>_[Gr W zlv ybQ zit] [Qp M1 _][qp[xNm[.ref S] _]]
|ve6=>_ x6j[BO zeH Ov O.over]
|ve7=>_[ye p q b Ð h k] xPn
|ve8=>_ t.wb t.wl[λ H'=>HG H' rfl]
|vds=>_ WB h1 Sl hx
|vb0=>_ vds hWb hWl
|vbc=>_ p va7
|vdt=>_ yaM[xBT zdw]
|vbe=>_ L res
|vbf=>_ N T0 vbz
|ve9=>_[(xs,x,hq,hx)=hg][u9 rv p hq][xXH hu ru[rv.get hx]]
|vdu=>_ st'[CG vz.1]
|vfa=>_ I.ok.above I.ok.inj
|vfb=>_ I.ok.noex I.ok.exfs
|vbq=>_ b1 b2 b3
|vbg=>_ SH UE
|vfc=>_ h5l[IY zfL D5 Sl hW]
|vfd=>_[Ty zeV R0 Z.pr.R] TL
|vfe=>_[RV.of hw][UV lw nlw']
|vff=>_[ej=xwe zcC][uH gg ?_]
|vcr=>_ Ï Ï
|vcu=>_ ß US Á
|vfg=>_ vc3[BO La Y.lay zkl]
|vcw=>_ _U xQo
|vdw=>_ ě Û xWY
|vdx=>_ vcm[xre _ _]
|vcx=>_ T0.cl T0.nC wj co
|vcX=>_ _[PL x1d]
|vb2=>_ rfl hw
|vb3=>_ rfl hl
|vb4=>_ rfl U4
|vfh=>_ TL[ye dx B r k h_]
|vb6=>_ tZ vcq
|vfj=>_ I.ok.mod I.ok.kind
|vb7=>_ H' rfl
|vb9=>_ Ė SI vdm
|vca=>_ l4 Å
|vfk=>_ Ul[((dx9,YV),_)=T3]
|vfl=>_[ykQ Co][(_,FC)=Co.F]
|vfm=>_ hD[λ H3 SN Sv=>ZV]
|vfn=>_[pd Y3 U7 zkA][YS=CV]
|vfo=>_[Ty O Y.O R Y.Er] TL
|vcb=>_ Á hR
|vcc=>_ Ï l5
|vcd=>_ Ö SW
|vce=>_ vbh Sw
|vcf=>_ Ć ?_
|vcZ=>_ Ě T.nW
|vcg=>_ ė zW
|vch=>_ ý vcn hk
|vfp=>_ vbJ[λ c o n e=>?_]
|vc0=>_ t.tb t.one t.le
|vci=>_ q1 q2 q3 q4
|vfq=>_ rfl (a,vbp)
|vfr=>_ rfl[zu SI hC1 hw1]
|vfs=>_ qX[zc u ru rv.one]
|vbr=>_ p dx co wt
|vbs=>_ d Á
|vfu=>_[ht _ _[Az z]][Et z]
|vbu=>_ h3 h4
|vbv=>_ W _S
|vbw=>_ v e1 i j e2 e3
|vfv=>_ I.stack I.stkFree
|vfw=>_ I.ok.has I.ok.cab
|vbx=>_ rm ?_
|vdy=>_ tT[UV t nt]
|vfx=>_ (_,_,Po) (_,_,Na)
|vfy=>_[Ga[JN Yv x9k]] _x
|vfz=>_[wY[t+1]][HX[t+9]+3]
|vfA=>_ R0.nM[xvm _ _ _ _]
|vfB=>_ Ė[Xm npx[Fp hp]]
|vfC=>_[(j,vbP)=xok he][(w,ew,rw')=r.get h2][Ty zjJ hn xwR]
|vby=>_ Ŷ C
|vdz=>_ vdw[uU hbS]
|vfD=>_ π[Ty TB Z.T zhw]
|vfE=>_ Z.nG[xkp _ _ _ _]
|vfF=>_ m (va1,ho,r)
|vfG=>_[zc d q q1][EL zqz]
|vfI=>_ xB1[uo b z z xPe]
|vfJ=>_[ze p ys hq q][zc u rx xKL] qX
|vfK=>_[ka zbS rx xKL] qX
|vfL=>_[hi=x90][Uv ys zq1]
|vfM=>_[iP zoq JA zqn] hk
|vfN=>_[xO q3 znQ][Gj zkD]
|vfO=>_ Z.nB[xrd _ _ _ _]
|vfP=>_ Z.nM[xvm _ _ _ _]
|vfQ=>_[Ds Z.X][BO Ch zf5]
namespace NL
inductive E where
 |v (i:Nat)
 |n (k:Nat)
 |a (x y:E)
 |m (k:Nat) (x:E)
 |w (x:E) (k:Nat)
def At:LE->Ea
 | [],_=>0
 |x::_,0=>x
 |_::l,i+1=>At l i
def E.d (c:LE):qy E
 | .v i=>xOp i
 | .n k=>k
 | .a x y=>nV+xI6
 | .m k x=>k*nV
 | .w x k=>nV*k
def E.k:qy E
 | .v _=>0
 | .n k=>k
 | .a x y=>x.k+y.k
 | .m k x=>k*x.k
 | .w x k=>x.k*k
def E.p (j:Nat):qy E
 | .v i=>DM i j 1 0
 | .n _=>0
 | .a x y=>xI7+y.p j
 | .m k x=>k*xI7
 | .w x k=>xI7*k
def dot (c:LE)(f:Ea):Ea
 |0=>0
 |i+1=>dot c f i+f i*xOp i
theorem xjF:∀(c:LE) (i:Nat),HE c.length->xOp i=0
 | [],_,_=>rfl
 |_::_,0,h=>absurd h[ic[MN _]]
 |_::l,i+1,h=>xjF l i[M0 h]
theorem xoJ (c)(f g:Ea):∀N,xDA[f j+g j]=xTi+xNU g
 |0=>rfl
 |N+1=>by
  show xDA[f j+g j]+(f N+g N)*xLa=_;show Jm[xoJ c f g N] NI Nat.add_add_add_comm
theorem xof (c)(k:Nat)(f:Ea):∀N,xDA[k*f j]=k*xTi
 |0=>rfl
 |N+1=>EU[xDA[k*f j]+k*f N*xLa=k*(xTi+f N*xLa)][xof c k f N] NK Lh
theorem xme (c)(k:Nat)(f:Ea):∀N,xDA[f j*k]=xTi*k
 |0=>(OK k).symm
 |N+1=>EU[xDA[f j*k]+f N*k*xLa=(xTi+f N*xLa)*k][xme c k f N] NI Nat.mul_right_comm
theorem xmG (c):∀N,xNU ygd=0
 |0=>rfl
 |N+1=>et[xNU ygd+0*xLa=0][xmG c N] OK
theorem xoK (c)(i):∀N,xDA[DM i j 1 0]=xZh[i<N][xOp i]
 |0=>rfl
 |N+1=>by
  show yM[xDA[DM i j 1 0]+(DM i N 1 0)*xLa=_][xoK c i N];rcases QW i N with h|h|h
  ·show zm[Kq h][Kh[Lc h]] OK[Kq[OU h]]
  ·subst h;rw [Kh xM4,Cm,Nat.one_mul,Kq xHE,Lr]
  ·rw [Kh[Nat.lt_asymm h],Kh[LJ h],OK,Kh[jr h]]
theorem E.sum (c:LE):∀x:E,nV=x.k+x1f xI7
 | .v i=>by
  show et[xOp i=0+x1f[DM i j 1 0]] xoK Lr;by_cases h:i<c.length
  ·show CD h
  ·show pJ h[xjF c i[xLQ h]]
 | .n k=>gK[k=k+dot c ygd c.length] xmG
 | .a x y=>by
  show nV+xI6=x.k+y.k+x1f[xI7+y.p j];rw [xN6 x,xN6 y,xoJ,Nat.add_add_add_comm]
 | .m k x=>EU[k*nV=k*x.k+x1f[k*xI7]][xN6 x] xof NK
 | .w x k=>EU[nV*k=x.k*k+x1f[xI7*k]][xN6 x] xme NI
def le (x y:E):x7f
 |0=>Nat.ble x.k y.k
 |i+1=>le x y i&&Nat.ble[x.p i][y.p i]
theorem xji (c)(f g:Ea):∀N,xAt[i<N->f i≤g i]->xTi≤xNU g
 |0,_=>ρ
 |N+1,h=>JN[xji c f g N λ i hi=>h i[OU hi]][Qo _[h N[My N]]]
theorem Fk (x y:E):∀N,WF[le x y N]->x.k≤y.k/\∀i,i<N->x.p i≤y.p i
 |0,h=>(K3 h,uo Ď hi[Qx i])
 |N+1,h=>by
  show((h:JL[le x y N&&Nat.ble[x.p N][y.p N]])=h,Ir OD,xWA h1[Fk x y N Gl],EJ h1[UV Ď],Vv i N)
  ·exact h2 i q
  ·show Sc[JS[LQ hi] q][K3 o4]
theorem E.le (c:LE)(x y:E)(h:WF[xVB x y]):nV≤xI6:=by
 show([xN6 x,xN6 y],JI Ç[Fk x y _ h][x0G[xji c _ _ _ h2]])
def by' (c:LE)(l r x y:E)(h:l.d c≤r.d c)(k:WF[xVB[.a x r][.a y l]]):nV≤xI6:=
 QJ[JW[x9a[.a x r][.a y l] k][Nv h _]]
def xeJ (k:Nat)(c:LE)(l r x y:E)(h:l.d c≤r.d c)(q:WF[xVB znG]):nV≤xI6:=by
 show(Θ h2[QJ[JW[x9a znG q][Nv h _]]] h3[k*nV<k*(xI6+1)] h2,LQ[Nat.lt_of_mul_lt_mul_left h3])
def of0 (c:LE)(x y:E)(k:WF[xVB x y]):nV≤xI6:=x9a x y k
def no (c:LE)(l r:E)(h:l.d c≤r.d c)(k:WF[xVB[Ar r] l]):False:=
 xM4[Kw h[x9a[Ar r] l k]]
def xeP (a b:Nat):a≤a-b+b:=by
 show iw[P9 b a] h
 ·show Sc[Of h] ρ
 ·exact JW h xDD
def K' {a b:Nat}(h:b≤a):a-b+b≤a:=JQ[Of h]
def xeM (a k:Nat)(h:WF[Nat.blt 0 k]):a+1≤k*(a/k)+k:=by
 show(oO[Lu a k][K7 a (K3 h:0<k)],[-Nat.succ_eq_add_one,-h1],Sc h1[J6[Kw[JQ h1.symm][Nq h2 _]] ρ])
universe NL
def Z9 {p:Prop}(h:p:=by decide):p:=h
def Z8 {p:Prop}(h:p:=by decide+kernel):p:=h
def Z7 {p:Prop}(h:p:=by rfl):p:=h
def Z6 {p:Prop}(h:p:=by simp):p:=h
def Z5 {p:Prop}(h:p:=by lia):p:=h
def Z4 {p:Prop}(h:p:=by omega):p:=h
def xfx {p:Prop}(h:p:=by show Lv;rfl):p:=h
def xfy {p:Prop}(h:p:=by first|(left;rfl)|(right;rfl)|assumption):p:=h
def xe0 {p:Prop}(h:p:=by intro _ _ _ _ h;(repeat obtain⟨_,h⟩:=h)<;>subst_vars<;>rfl):p:=h
def xfw {p:Prop}(h:p:=by first|(left;rfl)|(right;left;rfl)|(right;right;rfl)):p:=h
def xlZ:=xfw._auto_1
def xe1:=Z7._auto_1
def xfr:=Z9._auto_1
def xfs:=Z8._auto_1
def xft:=xfx._auto_1
def xfu:=xfy._auto_1
def xfv:=xe0._auto_1
namespace QQ
open PySem PyProof.Rows
def Cx2 (h:RI)(a:RA)(vs:ZR):Prop:=xMZ vs 2\/∃b ob us,vs[2]?=υ b/\b≠a/\yC b ob/\ob.data=xV7/\6≤us.size/\xMZ us 2
def xzg (A:RH)(h:RI):Prop:=ydv\/∃a o vs,A.handled=Cs/\xHf=LT/\xQJ/\xEH/\Cx2 h a vs
def xzg.keep {A:RH}{h h':RI}(q:xzg A h)(k:∀a o vs,xHf=LT->xQJ->xEH->h'.get? a=LT):xzg A h':=by
 rcases q with q|⟨a,o,vs,e,g,d,z,c⟩
 ·show DD q
 ·show xXG (a,o,vs,e,k a o vs g d z,d,z,?_);rcases c with c|⟨b,ob,us,e1,n,e2,e3,e4,e5⟩
  ·show DD c
  ·show Dr (b,ob,us,e1,n,xDq us e2 e3 e4,e3,e4,e5)
def xnr:UF[entryFor table "proto.unchain"] Builtin.«proto.unchain»:=entryFor_of_fast[by kernel_rfl]
def xgX (hq:xzg A h0)(hk:∀b o,h0.get? b=LT->CR=LT/\Zx)(he:IS e oe)(hd:oe.data=xUO)(hz:2<vs.size)
  (h:∀h' o',Xn e o'->o'.cls=oe.cls->xUS e h'->x2t e tV):yk (raiseNew zD:Sem α):=by
 show iu raiseNew[wpAny_handled ?_];rcases hq with q|⟨a,o,us,ea,ga,da,zz,za⟩
 ·show Sc q[xIw[wpAny_throw[h s.heap oe he rfl[Heap.SameBut.refl ..]]]]
 ·show([ea],xOm ga nae[hk a o ga] ne[JL[JF !=ydR]][by simp [bne,nae]],ZO _[EB[JF !=ydR] _ _] _,CD ne,SL fin[yk[updateField e 2 Aj>>= λ _=>throw zD]][by
   show(Du (Ny he hd hz ?_:wpAny _ _[setField zD 2 Aj] _ _ s),wpAny_throw[wK[MO _ he[ND[MZ hd _]]][Obj.cls_mapFields _ _][Pe ..]])][xPC[wpAny_runValue[PK xnr ?_]]],uM[field Aj 2>>= _]);rcases za with za|⟨b,ob,vb,eb,nb,gb,db,sz,zb⟩
  ·show(xBT ga da za,veo,fin)
  ·show((gb,nbe)=hk b ob gb,xBT ga da eb,SB n1[A2[xA9 b]] rfl n2[o9 xMN ydR][by simp [nbe]],(n3:o9 xMN JF)=by simp [nb])
   simp only [n1,n2,n3,Mt,OR];show(Du[Kn[Kn (Code.quiet_builtin _ Z8,PK xnr ?_)]],uM[field VX 2>>= _],xBT gb db zb,veo,fin)
def xl7 {prog:RE}(hq:xEI)
  (h:∀h' e,(∀b o,CR=LT->mZ=LT)->EO zo9->E' zD tV):
  aY[newExc x2S []>>= λ v=>(raiseNew v:Sem α)] R E' s:=by
 show Du ?_;simp only [newExc,newTuple];show(vt[NV zsN][ydG[by first|rfl|(simp only [firstArgMember];rfl)]],NV zsN,SL k2[∀b o,CR=LT->xH5[(xLL "tuple"[xBb ([]:DC)]).push[x2G "StopIteration"[#[i6,.none,.none,.none,.bool false,.none]++ownMembersOf x2S []]]]=LT][λ b o e=>tU yK][xgX hq[λ b o e=>yb[k2 b o e]] Bb rfl[Sc Array.size_append[J6[show 2<6 by decide] gk]] λ h' o' ge ce sb=>?_])
 ·show(vj,vel)
 ·show(xSe _[λ b o e=>ydS o oM[k2 b o e]] (o',ge,ce),vel)
def xsa {h:RI}(g:h.get? it=LT)(d:xQJ)(z:vs.size<6)(g':qV o')(d':o'.data=xV7)(z':6≤us.size):a≠it:=by
 show(mD,A8 g g' g',A8 d d' d',Au[aX C4[D8 Tm 6][Xj 6] z z'])
def list_end_q {items}(hq:xEI)
  (hit:ybR l i) (hl:ycd l) (hx:Ω items[i]?)
  (hQ:xAA[x1A->x9L tV]):yk xV6:=by
 show((o,ho,hc,hd)=x9b,(ol,hol,_,nl,hdl)=hl,x9u[OA[ycX zr5]],veL,vd4,veQ,veD,vdM)
def xhg {items}(hq:xEI)
  (hit:s.heap.IsTupleIter it t i) (ht:s.heap.IsTuple t items) (hx:Ω items[i]?)
  (hQ:xAA[x1A->x9L tV]):yk xV6:=by
 show((o,ho,hc,hd)=x9b,(ol,hol,_,nl,hdl)=ht,x9u[OA[ycX F.slot_tuple_iterator_next[N8 F.slot_tuple_iterator_next hit.typeIs F.entry_tuple_iterator_next ?_[F.args_tuple_iterator_next_1 _]]]],uM[xxL 0>>= _],xAc zbK[EB[xA9 t] _ _],wG[xZ1[JL[xA9 t]] KF],uM[xxL 1>>= _],xAc zbK[xNm yd _],vdL,veD,vdM)
def xkf {x left step:Int}(hq:xEI)(hit:xVn s.heap x left step)(hleft:left≤0)
  (hQ:xAA[x1A->x9L tV]):yk xV6:=by
 show((hT:s.TypeIs fj "range_iterator")=xxu hit,x9u[OA[MU hT F.slot_range_iterator_next[N8 F.slot_range_iterator_next hT F.entry_range_iterator_next ?_[F.args_range_iterator_next_1 _]]]],uM[xxL 0>>= _],xAc hit rfl[xxL 1>>= _],xAc hit rfl[xxL 2>>= _],xAc hit rfl[if left≤0 then _ else _],CD hleft,nz[Ot[JV ?_]][xl7 hq λ h' e k z9=>?_],x6e o' ge ce,Du[x3o zjz],UN[hQ _ λ b ob hb e1=>xDq e1])
def xgs (hq:xEI)(ht:x8C t)
  (hQ:xAA[yj2 h'->Q items.toList tV]):yk[unpackItems yd items.size none]:=by
 show((nt:xF4 t)=xVG ž ht[Lc[KJ ho]],iu unpackItems ?_,iu notIterableAtAll[wpAny_specialOf ht.typeIs slot_tuple_iter.lookup yu],x5C Mt OR[L9[iter_tuple ht[xPC[draw_tuple nt items.size 0 _ _[zP _ Bb][ht.push _][xLY DN][Ο g1 i1 b1]]]]],[show List.take items.size[List.drop 0 items.toList]=items.toList by show Sc MR xZ2,Kh Z6],SB k1[∀b o,xF4 b->CR=LT->g1.get? b=LT][λ b o hb e=>b1.extBut b o hb yK] q1[xzg A g1][hq.keep λ a o _ e _ _=>k1 a o xYu e],SL t1[IsTup g1 t items][(ht.push _).extBut b1.extBut nt][xPC[xhg q1[show g1.IsTupleIter _ t _ from i1][show g1.IsTuple t items from t1] Z6[UV g2 x2]]]);simp only [Option.isSome_none,Mt,OR];show UN[hQ g2 λ b o hb e=>x2 b o hb[k1 b o hb e]]
def xe2 {x1}(hq:xEI)(ht:x8C t)
  (hn:BF[yk2 env] items.size) (hstar:Ω ((yk2 env).findIdx? (·.1)))
  (h:xAA (yj2 h'->xGV (assignInOrder ((assignEach elts env).map (·.2)) items.toList) tV)):
  yk[assign[.Tuple elts x1 pos] env yd]:=by
 show jR assign_Tuple[wpAny_standAt ?_];unfold unpack;show Γ hn hstar[xPC[xgs hq ht h]]
def exO (cls:RC) (vs:ZR):RK:={cls:=cls,data:=xUO}
inductive FlyT (h:RI) (e:RA) (vs:ZR) (fp:Ξ):Prop
 |mk (T:RA) (oT:RK) (ts:ZR) (h1:vs[1]?=υ T) (ne:T≠e) (gT:yC T oT) (dT:oT.data=x4F) (zT:xMZ ts 3) (r:fp=[e,T]):FlyT h e vs fp
inductive FlyI (h:RI) (e:RA) (cls:RC) (fp:Ξ) (c:RC):Prop
 |mk (vs:ZR) (he:yC e xIb) (h2:xFx 2 c/\xEH) (hf:(xMZ vs 1/\fp=[e])\/FlyT h e vs fp):FlyI h _A fp c
def Fly (h:RI)(e:RA)(cls:RC)(fp:Ξ)(c:RC):Prop:=FlyI h _A fp c
def Fly.here {h:RI}(F:x1R h fp c):e∈fp:=by
 obtain⟨vs,_,_,⟨_,r⟩|⟨T,oT,ts,_,_,_,_,_,r⟩⟩:=F<;>simp [r]
def Fly.rec {h:RI}(F:x1R h fp c):x6[∃o vs,zM=LT/\xQJ]:=by
 obtain⟨vs,g,z,⟨a,r⟩|⟨T,oT,ts,a,ne,gT,dT,zT,r⟩⟩:=F
 ·intro b hb;rw [r,KD] at hb;show FU hb[xDS vs g]
 ·intro b hb;show(xHK r,lh _J)
  ·clear fp c z a ne zT r;show FU hb[xDS vs g]
  ·show xHK KD;clear a ne r;show FU hb (oT,ts,gT,dT)
def Fly.made {h h':RI}(m:Heap.MadeExcOf h h' _A args):x1S [e] .none:=xVG t ht m.there[Vr ht[Fw[d6[rV 6≤6]]] yha]
def xpX
    (hfr:x49 xIo) (hl:x2T xIo) (hf:yfq L)
    (he:IS e xIb) (h1:1<vs.size) (h2:xFx 2 c/\xEH)
    (h:∀h' T,x1S [e,T] c->xAQ T->(∀b o,s.heap.get? b=some o->b≠e->b∉(env::outer).filterMap (·.frame)->h'.get? b=some o)->
      (∀b o,CR=LT->Zx->xTg)->x0Y):
    xy7[do let a<-frameOf env;let pl<-entryPlaceOf L had;let b<-EntryCells.newEntry head a .none x5w .none pl;setField zD 1 b] zoj:=by
  show((ne:e∉(xIo).filterMap (·.frame))=λ hm=>by
    show((_,o,ho,hnf)=hl.mem hm,A8 he ho ho,hnf vs rfl),vt[wpAny_frameOf_fun hfr hl hf[UV g1 s1]][wpAny_entryPlaceOf[UV pl T6]])
  unfold EntryCells.newEntry newFields
  show(Du[NV ?_[T6.sizeOk5 _ _ _ _ _]],SB hsz[xVb g1.objs.size] s1.1 he1[UF[g1.get? e] xIb][(Az s1 e ne).trans he])
  generalize hO:({cls:=.type "traceback",dict:=none,data:=.fields[x9X [head,.ref L,.none,x5w,.none][ug pl.isEmpty[List.replicate 6 Value.none] pl]]}:RK)=oT
  show SB e3[∃ts,oT.data=x4F/\3<ts.size][De[by rw [<-hO]][by simp only [Ko,JP,Ki,ON];show Au[Hj[Ar D2][Um[Ar[Ar[Ar Ep]]] SZ]]]] hfreed[A2 oT.isFreed][x7q hO]
  clear hO
  show((ts,WM,hz3)=e3,SB he2[ZS[g1.push oT] e xIb][tU he1] hT2[ZS[g1.push oT] g1.objs.size oT][K1 g1 hfreed],SL hTe[g1.objs.size≠e][LJ[KJ he1]][Ny he2 rfl h1 ?_],Ty he3 (MO (Obj.mapFields (·.setIfInBounds zfi)) he2 rfl) hT3 ((Lz[g1.push oT] (Obj.mapFields (·.setIfInBounds zfi))[NB hTe]).trans hT2),(he3':ZS ((g1.push oT).update e (Obj.mapFields (·.setIfInBounds zfi))) e[exO cls[yj9 ybB]])=he3,yhH[LP he3' rfl (x:=.ref g1.objs.size) (by simp [h1]) ?_],Ζ[Kq[oF[ybB !=Value.none][by simp]]][Ny hT3 WM hz3 ?_],SL keep (∀b o,Zx->g1.get? b=LT->xH5 (((g1.push oT).update e (Obj.mapFields (·.setIfInBounds zfi))).update g1.objs.size (Obj.mapFields (·.setIfInBounds 3[(none:Option RA).elim Value.none λ f=>rawInt f])))=LT)[λ b o hb q=>Γ[xXQ[LJ[KJ q]]] xII eO][o6 g1.objs.size (yj9 ybB,à,.inr (g1.objs.size,_,_,?_,hTe,MO _ hT3[ND[MZ WM _]],MZ WM _,?_,rfl)) xMJ[λ b o q hb hn=>?_] λ b o q hb=>?_])
  · show Sc[xXQ hTe] he3'
  · show Γ[Array.getElem?_setIfInBounds_ne[by decide]] Pi h2
  · simp [h1]
  · simp [hz3]
  · exact xOS o hb[x2C[Az s1 b hn]]
  · show vI sl e'[Et s1 b o q] sl[xOS _ hb e']
def xqz
  (hfr:x49 xIo) (hl:x2T xIo) (hf:yfq L) (F:x1R s.heap fp c)
  (h:∀h' T,x1S [e,T] c->xAQ T->(∀b o,s.heap.get? b=some o->b∉fp->b∉(env::outer).filterMap (·.frame)->h'.get? b=some o)->
   (∀b o,CR=LT->b∉fp->xTg)->(∀b o,CR=LT->xEg)->x0Y):
  xy7[noteFrame zD env] zoj:=by
 obtain⟨vs,he,h2,⟨h1,r⟩|⟨T,oT,ts,h1,ne,gT,dT,zT,r⟩⟩:=F
 ·subst r;show(vdt,Ζ x8X[xpX hfr hl hf he[x3V h1] h2 λ h' T' f1 f2 f3 f4=>xSe T' f1 f2[λ b o q hb hn=>f3 b o zfx hn][λ b o q hb=>xTU zfx][yh b o]])
  by_cases hb:b=e
  ·show yez g' f1;clear hf_1;show(xWE,Qt g')
  ·show vI sl e'[xTU q hb] _ e'
 ·subst r;show(vdt,J' zhd,jR[Kh[xZ1[JL[Value.none==x5w]][by simp [rawInt]]]][Ny zcQ x8J ?_],(U6:∀b,PO->yiz b=CR)=CG xII,Θ gT'[yiJ gT x85] zl1[λ b o q nf z=>by
   show(Ek gT q q,nf ts dT)],SL sz[xVb yiw] yjf[xpX zlq hf znd h2
   λ h' T' f1 f2 f3 f4=>xSe T' f1[A3 sz f2 f2] zpc])
  ·show(Df b1 b e zfs zft,f3 b o zfR hn)
  ·show(Df b1 b e zfs zft,xTU zfR)
  ·by_cases hb:b=e
   ·show yez g' f1;clear he ne h f3 hf_1;show(xWE,Qt g')
   ·by_cases hT:b=T
    ·clear h1 ne gT h nT sz f2 f3;subst hT;show vI sl zr6 _ e'
    ·show vI sl zpV _ e'
def xgI (F:x1R s.heap [e,T] c)
  (h:xAA[x1S [e,T] c->(∀b o,CR=LT->PO->mZ=LT)->x0Y]):xAx[x3W zD]:=by
 obtain⟨vs,he,h2,⟨h1,r⟩|⟨T',oT,ts,h1,ne,gT,dT,zT,r⟩⟩:=F
 ·show xKe
 ·show(xKe,vew,ω z3 x8J[Ny zcQ z3[o6 (vs,?_,h2,.inr (T,_,_,h1,ne,MO _ gT x85,ygb,by simp [z3],rfl)) λ b o q hb=>?_]])
  ·show Sc[xXQ ne] he
  ·show Sc xII q
universe QQ
namespace L2
open PySem PySem.Spec PyProof.Rows
abbrev Key:=Sum Int Str
def xzo:Key->xx5 RC
 | .inl k,v=>Value.isInt k v
 | .inr x,v=>Value.isStrOf x v
def xeI (w:RF):Key->Int
 | .inl k=>hashInt k
 | .inr x=>hashStr w x
theorem cy:gL k v[WF[xzo k v]][(∃i t,k=Sum.inl i/\v=xGG i)\/(∃x t,k=Sum.inr x/\v=xWd x)]
 | .inl i,v,h=>JI t e[Value.isInt_shape h][.inl[JH i t e]]
 | .inr x,v,h=>JI t e[Value.isStrOf_shape h][.inr[JH x t e]]
def xh7 (i)(t):WF[xzo[.inl i] vi]:=by simp [xzo,Value.isInt]
def xia (x)(t):WF[xzo x6P[BX t]]:=by simp [xzo,Value.isStrOf]
def xdL (a b):D3 (yfw:Key) yfx=(a==b):=by
 by_cases e:a=b
 ·show DX;simp
 ·show((h:¬(yfw:Key)=yfx)=Ei[e[Sum.inl.inj q]],xKT h (N4.mpr e).symm)
def xdJ (a b):D3 (yfy:Key) yfz=D3 a b:=by
 by_cases e:a=b
 ·show DX;simp
 ·show((h:¬(yfy:Key)=yfz)=Ei[e[Sum.inr.inj q]],[LL h,LL e])
def FM (a)(b):A2[D3 (yfw:Key) yfz]:=LL[Ei[nomatch q]]
def xdb (a)(b):A2[D3 (yfy:Key) yfx]:=LL[Ei[nomatch q]]
def xyh (prog) (w):PySem.KeyKind zb5 Key where
 is:=xzo
 hash:=xeI w
 inj:=λ v a b ha hb=>by
  show xAX[cy ha] i t rfl x t Ð
  ·show xAX[cy hb] j u e y zbS e
   ·show(xG1 e e1,CS)
   ·show xXj e
  ·show xAX[cy hb] j u e y zbS e
   ·show xXj e
   ·show(xG1 e e1,CS)
 byValue:=λ k v h=>by
  rcases cy h with⟨i,t,rfl,rfl⟩|⟨x,t,rfl,rfl⟩<;>rfl
 pyHash:=λ hv h=>by
  show xAX[cy hv] i t rfl x t Ð
  ·exact wpAny_pyHash_int h
  ·exact wpAny_pyHash_str h
 eqBool:=λ hu hv h=>by
  show xAX[cy hu] i t rfl x t Ð
  ·show xAX[cy hv] j zbS y u Ð
   ·show A3 xdL h[wpAny_eqBool_int h]
   ·show A3 FM h[SeqAt.EqAt.int_str i t y u _ _ _ _ h]
  ·show xAX[cy hv] j zbS y u Ð
   ·show A3 xdb h[SeqAt.EqAt.str_int x t j u _ _ _ _ h]
   ·show A3 xdJ h[wpAny_eqBool_str h]
 «strs»:=λ k x t v h=>by
  show xAX[cy h] i u e y zbS e
  ·show xXj e
  ·show xG1 e e1
   clear h;show uK;cases v<;>rfl
def xf8 (prog)(w)(i)(t):WF[(xyh zb5).is[.inl i] vi]:=xh7 i t
def xf4 (prog)(w)(x)(t):WF[(xyh zb5).is x6P[BX t]]:=xia x t
def RelV:V->xyQ
 | .non,u=>u=Value.none
 | .bl b,u=>u=ymU
 | .int i,u=>JM[u=xGG i]
 | .str x,u=>JM[u=xWd x]
 | .byt b,u=>JM[u=yl2 t]
 | .flt b,u=>JM[u=yei b]
 | .ref a,u=>u=JF
 | .ty n,u=>u=ymV
abbrev Vals:dS SC DC:=Paired RelV
theorem Vals.length (r:zK):xXc us.length:=Oz r
theorem Vals.get:∀{xs} {us} {i:Nat} {x},zK->uG->∃u,B8 us u/\mf
 |_,_,_,_,.nil,e=>xYQ
 |_,_,0,_,.cons r _,e=>by show(xYQ,A6[AK r])
 |_,_,i+1,x,.cons _ t,e=>BI u Ç[Vals.get t xNa] u xBg h2
theorem Vals.set (r:mf):∀{xs} {us} i,zK->Vals[xs.set i x][us.set i u]
 |_,_,_,.nil=>.nil
 |_,_,0,.cons _ t=>.cons r t
 |_,_,i+1,.cons q t=>.cons q[Vals.set r i t]
def Vals.append (h:zK)(s:yic ws):Vals[xs++ys][us++ws]:=by
 induction h with
 |nil=>exact s
 |cons r _ ih=>show xj r
theorem Vals.take (n)(h:zK):Vals[xs.take n][us.take n]:=by
 induction h generalizing n with
 |nil=>cases n<;>exact .nil
 |cons r _ ih=>cases n with
  |zero=>show zG
  |succ n=>exact .cons r[ih n]
theorem Vals.drop:∀{xs} {us} n,zK->Vals[xs.drop n][us.drop n]
 |_,_,0,r=>r
 |_,_,_+1,.nil=>.nil
 |_,_,n+1,.cons _ t=>Vals.drop n t
def UC:dS EE xUp
 |some v,some u=>fz
 |none,none=>True
 |_,_=>False
def KV:dS xy0[rW κ RC]:=Paired λ(p:κ×V) (q:κ×RC)=>Bt=Dw/\yie IL
def kV:Key->V
 | .inl i=>HR
 | .inr x=>BX
inductive HO where
  |lst (xs:SC)
  |tup (xs:SC)
  |dK (Sa:xO9)|dT (Sa:xQN)
  |set (S:xx5 Int) (n:Nat)
  |ins (C dx:RA) (fs:yn)
  |own (x:RA)
  |xd (fs:yn)
  |met (f x:RA)
  |rng (lo hi:Int)
  |frz (o:RK) (u:HO)
  |tbl (ps:ZR)
  |ext (φ:Fy RI)
abbrev Hp:=RA->Option HO
def upd (H:Hp) (a:RA) (o:HO):Hp:=xFG[DM b a LT Gk]
def ae {H:Hp}:xDF a=LT:=Hf upd Cm
def ak {H:Hp}(h:b≠a):xDF b=Gk:=Hf upd[Kh h]
def eQ {H:Hp}{a:RA}{o u:HO}:upd xDF a u=xHP u:=by
 funext b;unfold upd;split<;>rfl
def aN {H:Hp}(h:Α=LT)(h':xR4)(d:o≠u):a≠b:=by
 intro e;show(DX,A3 h h'[d[Kr h']])
def ai {H:Hp}(h:Α=LT)(h':Ic):a≠b:=by
 intro e;show(DX,A8 h h' h')
section
variable (P:RE)(w:RF)
def xuH (H:Hp)(h:RI)(a:RA):Fy HO
 | .lst xs=>nQ/\∃its n,xDj/\qV xI3
 | .tup xs=>nQ/\∃its,xDj/\IsTup h zje
 | .dK Sa=>xGq/\xLc/\∃vs,xy2/\yge P w a vs
 | .dT Sa=>xGq/\xLc/\xAC (Paired[λ p q=>Bt=Dw/\E2[Az q][xY9 Bt]/\yie[Et q]] Sa xs/\
   ∃o es ep,xHf=LT/\o.ExactDict/\xxS[x7J es]/\es.toList=xs.map[entryOfKey[xVD P w]]/\(xs.map (·.1)).Nodup)
 | .set S n=>h.SetOf[intKind P w] a S n
 | .ins C dx fs=>xx2 dx a/\ynA/\dx≠a/\qV[yfM dx]/\
   ∃mA,x7K dx/\EG zsO/\yki
 | .own _=>∃o,xHf=LT
 | .xd fs=>∃mA,x7K a/\∀f,UC xVx[mA f]
 | .rng ú=>∃t u v,qV[xWK #[xQt,xTf,xTo]]
 | .frz o u=>xHf=LT/\xuH H h a u
 | .tbl ps=>qV[ycM .none ps]
 | .met f x=>qV[ydw Dh]
 | .ext φ=>φ h/\EO o[xHf=LT]/\∀h1 h2,φ h1->EG o[h1.get? a=LT->h2.get? a=LT]->φ h2
def xyn (H:Hp)(h:RI):Prop:=∀a o,Α=LT->jX o
universe s
section
variable {P:RE}{w:RF}{H H':Hp}{h h':RI}{a:RA}{o:HO}
theorem xuH.lt (x:jX o):ycY a:=by
 cases o with
 |lst xs=>show(ymW x,SE)
 |tup xs=>show xF0 p x p.lt
 |dK Sa=>show(x2R e x,SE)
 |dT Sa=>show(x2R e x,SE)
 |set S n=>show((o,_,_,_,e,_)=x,SE)
 |ins C dx fs=>show(yce x,SE)
 |own y=>show((_,e)=x,SE)
 |xd fs=>show(yjx x,SE)
 |rng lo hi=>show xF0 e x cW
 |frz ob u=>show((e,_)=x,SE)
 |tbl ps=>exact KJ[yai _ x]
 |met f y=>exact KJ[yai _ x]
 |ext φ=>show((_,(_,e),_)=x,SE)
def Paired.mapP {l₁:FO}{l₂:yhM}(h:Paired F l₁ l₂)(f:∀a b,F a b->G a b):Paired G l₁ l₂:=by
 induction h with
 |nil=>show zG
 |cons r _ ih=>show xj[f _ _ r]
def xuH.stay (x:jX o)(k:∀b u,(b=a\/xx2 b a)->xLw->lL)
  (ho:∀b,xx2 b a->xEe[.own a]) (ht:∀b xs,E2 b xs->aZ Xp):xHC H' h' a o:=by
 induction o with
 |lst xs=>show F7 zc7 e x (z,its,n,r,qb)
 |tup xs=>show xxx z its r ob e c x (z,its,r,ob,qb,c)
 |dK Sa=>show((z,y,vs,r,ob,d_,e,c)=x,(z,y,vs,r,ob,d_,qb,c))
 |dT Sa=>
  show((z,y,xs,r,ob,d_,e,c)=x,(z,y,xs,Paired.mapP r λ p q z=>(gA,vfu),ob,d_,qb,c))
 |set S n=>show xxx ob es ep t e c x (ob,d_,t,qb,c)
 |ins C dx fs=>
  show((d,z,ne,e,mA,(od,d_,e2,c),r)=x,(ho _ d,z,ne,qb,mA,(od,d_,Yq[.inr d] e2,c),r))
 |own y=>show vI ob e x ob qb
 |xd fs=>show((mA,(od,d_,e,c),r)=x,Ef mA (od,d_,qb,c) r)
 |rng lo hi=>show Dj t u v e x (t,u,v,qb)
 |frz ob u ih=>show vI e q x qb[ih q]
 |tbl ps=>
  show(Bj[qV[ycM .none ps]] x,gY[Xn a[ycM .none ps]][Fl a rh e])
 |met f y=>
  show(Bj[qV[ydw xCn]] x,gY[Xn a[ydw xCn]][Fl a rh e])
 |ext φ=>show((p,(o,e),st)=x,Ef[Xd p λ o q=>Yq rh q][x1Q qb] st)
theorem xyn.lt (x:oX)(e:Α=LT):ycY a:=(x a o e).lt
def xyn.fresh (x:oX)(e:yej a):xSv:=by
 cases q:Α with
 |none=>rfl
 |some u=>show lJ[J6[x.lt q] e]
def xyn.kept (x:oX)(k:∀b u,xLw->lL):xB2 H h':=λ a o e=>
 (x a o e).stay[λ b u _ q=>xK9 q] zeT
def xyn.laid (x:oX)(k:∀b u,xLw->lL)(hp:yej a)(new:xHC xDF h' a o):xB2 xDF h':=λ b u e=>by
 have hn:=x.fresh hp;by_cases hb:b=a
 ·show(CN hb ae e e,new)
 ·show A3 Yj e[(x b u e).stay[λ c v _ q=>k c v q][λ c q=>uC q hn q] λ c xs q=>uC q hn q]
universe s
def xkl (H:Hp)(a:RA)(u:HO):Prop:=dE u\/∃o,dE wA
def xkl.ok {P:RE}(r:xE7 u)(x:oX):jX u:=by
 rcases r with r|⟨o,r⟩
 ·exact x a u r
 ·show((_,q)=x a _ r,Ii)
def Mut:Fy[Option HO]
 |some[.lst _]=>True
 |some[.dK _]=>True
 |some[.dT _]=>True
 |some[.set _ _]=>True
 |some[.ins _ _ _]=>True
 |some[.ext _]=>True
 |_=>False
section
variable {P:RE}{w:RF}{H:Hp}{h h':RI}{x e:RA}{o':HO}
def xyn.write (ok:oX)(mu:Mut HH)(he:e=x\/xx2 e x)(k:∀b u,Zx->xLw->lL)(heo:∃u,Xn e u)
  (new:xHC[vD x o'] h' x o'):xB2[vD x o'] h':=λ b u q=>by
 show SB nown[∀c y,xx2 c y->Eu x][λ c y r z=>by show(Hq,A3 r mu mu)] ntup[∀c xs,aZ Μ->Eu x][λ c xs r z=>by show(Hq,A3 r mu mu)]
 by_cases hb:b=x
 ·show(CN hb ae q q,new)
 ·rw [Yj] at q;by_cases hbe:b=e
  ·show(HM[xx2 b x][by
    show HQ he
    ·show Dv[hbe.trans z] hb
    ·show Sc hbe z],A8 q zcR,vI v hv heo v[Sc hbe hv])
  ·show(Gj[(ok b u q).stay[λ c v hc r=>k c v ?_ r][λ c r=>Κ[nown c b r] r] λ c xs r=>Κ[ntup c xs r] r] q,xLP zcl)
   ·exact hbe
   ·show(mD,HQ he)
    ·exact nown c b hc z
    ·show(xm hc,hb rfl)
universe s
structure Un (fs ex:Ξ)(H H':Hp)(h h':RI):Prop where
 keep:∀b o,zM=LT->Ic->b∉fs->x01->mZ=LT
 slot:∀b o,zM=LT->Ic->b∈fs->x01->xTg
 free:∀b o,zM=LT->Ic->x01->xBS
 there:∀b o,zM=LT->x01->xEg
 tups:∀b xs,E2 b xs->aZ Xp
 frzs:∀b o u,HZ wA->xEe wA
 tbls:∀b ps,HZ xxN->∃more,xEe xZz
section
variable {fs fs' ex ex':Ξ}{H H1 H2:Hp}{h h1 h2 h':RI}{a x e:RA}{o:HO}
def Un.any (u:x1y H H1 h h1)(q:yC b ob)(n:Ic)(hx:x01):∃sl,UF[h1.get? b] {ob with slots:=sl}:=by
 by_cases hb:b∈fs
 ·exact u.slot b ob q n hb hx
 ·show AX ob.slots[ygI ob q n hb hx]
def Un.kept (k:∀b u,xLw->lL):x1y H H h h':=
 (λ b ob q _ _ _=>xDq q,λ b ob q _ _ _=>(ob.slots,xDq q),λ _ _ _ n _=>n,λ b ob q _=>(ob,xDq q),xDi,λ _ _ _ q=>q,λ _ ps q=>xOh[Dq q])
def Un.refl:x1y H H h h:=Un.kept xDi
def Un.laid (k:∀b u,xLw->lL)(hp:yej a)(hn:xSv):x1y H xDF h h' where
 keep:=λ b u q _ _ _=>xK9 q
 slot:=λ b u q _ _ _=>(u.slots,xK9 q)
 free:=λ b u q n _=>Κ[Lc[xIt q hp]] n
 there:=λ b u q _=>(u,xK9 q)
 tups:=λ b xs q=>uC q hn q
 frzs:=λ b u xs q=>uC q hn q
 tbls:=λ b ps q=>xOh[V5[xJI q hn] q]
def Un.write (mu:Mut HH)(he:e=x\/xx2 e x)(k:∀b u,Zx->xLw->lL)(heo:∃u,Xn e u):x1y H[vD x o] h h':=by
 show(SB hx[∀b,Ic->b≠x][λ b n z=>by show(Hq,A3 n mu mu)] hb[∀b,Ic->Zx][λ b n z=>by
  show Hq;rcases he with r|r
  ·exact hx b n r
  ·show A8 n r r],SL hm[∀b u,xR4->¬Mut[some u]->b≠x][λ b u q nm z=>by show(Hq,A3 q mu[nm mu])] (λ b u q n _ _=>xK9[qW n] q,λ b u q n _ _=>(u.slots,xK9[qW n] q),λ b u q n _=>Κ[hx b n] n,λ b u q _=>?_,λ b xs q=>Κ zrC,λ b u xs q=>Κ zrC,λ b ps q=>xOh[V5[ak[hm b _ q[TD z]]] q]))
 by_cases hbe:b=e
 ·show FU hbe heo
 ·show AX u[xK9 hbe q]
universe s
def trk (h:RI) (H:Hp):Ξ:=xw9 h.objs.size[λ a=>(Α).isSome]
def hidT (h:RI)(H:Hp):RI:=PySem.W.hideAll h[trk h H]
def xg2 (h)(H:Hp):(yaY).objs.size=h.objs.size:=PySem.W.hideAll_size _ _
def xaZ (e:zM=LT)(n:Ic):xH5 yaY=LT:=
 PySem.W.hideAll_get _ e λ hm=>by
  show yp q[nU Gk] (M7.mp hm).2 n q;simp at q
def xcy (e:xH5 yaY=LT):zM=LT/\Ic:=by
 show SL e'[zM=LT][PySem.W.of_hideAll[trk h H] e][yb e'];cases q:Gk with
 |none=>rfl
 |some x=>
  show(SB hm[b∈trk h H][M7.mpr (OG.mpr[KJ e'],by simp [q])] z[Ω[xH5 yaY]][PySem.W.hideAll_none[trk h H] hm],lK z)
structure Mod (K:Frag)(mg:Τ)(base:RI):Prop where
 kin:yfA
 glob:x0F
 blt:∃mb,base.Ns builtinsNs mb/\∀x:Str,xRv->mb x=ylV
 nolimit:base.NoLimit
structure Cx where
 prog:RE
 w:RF
 K:Frag
 mg:Τ
 base:RI
 A:RH
 N:C6
 s₀:RD
 H₀:Hp
 env:Env
 outer:uz
 stack:uz
 ex:Ξ
 fn:xA3 Bool
 calm:Bool
 pn:Χ
 xe:BQ
def BkH (H:Hp)(a:RA)(c:RC):Prop:=c=.none\/∃b ob us,c=VX/\b≠a/\HZ xHo/\ob.data=xV7/\6≤us.size/\xMZ us 2
def xqq (A:RH)(H:Hp):Prop:=ydv\/∃a o vs c,A.handled=Cs/\dE[xwX o a]/\xQJ/\(xFx 2 c/\xEH)/\xAe H a
def frs (l:uz):Ξ:=l.filterMap (·.frame)
abbrev Cx.fs (X:Cx):Ξ:=frs X.outer
def Vis (sc:Scope)(x:Str):Prop:=xUG x .local\/x8e x\/xUG x .free
def Loc (sc:Scope)(x:Str):Prop:=xUG x .local\/x8e x
def xeQ (env:Env)(h:RI)(m:Τ)(x:Str)(u:RC):Prop:=
 (UF ydi .local/\wX[m x])\/((xOf ydi\/x8G ydi)/\∃c,UF[env.cells.lookup x] c/\h.IsCell c[some u])
structure Cx.Ok (X:Cx):Prop where
 mod:Mod X.K zfU
 kind:ybz X.env.scope.kind
 glob:X.env.globals=mainGlobals
 blt:X.env.builtins=builtinsNs
 above:xAM X.env.locals
 inj:∀x y c,WE->ya6 y c->x=y
 has:∀x,(x3L x .cell\/x3L x .free)->∃c,WE
 cab:∀x c,xS4->WE->xAM c
 hd:xqq X.A X.H₀
 frames:yes X.stack
 stk:X.stack=X.outer\/(xZW/\xVg)
 exf:Eg X.ex[Fb/\∀x c,WE->pD]
 bs:∀b o,xMB=LT->i7=LT/\Ω ygJ
 bsz:X.base.objs.size≤X.s₀.heap.objs.size
 noex:∀b o,xMB=LT->xXN
 exfs:Eg X.ex xN4
 funs:yi2 X.outer
 frf:Eg X.fs[Ω ygJ]
structure Inv (X:Cx)(RN:Χ)(σ:x7e)(H:Hp)(s:RD):Prop where
 ok:X.Ok
 os:s.os=X.s₀.os
 bare:ylu
 base:Un X.fs X.ex X.H₀ H X.s₀.heap s.heap
 loc:∃m,ybF m/\jJ i x Str v V[xHJ->xMs yV->x3x x->∃u,fz/\xeQ X.env s.heap m x u]
 cell:∀x c,WE->∃v,ycs v
 free:Bf X.env.locals
 freeC:∀x c,WE->Bf c
 pin:jH xxZ[IS Bt Bm/\Bf Bt/\xUt Bt/\Bt∉X.fs/\∀v,(Bm).data≠ xHx]
 hok:ycN H s.heap
 len:σ.length=X.N.length
section
variable {X:Cx}{RN:Χ}{σ:x7e}{H H':Hp}{s:RD}{h':RI}
def Cx.Ok.nofr (ok:X.Ok){b:RA}{o:RK}(e:xMB=LT):xN4:=λ hb=>by
 have:=(ok.funs.mem hb).1;show yf zge
theorem Inv.bs (I:W1):∀b o,xMB=LT->CR=LT/\Ic:=λ b o e=>
 (xSS ya3.1 ya3.2[I.ok.nofr e][ydT o e],xUJ o ya3.1 ya3.2[ydT o e])
def Inv.bk (I:W1):∀b o,xMB=LT->CR=LT:=λ b o e=>(I.bs b o e).1
theorem Inv.mod (I:W1):Mod X.K zfU:=I.ok.mod
def BkH.keep {H H':Hp}{c:RC}(h:xAe H a)(k:∀b o u,HZ wA->xEe wA):xAe H' a:=by
 rcases h with h|⟨b,ob,us,e,n,g,r⟩
 ·show DD h
 ·show Dr (b,ob,us,e,n,Yq _ g,r)
def Inv.qt (I:W1):xqq X.A H:=by
 rcases I.ok.hd with q|⟨a,o,vs,c,e,f,d,z,b⟩
 ·show DD q
 ·show Dr (a,o,vs,c,e,yl3 _ _ f,d,z,b.keep I.base.frzs)
def Inv.hq (I:W1):QQ.xzg X.A s.heap:=by
 rcases I.qt with q|⟨a,o,vs,c,e,f,d,z,b⟩
 ·show DD q
 ·show((g,_)=mW a f,xXG (a,o,vs,e,g,d,Zs,?_));rcases b with b|⟨b,ob,us,e1,n,f1,r⟩
  ·show DD[(gA).trans[xxj b]]
  ·show((g1,_)=mW b f1,Dr (b,ob,us,(gA).trans[xxj e1],n,g1,r))
def Inv.kIn (I:W1):X.K.In s.heap:=I.ok.mod.kin.keeps I.bk
theorem Inv.lt (I:W1):xAY X.env.locals:=let(_,hn,_):=I.loc;hn.lt
def Inv.sz (I:W1):xAM s.heap.objs.size:=JW I.ok.above[Ks I.lt]
def Inv.nofs (I:W1){a:RA}(h:xAQ a):a∉X.fs:=λ hb=>by
 show(x2N ž hb,lJ[xIt ho[JW I.sz h]])
def Inv.cne (I:W1):∀x c,WE->xUt c:=λ x c e z=>by
 show((v,o,ho,hd)=xRB,(m,(o',d_,ho',hd',_),_)=I.loc,Ek ho' ho ho,A8 hd' hd hd)
theorem Inv.funs (I:W1):ybC X.outer:=BU all[∀(l:uz),(Eg[frs l][xP7 b])->yi2 l->ybC l][by
  intro l
  induction l with
  |nil=>intro _ _;trivial
  |cons env r ih=>
   intro hs hl;show((hk,(L,o,hf,hn,ho,hd),hr)=hl,(hL:xP7 L)=hs L[by unfold frs;show Γ QC hf Kj],JI sl e[xGk L ho[I.ok.frf L hL] hL[TD[I.ok.exfs L z hL]]] (hk,(L,_,hf,hn,e,hd),ih[CG[hs b[by unfold frs;show Γ QC hf xYp]]] hr))][all X.outer[λ _ hb=>hb] I.ok.funs]
theorem Inv.stack (I:W1):ybC X.stack:=by
 rcases I.ok.stk with e|⟨e,hf⟩
 ·show Vz I.funs
 ·show(uf,(m,hn,_)=I.loc,EC[.cons[IC I.ok.kind] hf hn ?_ I.funs][Heap.get?_none_of_le[x4i I.ok.above]])
def Inv.stkSub (I:W1):Eg x39[b∈X.env.locals::X.fs]:=CG[by
 rcases I.ok.stk with e|⟨e,hf⟩
 ·show xc hb xYp
 ·show xHK e;unfold frs at hb;show vH QC hf hb hb]
def Inv.stkFree (I:W1):Eg x39 Ic:=CG[by
 show lh[x4G hb] e hb
 ·show Vz I.free
 ·show(x2N ž hb,xUJ ž[I.ok.frf Ì][TD[I.ok.exfs b z hb]])]
def Inv.step {g':ycD}{t':Nat}{d':Drawn}{ch:Ξ}(I:W1)
  (hch:Eg zg1)
  (keep:∀b o,Fb->xN4->eG->CR=LT->Ic->mZ=LT)
  (slot:∀b o,Fb->xP7 b->eG->CR=LT->Ic->xTg) (free:∀b o,eG->CR=LT->Ic->xBS)
  (there:∀b o,eG->CR=LT->xEg)
  (tups:∀b xs,E2 b xs->aZ Xp) (frzs:∀b o u,HZ wA->xEe wA) (tbls:∀b ps,HZ xxN->∃more,xEe xZz)
  (ns:∀m,ybF m->yka m) (hok:x1b h') (hg:yeA):
  mV[ybI s g' d' t']:=by
 show(SB neL zne zok[λ b o e hx hb=>by
  show HQ (hch Ì).1
  ·exact hx z
  ·show lJ[J6 cW z]],SL zl2[λ x c e v ⟨o,ho,hd⟩=>by
  have nch:c∉ch:=TD[Az zgj c e rfl]
  by_cases hc:xP7 c
  ·show JI sl q zmg
  ·show Ef o zmR] (vcW,vdA,vcV,vcV,pL,hok,I.len))
 ·exact xOS o zfN zrD xUf
 ·show(EF sl zfr sl' zmG,AX sl' e2)
 ·show JI o' e1 zox
 ·show JI o' e1 zpv
 ·show(EF m1 e1[xMD b e] m2 e2[tbls b _ e1],AX zpd)
 ·show(sO m hn hl zl3,sO u r l zoy);rcases l with l|⟨k,c,e,z⟩
  ·show DD l
  ·show Dr (k,c,e,x6R c e _ z)
 ·show vI v z xRB v[x6R c e v z]
 ·show(ybJ m ž,free _ o zpw I.free)
 ·show Dj v o zbK zlF
 ·show((e,n,ne,nf,d)=xIr,BU nch[Bt∉ch] zkO)
def Inv.step0 {g':ycD}{t':Nat}{d':Drawn}{ch:Ξ}(I:W1)
  (hch:Eg ch[(xTw\/x0y)/\Fb/\(∀x c,WE->pD)/\xE6])
  (keep:∀b o,Fb->xN4->eG->CR=LT->Ic->mZ=LT)
  (slot:∀b o,Fb->xP7 b->eG->CR=LT->Ic->xTg) (free:∀b o,eG->CR=LT->Ic->xBS)
  (there:∀b o,eG->CR=LT->xEg)
  (tups:∀b xs,E2 b xs->aZ Xp) (frzs:∀b o u,HZ wA->xEe wA) (tbls:∀b ps,HZ xxN->∃more,xEe xZz)
  (ns:∀m,ybF m->yka m) (hok:x1b h') (hg:yeA):
  mV[ybI s g' d' t']:=by
 show(SB neL zne zok[λ b o e hx hb=>by
  show HQ (hch Ì).1
  ·exact hx z
  ·show yf z z],SL zl2[λ x c e v ⟨o,ho,hd⟩=>by
  have nch:c∉ch:=TD[Az zgj c e rfl]
  by_cases hc:xP7 c
  ·show JI sl q zmg
  ·show Ef o zmR] (vcW,vdA,vcV,vcV,pL,hok,I.len))
 ·exact xOS o zfN zrD xUf
 ·show(EF sl zfr sl' zmG,AX sl' e2)
 ·show JI o' e1 zox
 ·show JI o' e1 zpv
 ·show(EF m1 e1[xMD b e] m2 e2[tbls b _ e1],AX zpd)
 ·show(sO m hn hl zl3,sO u r l zoy);rcases l with l|⟨k,c,e,z⟩
  ·show DD l
  ·show Dr (k,c,e,x6R c e _ z)
 ·show vI v z xRB v[x6R c e v z]
 ·show(ybJ m ž,free _ o zpw I.free)
 ·show Dj v o zbK zlF
 ·show((e,n,ne,nf,d)=xIr,BU nch[Bt∉ch] zkO)
def Inv.un {t':Nat}(I:W1)(u:Un X.fs [] H H' s.heap h')(hok:x1b h'):mV Tt:=by
 show((vfF,_)=ygK,JI sl hL[u.any ho I.free Z6][I.step (g':=s.gens) (d':=s.drawn) (ch:=[]) (xGR z z)[λ b o _ hb _ e n=>ygI o e n hb Z6][λ b o _ hb _ e n=>u.slot b o e n hb Z6][λ b o _ e n=>u.free b o e n Z6][λ b o _ e=>u.there b o e Z6] u.tups u.frzs u.tbls[λ m' hm=>by
  show(vd5,pY es' ep' hL r')] hok I.bare])
def Inv.call {g':ycD}{t':Nat}{d':Drawn}(I:W1)(u:Un x39 ch H H' s.heap h')(hok:x1b h')(hg:yeA)
  (hch:Eg zg1):
  mV[ybI s g' d' t']:=by
 show((vfF,_)=ygK,JI sl hL[u.any ho I.free[TD[Az[zk _] rfl]]][I.step hch[λ b o hL hb hc e n=>ygI o e n[TD[(Kt.mp[x4G z]).elim hL hb]] hc][λ b o _ _ hc e n=>u.any e n hc][λ b o hc e n=>u.free b o e n hc][λ b o hc e=>u.there b o e hc] u.tups u.frzs u.tbls[λ m' hm=>by
  show(vd5,pY es' ep' hL r')] hok hg])
def Inv.turned {t':Nat}{it:RA}(I:W1)(k:∀b o,b≠it->CR=LT->mZ=LT)(hn:Bf it)(hL:xUt it)
  (h1:it∈X.ex\/xAM it) (h2:∀x c,WE->Eu it) (h3:jH xxZ[Bt≠it]):rN Tt:=by
 show SL nit[∀b u,xR4->b≠it][λ b u e z=>Ek hn e e][I.step (g':=s.gens) (ch:=[it]) uL[λ b o _ _ hc e _=>xER zh1][λ b o _ _ hc e _=>xGx[xER zh1]][λ _ _ _ _ n=>n]
  (λ b o hc e=>x1Q[xER zh1])[λ _ _ e=>e] yaQ zmx zi1]
 ·show aw zfz (h1,hL,h2,h3)
 ·show F7 o es ep ho r hm (va1,HG o[NB hL] ho,r)
 ·show(xGH b u e[λ c v hc q=>k c v ?_ q] zeT,HQ hc)
  ·show Sc z[nit b u e]
  ·exact nit c _ z
def Inv.tok (I:W1)(t:Nat):rN[ybw t]:=I.un (h':=s.heap) (t':=t) Un.refl I.hok
theorem Inv.kept {t':Nat}(I:W1)(k:∀b u,wX CR->lL):rN Tt:=I.un[Un.kept k][I.hok.kept k]
theorem Inv.laid {a:RA}{o:HO}{t':Nat}(I:W1)(k:∀b u,wX CR->lL)(hp:xAQ a)(new:xNr xDF h' a o):
  kc xDF Tt:=I.un[Un.laid k hp[I.hok.fresh hp]][I.hok.laid k hp new]
theorem Inv.write {x e:RA}{o:HO}{t':Nat}(I:W1)(mu:Mut HH)(he:e=x\/xx2 e x)(k:∀b u,Zx->wX CR->lL)(heo:∃u,Xn e u)
  (new:xNr[vD x o] h' x o):kc[vD x o] Tt:=I.un[Un.write mu he k heo][I.hok.write mu he k heo new]
def Inv.pins_of {Td:Χ}(I:W1)(h:jH Td[IS Bt Bm/\Bf Bt/\xUt Bt/\Bt∉X.fs/\∀v,(Bm).data≠ xHx]):xLh H s:=
 (I.ok,vbZ,rG[ki hp[TD[xGn[wa z]]][h p]],vcl)
def xpI {N:C6}(hN:N.Nodup){i j:Nat}(a:V7 N)(b:aA N x):i=j:=by
 show(EF h1 e1[Ka.mp a] h2 e2[Ka.mp b],(List.getElem_inj hN).mp[e1.trans e2.symm])
def xmw {M:Model}{A:RH}(I:W1)(hN:X.N.Nodup)(hi:xHJ)(hx:xF9 x)(r:fz)
  (h:qF[wC[xGd yV] H s'->EO a[xUS a s'.heap/\(a=X.env.locals\/ya6 x a)]->x0X]) (hf:xxq[xS4\/xSU]):xAx[yk3 x u]:=by
 show((m,hn,hl)=ygK,SB Ze zkP hiσ zmJ,Θ cne I.cne tracked[gL a h'[EO o[s.heap.get? a=LT/\xSv]][xUS a h'->ycN H h']][λ {a h'} ha hs b ob e=>by
  show(xF1 Ux ha[xGH b ob e[λ c w' hc q=>zV hs c ?_ q] zeT],mD,xLP zcl)
  ·show lK Ux
  ·show A8 Ux zcl])
 rcases hx with hk|hk
 ·show(wpAny_storeName_local hk hn[xFr hn' hs] Ze,(oL,_,_,hoL,_)=id hn,o6 (vcW,vdD,De hn'[λ j y v' e1 e2 e3=>?_],HL y c,vbS,pL,tracked (oL,hoL,I.free) hs,ycZ)[De hs rh])
  ·exact xKC xZp[xSS zbQ]
  ·show vI sl zfr sl[xKC xZp e1]
  ·show vI o' e1 xRO o'[xKC xZp e1]
  ·by_cases hj:j=i
   ·show(Xk hj.symm,vey,Ef u r[jk hk Z6])
   ·rw [yal] at e2;show sO zcS q znH;rcases q with⟨k,e⟩|⟨k,c,e,z⟩
    ·refine jk k ?_;have:y≠x:=y9[hj[xpI hN e1[e▸hi]]]
     simp [this,e]
    ·show Dr (k,c,e,ymX[cne y c e])
  ·show vI w' z[I.cell y c e] w'[ymX[cne y c e]]
  ·show F7 e n ne nf d xIr (zV hs Bt ne e,n,ne,nf,d)
 ·show((hfn:xS4)=by
   show HQ hf
   ·show xKb
   ·show A8 z hk hk,EF c hc[I.ok.has x[.inl hk]] w' z[xX4 hc],wpAny_storeName_cell zfS hc z[xFr hc' hs],sO oc Wf hocd[id z][h tV (vcW,vdD,(m,hn.sameBut hs[NB[cne x c hc]],λ j y v' e1 e2 e3=>?_),HL y c',vbS,pL,tracked (oc,Wf,xX3 hc) hs,ycZ) (c,hs,.inr hc)])
  ·exact xKC[xZU[yeB c hfn hc]][xSS zbQ]
  ·show vI sl zfr sl[xKC zpx]
  ·show vI o' e1 xRO o'[xKC zpx]
  ·by_cases hj:j=i
   ·show(Xk hj.symm,vey,Ef u r[.inr (.inl hk,c,hc,hc')])
   ·rw [yal] at e2;show sO zcS q znH;rcases q with q|⟨k,c',e,z'⟩
    ·show DD q
    ·show(xXG (k,c',e,z'.sameBut hs ?_),mD,hj[xpI hN e1[I.ok.inj _ _ _ e hc▸hi]])
  ·by_cases hcc:c'=c
   ·clear i x v Q E M A hN hi r h hf m hn hl Ze hiσ cne tracked hk hfn hc z;subst hcc;show Qt hc'
   ·show vI w2 z2[I.cell y c' e] w2[z2.sameBut hs hcc]
  ·show((e,n,ne,nf,d)=xIr,fH (zV hs Bt ?_ e,n,ne,nf,d) q,TV q Wf,BU q'[oc=Bm][Kr e][d w'[C8 q' hocd]])
def xwq {M:Model}{A:RH}(I:W1)(hN:X.N.Nodup)(hi:xHJ)(hx:xF9 x)(r:fz)
  (h:qF[wC[xGd yV] H s'->x0X]) (hf:xxq[xS4\/xSU]):xAx[yk3 x u]:=
 xmw I hN hi hx r[λ s' I' _=>h s' I'] hf
def Inv.call' {s':RD}{ch:Ξ}(I:W1)(ho:yip)(u:Un x39 ch H zj0)(hok:x1b s'.heap)(hg:xMp)
  (hch:Eg zg1):uq:=by
 show((h',g',d',t',o')=s',aw[o'=s.os] ho[I.call (g':=g') u hok hg hch])
universe s
abbrev XK:=RC->pN->jq
abbrev St:=x7e
abbrev VK:=V->jq
abbrev TE:=xKG St
abbrev TT:=St->xKw[Pt]
abbrev TA:=St->xKw[xIv]
structure Ends where
 nx:F9
 rt:VK
 bk:F9:=du
 ct:F9:=du
abbrev TS:=Ends->F9
inductive xs9 (X:Cx) (RN:Χ) (σ:St) (Q:VK) (u:RC) (s':RD):Prop
 |mk (v:V) (H':Hp) (h0:uq) (h1:fz) (h2:dO):wR u s'
inductive xqm (X:Cx) (RN:Χ) (σ:St) (Q:Pt) (b:Bool) (s':RD):Prop
 |mk (H':Hp) (h0:uq) (h1:JJ b):xqm zbR Q b s'
inductive xiB (X:Cx) (RN:Χ) (σ:St) (Q:xIv) (us:DC) (s':RD):Prop
 |mk (vs:SC) (H':Hp) (h0:uq) (h1:xJp) (h2:JJ vs):xiB zbR Q us s'
def xyt (X:Cx)(RN:Χ)(D:Ends)(f:Flow)(s':RD):Prop:=
 match f with
 | .next=>∃σ' H',xDs/\D.nx â
 | .brk=>∃σ' H',xDs/\D.bk â
 | .cont=>∃σ' H',xDs/\D.ct â
 | .ret u=>∃v σ' H',xDs/\fz/\xOT v
def PE (X:Cx)(e:RJ)(t:TE):Prop:=
 ∀(RN:Χ) (s:RD) (σ:St) (H:Hp) Q,W1->xK3->Vo xRq
def PT (X:Cx)(e:RJ)(t:TT):Prop:=
 ∀(RN:Χ) (s:RD) (σ:St) (H:Hp) Q,W1->xK3->A1[yfc e xRq][xqm zbR Q]
def PW (X:Cx)(e:RJ)(t:TT):Prop:=
 ∀(whole:xOU) (RN:Χ) (s:RD) (σ:St) (H:Hp) (Q:Pt),W1->xK3->A1[yfc e whole][xqm zbR Q]
def PW.pt {X:Cx}{t:TT}(h:xKK e t):xyE e t:=o6
def PA (X:Cx)(es:FA)(t:TA):Prop:=
 ∀(pos:Pos) (RN:Χ) (s:RD) (σ:St) H Q,W1->xK3->A1[spliced[xMQ es]][xiB zbR Q]
def PS (X:Cx)(st:RM)(t:TS):Prop:=
 ∀(RN:Χ) (s:RD) (σ:St) H D,W1->xAv D H->A1[yhs st] xOs
def Ó (X:Cx)(st:Rz)(t:TS):Prop:=
 ∀(RN:Χ) (s:RD) (σ:St) H D,W1->xAv D H->A1[execs st X.env] xOs
def Ý {Q Q':tP α}(h:xAx t)(hQ:∀a s,Q a s->Q' a s):xy7 t Q' s:=cb h hQ x x
section
variable {X:Cx}
inductive Ü (i:Nat) (σ:St) (H:Hp) (Q:VK):Prop
 |mk (v:_) (h0:xMs yV) (h1:lQ v):Cz Ż
def tC (v:V):TE:=λ _ H Q=>lQ v
def xiI {i:Nat}{pos:Pos}(hN:xHJ)(hv:x3x x)(hd:sV)(VA:kJ[A2[x==ykg]]):Ax xCa Cz:=by
 intro RN s σ H Q I h;show(xFY v e h h m hn hl I.loc,xXH r l[xEt x v hN e hv],(fin:wR u s)=Jb v I r h);rcases l with⟨hk,hm⟩|⟨hk,c,hc,UH⟩
 ·exact yek[wpAny_loadName_local zfS hn hm fin]
 ·rcases hk with hk|hk
  ·exact yek[wpAny_loadName_cell zfS hc UH fin]
  ·exact yek[wpAny_loadName_free zfS hc UH fin VA]
def aj {i j pos}:Ax[xBv HR pos][xw i]:=xRn I h[wpAny_Constant_int[Jb HR zcU h]]
def bV {b j pos}:xJW[xBv[.bool b] pos] Cf:=xRn I h[Constant_bool[Fu Cf H I h]]
def dj {j pos}:xJW[xBv .none pos] .non:=xRn I h[Constant_none[Fu .non H I h]]
def bd {x j pos}:xJW[xBv BX pos] BX:=xRn I h[Calls.Constant_str[Jb BX zcU h]]
def xdy (X:Cx)(x:Str):Prop:=x3L x .globalImplicit
def xq8 {E:BQ}{RN:Χ}{σ:St}(I:W1)(hg:yF)(hm:wX yr)(h:Q u s)
  (hd:sV):jx[va xCa] Q E s:=
 yiS hg[Calls.loadGlobal_global znV h] hd
def ii {E:BQ}{RN:Χ}{σ:St}{pos:Pos}(I:W1)(hg:yF)(hm:Ω yr)(hv:x2Q x u)(h:Q u s)
  (hn:kJ xRv) (hd:sV):jx[va xCa] Q E s:=HD mb Ç I.mod.blt[yiS hg[Calls.loadGlobal_builtin znV[Sc I.ok.blt[h1.keeps I.bk]][(h2 x hn).trans hv] h] hd]
def xrW (hg:yF)(hm:wX yr)(r:fz)(hd:sV):xJW xCa v:=
 xRn I h[yf7[Jb v I r h] hd]
def xfP {pos:Pos}(hg:yF)(hm:Ω yr)(hv:x2Q x u)(r:fz)(hn:kJ xRv)(hd:sV):xJW xCa v:=
 xRn I h[xTC hv[Jb v I r h] hn hd]
variable {a b:RJ}{ta tb:TE}{pos:Pos}
def xs5 (X:Cx)(op:CmpOp)(a b:RJ)(t:TE):Prop:=
 ∀(RN:Χ) (s:RD) (σ:St) (H:Hp) Q,W1->xK3->
  A1[va a][λ v s₁=>xu[va b][λ u s₂=>xu[compareOp op v u] wR s₂] s₁]
def xm9 (b)(h:op≠ .In)(h2:op≠ .NotIn):x1v:=by
 show Gn[o9 op CmpOp.In][by cases op<;>first|rfl|show xy4 h][o9 op CmpOp.NotIn][by cases op<;>first|rfl|show xy4 h2]
 set_option tactic.hygienic true in cases b
 case Set l k _=>show A2[k==0&&(op==.In||op==.NotIn)&&l.all[constantsAlone 8]];rw [e1,e2,Bool.or_self,Rv,Rr]
 all_goals rfl
def xeY (ta:TE):TE:=λ σ H Q=>rA[xFN[! yay x] H1]
def RelV.none_iff (r:qA):(ybm v)=yay x:=by
 cases x with
 |non=>show xFB
 |bl _=>show xFB
 |int _=>show xFE
 |str _=>show xFE
 |byt _=>show xFE
 |flt _=>show xFE
 |ref _=>show xFB
 |ty _=>show xFB
def xbH {j pos'}(ha:X3):xs5 X .IsNot a[xBv .none pos'][xeY ta]:=by
 intro RN s σ H Q I h;show(xKz v,F7 Ķ z9[Constant_none[isnot_none_gen (.bl _,H1,I1,CM r1.none_iff,q1)]])
inductive tB_p (Q:Pt) (x:V) (H1:Hp):Prop
 |mk (c:_) (h0:x=xI8) (h1:rC c):tB_p zcb
def xwD (t:TE):TT:=λ σ H Q=>uB x[tB_p zcb]
def xse {op:CmpOp}(h:xs5 X op a b t)(h1:x1v:=by first|exact xm9 _ Ċ|rfl):xyE[x4H [op] tG pos][xwD t]:=by
 intro RN s σ H Q I hw;show(xU[yjP[xUk _ I hw][λ v s1 h1=>Ý h1 λ u s2 h2=>xxb h2 c s3] h1] Ķ,vfG)
def xvI {e:RJ}(h:Ax e t)(he:ydz whole[yfc e whole=(do let v<-whole;standAt e.pos;xXk v[truthy v])]):xyE e[xwD t]:=by
  intro RN s σ H Q I hw
  show(xU[isTrue_plain[cX[xUk _ I hw] v][he _]] Ķ,vfG)
variable {tA tB':TT}{rest:FA}
def tAnd (t u:TT):TT:=λ σ H Q=>uB c[EB c[u ı Q][rC false]]
def tOr (t u:TT):TT:=λ σ H Q=>uB c[EB c[xPa H1][u ı Q]]
def xko (t:TT):TT:=λ σ H Q=>uB c[rC[! c]]
def xqC (ha:xTj a):xKK[xZi t8] tA:=by
 intro wh RN s σ H Q I h;refine isTrue_and[xw3[xI5 Q] c s1 e];cases c with
 |true=>exact isTrue_and_nil e
 |false=>show xDY
def xe9 (ha:xTj a):xKK[xUU .Or t8] tA:=by
 intro wh RN s σ H Q I h;refine isTrue_or[xw3[xI5 Q] c s1 e];cases c with
 |false=>exact isTrue_or_nil e
 |true=>show xDY
def xq9 (ha:xTj a)(hb:xKK[xZi xRL] tB'):xKK[xZi[a::xRL]][tAnd tA tB']:=by
 intro wh RN s σ H Q I h;show Bn[isTrue_and[xKz c]] zef;cases c with
 |true=>exact hb wh zcv Q zbO
 |false=>show Ef zde
def xlA (ha:xTj a)(hb:xKK[xUU .Or xRL] tB'):xKK[xUU .Or[a::xRL]][tOr tA tB']:=by
 intro wh RN s σ H Q I h;show Bn[isTrue_or[xKz c]] zef;cases c with
 |true=>show Ef zde
 |false=>exact hb wh zcv Q zbO
def xfd (ha:xTj a):xyE[yl5 a pos][xko tA]:=by
 intro RN s σ H Q I h;exact isTrue_not[Ý[xI5[tX c[rC[! c]]]] λ c s1 z9=>BI zef zde]
inductive Ŭ (tb:TE) (σ:St) (Q:VK) (x:V) (H1:Hp):Prop
 |mk (c:_) (h0:x=xI8) (h1:EB c[x1i Q][xFN false H1]):Ŭ tb zcG
def xec (ta tb:TE):TE:=λ σ H Q=>rA[Ŭ tb zcG]
inductive ů (Q:VK) (x:V) (H1:Hp):Prop
 |mk (c:_) (h0:x=xI8) (h1:xFN[! c] H1):ů zcb
def xd4 (ta:TE):TE:=λ σ H Q=>rA[ů zcb]
def xq0 {op}{t:TE}(h:Ax a t):Ax[xUU op t8] t:=λ RN s σ H Q I hw=>BoolOp_one[xUk Q I hw]
def xvA (ha:X3)(hb:Ax[xZi xRL] tb):Ax[xZi[a::xRL]][xec ta tb]:=by
 intro RN s σ H Q I h;show(xU[BoolOp_and[xKz v]] Ķ,zc c q1 q1);cases r1;refine NX ?_;cases c with
 |true=>exact xUj Q
 |false=>exact Fu eI zde
def xdS (ha:X3):Ax[yl5 a pos][xd4 ta]:=by
 intro RN s σ H Q I h;show(xU[UnaryOp_[xKz v]] Ķ,zc c q1 q1,EL r1[not_of[NX[xA[! c] zde]]])
def tIf (t:TT)(ta tb:TE):TE:=λ σ H Q=>uB c[EB c[xU9 H1 Q][x1i Q]]
def xzB {c:RJ}(hc:xTj c)(ha:X3)(hb:xEW):Ax[.IfExp c a b pos][tIf tA ta tb]:=by
 intro RN s σ H Q I h;show Bn[wpAny_IfExp[cX zq2]] zef;cases d with
 |true=>exact x3w s1 H1 Q zbO
 |false=>exact xUj Q
universe s
def RV (K:Frag)(H:Hp)(a:RA)(xs:SC):Prop:=
 xE7 xBZ\/
  ∃(o:RK) (its:ZR) (n:Nat),yeZ=LT/\rg xGh/\Ω o.dict/\xxS[.seq its n]/\sS its.size/\Vals xs its.toList
def Sr (K:Frag)(H:Hp)(a:RA)(xs:SC):Prop:=
 xE7 x6d\/
  ∃(o:RK) (its:ZR) (n:Nat),yeZ=LT/\rg xVi/\xxS[.seq its n]/\sS its.size/\Vals xs its.toList
def xeH:RC->EE
 | .none=>some .non
 | .bool b=>some Cf
 | .int i _=>some HR
 | .str x _=>some BX
 | .bytes b _=>some[.byt b]
 | .float b _=>some[.flt b]
 | .ref a=>Cs
 | .type n=>some[.ty n]
 |_=>none
def RelV.abs (r:mf):UF[xeH u] x:=by
 cases x with
 |non=>show xFB
 |bl _=>show xFB
 |int _=>show xFE
 |str _=>show xFE
 |byt _=>show xFE
 |flt _=>show xFE
 |ref _=>show xFB
 |ty _=>show xFB
def RelV.inj (r:mf)(q:pE):x=y:=Kr[r.abs.symm.trans q.abs]
theorem Vals.inj (h:zK)(g:xxc ys):xs=ys:=by
 induction h generalizing ys with
 |nil=>show zL g
 |cons r _ ih=>cases g with
  |cons r' t'=>rw [r.inj r',ih t']
section
variable {X:Cx}{RN:Χ}{σ:St}{H:Hp}{s:RD}{a:RA}{xs ys:SC}
def RV.of {K:Frag}(h:Α=Gq):Zq:=.inl[.inl h]
def Sr.of {K:Frag}(h:aZ Α):bZ ċ:=.inl[.inl h]
def Inv.list (I:W1)(h:xxH ċ):∃its:DC,xDj/\PlainL s.heap zje/\nQ:=by
 rcases h with h|⟨o,its,n,hk,hc,hd,hs,hz,r⟩
 ·show F7 zc7 e[h.ok I.hok] (its,r,yq _ n e Ð,z)
 ·show xDp (its.toList,r,(o,n,yam a hk,hc,hd,by simpa using hs),?_) e r.length;simp only [LO] at e;exact M3 e hz
def Inv.tuple (I:W1)(h:x9A ċ):∃its:DC,xDj/\yiM zje/\nQ:=by
 rcases h with h|⟨o,its,n,hk,hc,hs,hz,r⟩
 ·show Dj z its r p[h.ok I.hok] (its,r,p,z)
 ·show xDp (its.toList,r,(o,yam a hk,hc,n,by simpa using hs),?_) e r.length;simp only [LO] at e;exact M3 e hz
def Inv.list_inj (I:W1)(h:xxH ċ)(h':xxH a ys):xs=ys:=by
 show((its,r,(o,n,e,_,_,d),_)=I.list h,(its',r',(o',n',e',_,_,d'),_)=I.list h',yf e' e');rw [d] at d';show(xG1 d' d1,uX[its=its'][by simpa using congrArg Array.toList d1][r.inj r'])
universe s
abbrev Cx.wish (X:Cx) (E:BQ):Cx:={X with xe:=E}
abbrev Cx.nox (X:Cx):Cx:=X.wish du
theorem Cx.Ok.wish {X:Cx}(ok:X.Ok)(E:BQ):(xWu).Ok:=
 (vcS,vcE,vcH,vcJ,vcD,vcK,vcT,vcF)
def Cx.Ok.unwish {X:Cx}{E:BQ}(ok:(xWu).Ok):X.Ok:=
 (vcS,vcE,vcH,vcJ,vcD,vcK,vcT,vcF)
section
variable {X:Cx}{RN:Χ}{σ:St}{H:Hp}{s:RD}{E:BQ}
theorem Inv.wish (I:W1)(E:BQ):xAH xWu H s:=(I.ok.wish E,vbZ,vcp)
theorem Inv.unwish (I:xAH xWu H s):W1:=(I.ok.unwish,vbZ,vcp)
theorem xyt.unwish {D:Ends}{f:Flow}{s':RD}(h:xyt xWu RN D f s'):xLb s':=by
 cases f with
 |next=>show Dj zc2 q h[yij H']
 |brk=>show Dj zc2 q h[yij H']
 |cont=>show Dj zc2 q h[yij H']
 |ret u=>show(IG v zc2 r q,pK v â I.unwish r q)
theorem Ó.nox {st:Rz}(h:Ó X.nox st t):vf st t:=λ RN s σ H D I hw=>
 cb[xUk D[I.wish _] hw][xU1 q.unwish] z xMx
universe s
section
variable {X:Cx}{st:RM}{rest:Rz}{t u:TS}{e:RJ}{te:TE}{pos:Pos}
def xd8:TS:=λ D σ H=>lN
def xqH (t u:TS):TS:=λ D σ H=>xAv {D with nx:=u D} H
def xlO:vf [] xd8:=λ _ _ σ H _ I h=>Ou[xDu H I h]
def ad (h1:uE st t)(h2:vf rest u):vf[st::rest][xqH t u]:=by
 intro RN s σ H D I h;show yl6[xw3[h1 þ {D with nx:=u D} I h] f s1 q];cases f with
 |next=>
  show Dj â I' q q[h2 RN s1 â D I' q]
 |ret v=>show Ii
 |brk=>show Ii
 |cont=>show Ii
def ag (h1:uE st t):vf [st] t:=by
 intro RN s σ H D I h;show yl6[xw3[h1 þ D I h] f s1 q];cases f with
 |next=>exact Ou q
 |ret v=>show Ii
 |brk=>show Ii
 |cont=>show Ii
def xek:TS:=λ D σ H=>D.bk Ä
def xmS:uE[.Break pos] xek:=λ _ _ σ H _ I h=>wpAny_Break[xDu H I h]
def Inv.quiet {RN:Χ}{σ:St}{H:Hp}(I:W1):A2[interactive X.env]:=by simp [interactive,I.ok.kind]
def xd3 (te:TE):TS:=λ D σ H=>oj λ _ H1=>xUQ H1
def aD (he:Lp)(hs:AM[swapsWith e none pos.line X.env=xV8]):uE[.Expr e pos][xd3 te]:=by
 intro RN s σ H D I h;exact wpAny_Expr_any[Ý[x4W I h] λ v s1 z9=>F7 Ķ z9[xDu zde]] I.quiet hs
def xzl (te:TE):TS:=λ D σ H=>oj D.rt
def xfl (he:Lp):uE[.Return[some e] pos][xzl te]:=by
 intro RN s σ H D I h;exact wpAny_Return_some[Ý[x4W I h] λ v s1 z9=>F7 Ķ z9 (x,σ,H1,I1,r1,q1)]
def xvk (c:TT)(t u:TS):TS:=λ D σ H=>c Ä[tX b[EB b[xAv D H1][u D ı]]]
def xlN {c:RJ}{a b:Rz}{tc:TT}(hc:xyE c tc)(ha:vf a t)(hb:vf b u):uE[.If c a b pos][xvk tc t u]:=by
 intro RN s σ H D I h;show Bn[wpAny_If[cX zq2]] zef;cases d with
 |true=>exact x3w s1 H1 D zbO
 |false=>exact xUj D
def xnW:TS:=x3m
def xfm:uE st xnW:=ykH h
def xwv {sts:Rz}:vf sts xnW:=ykH h
universe s
abbrev TG:=V->St->xKw[F9]
abbrev TGs:=SC->St->xKw[F9]
def PG (X:Cx)(RS:RJ)(t:TG):Prop:=
 ∀(RN:Χ) (s:RD) (σ:St) H v u Q,W1->fz->xAv v H Q->
  A1[x4t RS u][xRm[∃σ' H',xDs/\JJ σ']]
def PGs (X:Cx)(ts:FA)(t:TGs):Prop:=
 ∀(RN:Χ) (s:RD) (σ:St) H vs us Q,W1->xJp->xAv zdH->
  A1 (assignInOrder ((assignEach ts X.env).map (·.2)) us)[xRm[∃σ' H',xDs/\JJ σ']]
abbrev xqv:=V->V->V->xKw[jq]
def xkr (X:Cx)(t:xqv):Prop:=
 ∀(RN:Χ) (s:RD) (σ:St) H o i v ov iv u Q,W1->RelV o ov->RelV i iv->fz->t o i v H Q->
  A1[setItem ov iv u][xRm[∃H',uq/\Q H']]
section
variable {X:Cx}{pos:Pos}
def xu2 (i:Nat):TG:=λ v σ H Q=>lQ[xGd yV]
def xfo {i:Nat}{x:Str}(hN:X.N.Nodup)(hi:AM xHJ)(hx:xxq[xF9 x])(hf:xxq[xS4\/xSU]):xSf xCa[xu2 i]:=by
 intro RN s σ H v u Q I r h;exact wpAny_assign_Name[xwq I hN hi hx r[λ s' I'=>Vr H I' h] hf]
inductive gNil (vs:SC) (σ:St) (H:Hp) (Q:F9):Prop
 |mk (h0:vs=[]) (h1:lQ σ):gNil vs Ż
inductive xqj (t:TG) (u:TGs) (vs:SC) (σ:St) (H:Hp) (Q:F9):Prop
 |mk (v:_) (r:_) (h0:vs=v::r) (h1:xAv v H λ σ' H'=>u r â Q):xqj t u vs Ż
def xz8:PGs X [] gNil:=by
 intro RN s σ H vs us Q I r h;show(xBm e h,DX,EL r[assignInOrder_nil[xDu H I h]])
def xfh {e:RJ}(h1:xSf e t)(h2:PGs X es u)
  (hs:AM ((assignEach[e::es] X.env).map (·.2)=assign e X.env::(assignEach zdg).map (·.2))):PGs X cD[xqj t u]:=by
 intro RN s σ H vs us Q I r h;show(xxv v vr e1 h,uK);cases r with
 |cons r rr=>
  show(Ζ hs[assignInOrder_cons[x2i[h1 þ _ _ _ I r h] s1]],Dj σ1 zef[h2 RN s1 σ1 H1 _ _ Q I1 rr q1])
inductive gTup (K:Frag) (n:Nat) (t:TGs) (v:V) (σ:St) (H:Hp) (Q:F9):Prop
 |mk (a:_) (xs:_) (h0:v=Aj) (h1:bZ ċ) (h2:xXc n) (h3:xAv xs H Q):xOV n t v Ż
def xfJ {es:FA}{k:Nat}(hc:Af)(h:PGs X es t)
  (hn:AM[BF[assignEach zdg] n]) (Uh:AM ((assignEach zdg).findIdx? (·.1)=none)):xSf[x5d k pos][gTup X.K n t]:=by
 intro RN s σ H v u Q I r hw;show((a,xs,e1,hq,hl,hw)=hw,uK,xKe,qo rv ht hq,CJ[QQ.xe2 I.hq ht[by simp [hn,<-hl,rv.length]] Uh[UV h' hx]] I1 x9t[x5p[λ b o e=>hx b o xYu e]],h RN _ Ä xs _ Q I1[by simpa using rv] hw)
def xet (to ti:TE)(t:xqv):TG:=λ v σ H Q=>to Ä[tX o[ti ı[xY i[t o i v H2 λ H3=>Q σ H3]]]]
def xuf {o i:RJ}{to ti:TE}{t:xqv}(ho:xSX to)(hi:Ax i ti)(hs:xkr X t)
    (ha:ydz v[x4t[xGi o i] v=(do
      let ov<-xXk v qe
      let iv<-holding [v,ov][va i]
      standAt pos
      holding [v,ov,iv][setItem ov iv v]
      release [v,ov,iv] [])]):xSf[xGi o i][xet to ti t]:=by
  intro RN s σ H v u Q I r h
  show(jR ha[L9[cX[Sg s H _ I h] ov]],xLO Ķ,Du[L9[xFu zpW]],xLO y H2 I2 r2 q2,Du[yco[L9[x2i[hs RN s2 ë x y v ov iv u _ I2 B_ r q2] s3]]],HD H3 I3 q3 z9[wpAny_release[xDu H3 I3 q3]])
def xwC (te:TE)(g:TG):TS:=λ D σ H=>oj[tX x[g x ı D.nx]]
def xz5 {tg e:RJ}{te:TE}{g:TG}(he:Lp)(hg:xSf tg g)(hs:AM[swapsWithSole [tg] e pos.line X.env=xV8])(hw:AM[swappedStores [tg] e X.env=pure none])
  (h1:AM ((assignEach [tg] X.env).map (·.2)=[assign tg X.env])):xG6 [tg] e pos[xwC te g]:=by
 intro RN s σ H D I h;show(xU[wpAny_Assign_stores[bG I h v] hs hw] Ķ,Sc h1[Ý[hg zcv x v _ I1 r1 q1] λ _ s2 q=>q])
def xlJ {i:Nat}{x:Str}{e:RJ}{pos':Pos}(hN:X.N.Nodup)(he:Lp)(hi:AM xHJ)(hx:xxq[xF9 x])(hs:AM[xPw e[xFW pos'] pos.line=xV8])(hf:xxq[xS4\/xSU]):
  xG6 [xFW pos'] e pos yaZ:=by
 intro RN s σ H D I h;show(wpAny_Assign_Name[bG I h v] hs,F7 y zep z9[xwq I1 hN hi hx r1[λ s2 I2=>Vr H1 I2 q1] hf])
inductive _r (c:TT) (tb:TS) (D:Ends) (σ:St) (H:Hp):Prop
 |mk (W:x0I) (h0:EO m[W m Ä]) (h1:∀m σ H,W m Ä->c Ä[tX b[EB b[∃N,rF[xRd->eE[m'<m/\W m' â]]/\tb {D with nx:=N,ct:=N,bk:=D.nx} ı][xUQ H1]]]):_r c tb ì
def xlD {c:RJ}{body:Rz}{tb:TS}(hp:ynK X.A zj1)(hc:xyE c tc)(hb:vf body tb):uE[.While c body [] pos][_r tc tb]:=by
 intro RN s σ H D I h;show((W,vdo)=h,wpAny_While[codeAny_whileLoop[λ n s'=>∃σ' H',xDs/\W n â] ?_ m0[xDu H I w0]]);rintro n s1 ⟨σ1,H1,I1,w1⟩;show Bn[xI9[xFu[xP8 s1 σ1 H1 _ I1[turn n σ1 H1 w1]] b]] H2 I2 q2 z9;cases b with
 |true=>
  show((N,hN,q2)=q2,Ζ Cm[xI9[xw3[hb RN s2 σ1 H2 _ I2 q2] f s3 q3]]);cases f with
  |next=>
   show((σ3,H3,I3,n3)=q3,HD m' hm w3 zmK)
  |cont=>
   show((σ3,H3,I3,n3)=q3,HD m' hm w3 zmK)
  |brk=>exact q3
  |ret v=>exact q3
 |false=>
  show w4 KF[Ou (σ1,H2,I2,q2)]
universe s
structure It where
 go:DQ jq
 yld:DQ[Hp->V->jq]
 stop:DQ jq
def xqp (X:Cx)(RN:Χ)(H:Hp)(b:RA):Prop:=
 Ic/\Fb/\xN4/\(xTw\/xAM b)/\(∀x c,WE->pD)/\xE6
def Inv.fpOk {X:Cx}{RN:Χ}{σ:St}{b:RA}(I:W1)(hb:xAQ b)(hn:xBS):iy b:=by
 refine(hn,LJ[J6 I.lt hb],I.nofs hb,.inr[JW I.sz hb],λ x c e z=>?_,Ο ĳ z)
 ·show((v,q)=xRB,lJ[J6 q.lt[Sc z hb]])
 ·show lJ[xIt xIr.1[Sc z hb]]
structure Turn (P:RE)(w:RF)(K:Frag)(tg:RJ)(J:It)(fp:Ξ)(it:RA)(tn:RB RI):Prop where
 mem:it∈fp
 obj:∀i h,xJT h->x6[∃o,zM=LT/\∀v,o.data≠ xHx]
 keep:∀i h h',xJT h->(x6[∀o,zM=LT->mZ=LT])->xJT h'
 item:∀(X:Cx),X.prog=P->X.w=w->X.K=K->Af->∀(i:Nat) (RN:Χ) (s:RD) (σ:St) (H:Hp) (E:BQ),W1->(x1p)->yga->xOW H->
  xwW P w X.A xV6[λ r s1=>∃u,wX r/\
   xwW P w X.A[ykb fj u][λ _ s2=>∃x H',mV s2/\mf/\xN7 H x H'/\tn[i+1] s2.heap/\xQL] E s1] E s
 done:∀(X:Cx),X.prog=P->X.w=w->X.K=K->Af->∀(i:Nat) (RN:Χ) (s:RD) (σ:St) (H:Hp) (E:BQ),W1->(x1p)->yga->xNM H->
  xwW P w X.A xV6[λ r s1=>Ω r/\rN s1] E s
 self:∀(A:RH) (i:Nat) (s:RD) (Q:BQ) (E:BQ),yga->Q fj s->xwW P w A[pyIter fj] Q E s
abbrev TI:=St->xKw[xDg]
def PIE (X:Cx)(RN:Χ)(σ:St)(tg:RJ)(R:xDg)(itv:RC)(s2:RD):Prop:=
 ∃(it:RA) (fp:Ξ) (tn:RB RI) (J:It) (H':Hp),itv=fj/\mV s2/\Turn ŷ X.K tg J fp it tn/\tn 0 s2.heap/\(x6[iy b])/\R J H'
def PI (X:Cx)(tg iter:RJ)(wi:TI):Prop:=
 ∀(RN:Χ) (s:RD) (σ:St) H (R:xDg),W1->xTG R->
  A1 ygr[λ v s1=>xu[pyIter v][PIE zbR tg R] s1]
def xsJ (ho:s.heap.get? it=LT)(hc:rg[.type n])(hd:xQJ)
  (hn: A2[["enumerate","zip","dict_itemiterator","dict_reverseitemiterator","odict_iterator","itertools.zip_longest","itertools.pairwise"].contains n]) (hQ:xNF s):xAx[ykb fj u]:=by
 unfold letOwnedTupleGo;cases tg<;>first
  |show UN hQ
  |(cases u<;>first
    |show UN hQ
    |(show(Du[wpAny_load ho ?_],[hc,hd]);show wpAny M A[EB[["enumerate","zip","dict_itemiterator","dict_reverseitemiterator","odict_iterator","itertools.zip_longest","itertools.pairwise"].contains n&&vs[0]?==some[rawInt _]] _ _] Q E s;show w4[by intro h;show cx hn Rr h h][Kn hQ]))
def Itl (K:Frag)(a:RA):It:=
 (λ i H=>∃xs x,Zq/\uG,λ i H x H'=>H'=H/\∀xs,Zq->uG,λ i H=>xAC[Zq/\ynQ])
def Itr (lo:Int)(n:Nat):It:=(λ i _=>i<n,λ i H x H'=>H'=H/\x=.int[lo+i],λ i _=>HE n)
def xhS {P:RE}{w:RF}{K:Frag}{tg:RJ}(a it:RA):x9c w K tg zY [it] it[λ i h=>yk4 a i] where
 mem:=Z6
 obj:=λ i h st b hb=>by
  show(Bj zfz,DX,Dj o e c d st[xZ e[λ v z=>xm d]])
 keep:=λ i h h' st k=>st.at λ o e=>k it Z6 o e
 item:=by
  intro X hP hw hK hc i RN s σ H E I hf st hg;subst hP hw hK;show(ve9,xHB zdY,CJ[wpAny_pyNext_list_item st zpY[xFr st' sb]] I1 x9t[xKJ[λ b o hb e=>zV sb Ì e]],Dj o e c d[id st'][ID u[xsJ e c d Z9 (x,H,I1,ru,Fw[λ ys hy=>Sc[yl7 hq] hx],vdu)]])
 done:=by
  intro X hP hw hK hc i RN s σ H E I hf st hg;subst hP hw hK;show(vez,xHB zdY,jA hl rv.length[QQ.list_end_q I.hq st znI λ h' eb=>Fw[xKJ[λ b o hb e=>eb b o hb e]]])
 self:=x42 h[wpAny_pyIter_listiter st h]
def xgD {P:RE}{w:RF}{K:Frag}(it)(lo)(n):x9c w K tg[xCE n] [it] it[λ i h=>xVn h[lo+rV i*1][By-rV i] 1] where
 mem:=Z6
 obj:=λ i h st b hb=>aw zfz[De st[λ v z=>by
   show((z':xW6 _ ydU)=z,xCQ)]]
 keep:=λ i h h' st k=>k it Z6 _ st
 item:=by
  intro X hP hw hK hc i RN s σ H E I hf st hg;subst hP hw hK;show(xHB zdY,CJ[yjb[xy5[i<n] hg][xFr st1 sb]] st'[xVn h'[lo+jT*1][By-jT] 1][by
   show(Gn[lo+jT*1=lo+gy*1+1] Z5 zr8,Γ ğ st1)],tB I1 zlP[AK[xsJ st' Ð Z9 (.int[lo+i],H,I1,yb s.toks,jl,vdu)]] Int.mul_one)
 done:=by
  intro X hP hw hK hc i RN s σ H E I hf st hg;subst hP hw hK;show xxx zjb zkH
 self:=x42 h[yjg h]
section
variable {X:Cx}{tg:RJ}
inductive Ĺ (K:Frag) (R:xDg) (x:V) (H1:Hp):Prop
 |mk (a:_) (h0:x=Aj) (h1:EO xs[x1B ċ]) (h2:R zY H1):Ĺ K R x H1
def xd5 (K:Frag)(tl:TE):TI:=λ σ H R=>tl Ä[tX x[Ĺ K R x H1]]
def xu1 {l:RJ}{tl:TE}(hl:Ax l tl):PI X tg l[xd5 X.K tl]:=by
 intro RN s σ H R I h;show(xU[cX[hl þ _ I h] v] Ķ,(a,e,(xs,hq),q)=q1,DX);cases r1;show(x2o rv p hz[I1.list hq],Υ[yk5 p.isList] (s1.heap.objs.size,[s1.heap.objs.size],_,_,H1,rfl,xVy s1.toks[λ b o e=>yK],xhS a _,zP _ Bb,uL,q),aw[b=s1.heap.objs.size] zqy)
def xmh {RN:Χ}{σ:St}{lo hi:Int}(I:W1)(h1:-(2^62)≤lo)(h2:lo<2^62)(h3:-(2^62)≤hi)(h4:hi<2^62)
  (q:R[xCE[U9 hi lo]] H):jx[pyIter i6][PIE zbR tg R] E[Vu zpy]:=by
 show(yi3 .. (small_one zdA) ?_,SL I1[rN[Vu zpy]][I.kept λ b o e=>yK] (ydE #[xQt,xTf,xTo],[ydE #[xQt,xTf,xTo]],_,_,H,rfl,xVy tk[λ b o e=>yK],xgD _ lo[U9 hi lo],?_,uL,q))
 ·show Gn[lo+EP*1=lo] Z6[Tl[U9 hi lo]-EP=Builtin.Range.rangeSize ú 1][by rw [rangeSize_one];split<;>lia]
  show yl8 _[lo+EP*1][Tl[U9 hi lo]-EP] 1;show Γ ğ Bb
 ·show aw[b=ydE #[xQt,xTf,xTo]] zqy
inductive ĺ (R:xDg) (vs:SC) (H1:Hp):Prop
 |mk (j:_) (h0:vs=[V6]) (h1:Z2[-(2^62)]) (h2:j<2^62) (h3:R[xJa j.toNat] H1):ĺ zcL
def xeg (ta:TA):TI:=λ σ H R=>xX5 vs[ĺ zcL]
inductive Ļ (R:xDg) (vs:SC) (H1:Hp):Prop
 |mk (i:_) (j:_) (h0:vs=[HR,V6]) (h1:(HE[-(2^62)]/\i<2^62/\Z2[-(2^62)]/\j<2^62)) (h2:R[Itr i[U9 j i]] H1):Ļ zcL
def IN (ta:TA):TI:=λ σ H R=>xX5 vs[Ļ zcL]
def xrO {a:RJ}{ta:TA}{p pos:Pos}(hg:ye0)(hm:ye2)(ha:oK t8 ta)(hs:AM[sR t8=[nN a]]):PI X tg[xXu "range" p t8][xeg ta]:=by
 intro RN s σ H R I h;show(xU[Call_[yey I[Nd xSN hs rfl]]] zd3,(j,e,q1,q2,q)=q1,DX);cases r1 with
 |cons r rr=>
  cases rr;show xAL t r[call_range_1[xmh I1 Z5 Z5 _C[by simpa using q]]]
def xfE {a b:RJ}{ta:TA}{p pos:Pos}(hg:ye0)(hm:ye2)(ha:oK [a,b] ta)(hs:AM[sR [a,b]=[nN a,nN b]])(Vj:AM[sR tG=[nN b]]):
  PI X tg[xXu "range" p [a,b]][IN ta]:=by
 intro RN s σ H R I h;show(xU zln zep,(i,j,e,(q1,q2,q3,q4),q)=q1,DX);cases r1 with
 |cons r rr=>
  cases rr with
  |cons r' rr=>
   cases rr;show(kY r,xAL t' r'[call_range_2[xmh zbO q2 q3 q4 q]])
def xev (wi:TI)(g:TG)(tb:TS):TS:=λ D σ H=>xTG[tX J[Yh F9[x07 H1/\∀i m σ H,x06 H->
 (xNM H/\lN)\/(xOW H/\∃N,rF[xRd->eE[m'<m/\x1V zeU]]/\IH x[xN7 H x H'->x00[ie D N N]])]]]
def xwG (fp:Ξ) (h:RI):Χ:=fp.filterMap[xFG[Xg zM o ((b,o))]]
def xff {fp:Ξ}(hb:b∈fp)(e:zM=LT):((b,o))∈xwG fp h:=List.mem_filterMap.mpr (b,hb,xAm)
def xhy {fp:Ξ}(hp:p∈xwG fp h):Bt∈fp/\yC Bt Bm:=by
 obtain⟨b,hb,e⟩:=List.mem_filterMap.mp hp;cases q:zM with
 |none=>show lK q
 |some o=>
  show wL q e e'[((b,o))=p][Kr e];clear hp e;subst e';show AX hb q
def Inv.pinned {RN:Χ}{σ:St}{H:Hp}(I:W1)(hf:x1p)(ho:x6[∃o,CR=LT/\∀v,o.data≠ xHx]):Inv X[RN++xwG fp s.heap] Ä s:=
 I.pins_of[rG[ki hp[TD[xGn[tD z]]][TD[by
  show((hb,e)=xhy z,(f0,f1,f2,_)=hf Bt hb,(o,e',d)=ho Bt hb,yf e' e',AG e f0 f1 f2 d)]]]]
def Inv.unpinned {RN pl:Χ}{σ:St}{H:Hp}(I:Inv X[RN++pl] Ä s):W1:=I.pins_of[rG[xGn[tD xZu]]]
def xfg (hp:ynK X.A zj1)(hc:Af)(hi:PI X tg iter wi)(hg:xSf tg g)(hb:vf body tb)
  (hs:xAy[Wm=aU]):uE[.For tg iter body [] pos][xev wi g tb]:=by
 intro RN s σ H D I h;show(wpAny_For[Ý[xKA s H _ I h] λ v s1 h1=>xw3 h1 itv s2 h2] hs,(it,fp,tn,J,H2,e,I2,T,VM,f2,W,vdo)=h2,DX,SL stat[∀{H'},(xQL)->x6[iy b]][λ hn b hb=>(hn Ì,yan.2)][codeAny_forLoop_any[λ n s'=>∃i σ' H',xDs/\xJT s'.heap/\(xQL)/\W i n â] ?_ m0 (0,σ,H2,I2,VM,CG yan.1,w0)]);rintro n s3 ⟨i,σ3,H3,I3,T5,VP,w3⟩;rcases turn i n zds w3 with⟨stop,qn⟩|⟨go,N,hN,step⟩
 ·show(vQ[xI9[xxb[T.done X Ÿ hc i RN s3 zds X.xe I3[stat VP] T5 stop] r s4]] hr I4 z9,FU hr[Ou (σ3,H3,I4,qn)])
 ·show Bn[xI9[xxb[T.item X Ÿ hc i RN s3 zds X.xe I3[stat VP] T5 go] r s4]] u hr h4 z9;subst hr;show(xI9[x2i h4 s5],(x,H5,I5,r5,y5,st5,Y2)=z9,ω I5'[I5.pinned ygf[xTk st5]][xI9[x2i[hg _ s5 σ3 H5 x u _ I5' r5[step x H5 y5]] s6]],(σ6,H6,I6,q6)=z9,CJ[xI9[xw3[xJb s6 zbL _ I6 q6] f s7 q7]] again[gL zcy[Inv X[RN++xwG fp s5.heap] zcy s7][N zcy->∃m,m<n/\∃i σ' H',wC â s7/\xJT s7.heap/\(xQL)/\W i m â]][λ {σ7 H7} I7 n7=>by
   show(sO m' hm w7[hN zcy n7] (m',hm,i+1,σ7,vdi,xWU _ _ st5 λ b hb o e=>(I7.pin zcr).1,uL,w7),HD o e d[xTk st5 Ì][Az[I7.pin zcr]])])
  cases f with
  |next=>show Dj zcy I7 n7 q7[again I7 n7]
  |cont=>show Dj zcy I7 n7 q7[again I7 n7]
  |brk=>show Dj zcy I7 q7 q7 (σ7,vdi,q7)
  |ret v=>show xxx x7 zcy I7 r7 q7 q7 (x7,σ7,vdi,r7,q7)
universe s
def xqG {K:Frag}{a:RA}{xs:SC}{g:TG}{tb:TS}{D:Ends}(Pv:x0I)(h0:GX 0)(hl:∀i σ H,me->lV->Zq)
  (hs:∀i x σ H,uG->lV->oh[ie D zfu]) (hd:∀σ H,ynE->lN):
  Yh F9[x07 H/\∀i m σ H,x06 H->
   (xVt zY H/\lN)\/((zY).go i H/\∃N,rF[xRd->eE[m'<m/\x1V zeU]]/\IH x[xWe zY H x H'->x00[ie D N N]])]:=by
 show x8 zlu;rintro i m σ H ⟨rfl,hi,p⟩;have q:=xEt Ä hi p;by_cases RQ:xKm
 ·show(vQ[.inr (veM,xZV)] e y y,xG8,xEu x σ zgd p)
 ·show aw[ao i] xCK[jk zoP]
def xrP {lo:Int}{g:TG}{tb:TS}{D:Ends}(Pv:x0I)(h0:GX 0)
  (hs:∀i σ H,i<n->lV->g[.int[lo+i]] zns) (hd:∀σ H,GX n->lN):
  Yh F9[x07 H/\∀i m σ H,x06 H->
   (xVt[xCE n] H/\lN)\/((xCE n).go i H/\∃N,rF[xRd->eE[m'<m/\x1V zeU]]/\IH x[xWe[xCE n] H x H'->x00[ie D N N]])]:=by
 show x8 zlT;rintro i m σ H ⟨rfl,hi,p⟩;by_cases RQ:i<n
 ·show vQ zk7 y y;subst e y;exact xEu σ _ RQ p
 ·show Bj[i=n] xCK;clear hs hi RQ;show(xG8,DD (ρ,hd Ä p))
abbrev R2:=V->xKG V
def xvX (X:Cx)(f:RC->RC->xOU)(r:R2):Prop:=
 ∀(RN:Χ) (s:RD) (σ:St) H x y v u Q,W1->qA->pE->G7 y H Q->
  Vo[f v u]
def UnR (X:Cx)(f:RC->xOU)(r:xKG V):Prop:=
 ∀(RN:Χ) (s:RD) (σ:St) H x v Q,W1->qA->G7 H Q->
  Vo[f v]
def xuz (X:Cx)(f:RC)(r:xAl):Prop:=
 ∀(RN:Χ) (s:RD) (σ:St) H xs us Q,W1->zK->r xs H Q->
  Vo[call f us]
def Ą (r:R2)(ta tb:TE):TE:=λ σ H Q=>rA[x1i[xY y[G7 y H2 Q]]]
def tUn (r:xKG V)(ta:TE):TE:=λ σ H Q=>rA[G7 H1 Q]
inductive rI (C:dS Int Int) (g:Fz[Fz V]) (x:V) (y:V) (H:Hp) (Q:VK):Prop
 |mk (i:_) (j:_) (h0:x=HR) (h1:y=V6) (h2:C i j) (h3:lQ wd):rI C g x y H Q
inductive rI0 (g:Fz[Fz V]) (x:V) (y:V) (H:Hp) (Q:VK):Prop
 |mk (i:_) (j:_) (h0:x=HR) (h1:y=V6) (h2:lQ wd):rI0 g x y H Q
inductive xwH (g:Fz V) (x:V) (H:Hp) (Q:VK):Prop
 |mk (i:_) (h0:x=HR) (h1:lQ[g i]):xwH g x H Q
section
variable {X:Cx}{a b c:RJ}{ta tb tc:TE}{pos:Pos}
def binT (ha:X3)(hb:xEW){RN:Χ}{s:RD}{σ:St}{R:V->V->jq}(I:W1)
  (h:rA[x1i[xY y[R x y H2]]]) {Q:BQ} {f:RC->RC->xOU}
  (hf:∀v u s2 x y H2,kc A_->qA->pE->R x y H2->xu[f v u] Q s2):
  A1[va a][λ v s₁=>xu[va b][λ u s₂=>xu[f v u] Q s₂] s₁]:=by
 show(xU[xKz v] Ķ,xFu[xUj _] u,F7 y H2 I2 r2 q2 z9[hf v u s2 x y H2 I2 B_ q2])
def ap {op:Operator}{r:R2}(ho:oC op r)(ha:X3)(hb:xEW):Ax[.BinOp a op b pos][xQ2 r tb]:=by
 intro RN s σ H Q I h;exact wpAny_BinOp[yhO hb I h λ v u s2 x y H2 I2 rx ry q=>Sg s2 H2 x y v u Q I2 rx ry q]
def xp5 {op:UnaryOp}{r:xKG V}(ho:UnR X[unaryOp op] r)(ha:X3):Ax[.UnaryOp op a pos][tUn r ta]:=by
 intro RN s σ H Q I h;exact UnaryOp_[Ý[xI5 _] λ v s1 z9=>F7 Ķ z9[Sg s1 H1 x v Q I1 r1 q1]]
def opI {f:RC->RC->xOU}{g:Fz[Fz Int]}
  (rule:∀(i j:Int) (t u:Tok) (s:RD) (Q:BQ) (E:BQ),C i j->Q[ygv wd] xYI->jx zi3 E s):
  xvX X f[wF C wd]:=by
 intro RN s σ H x y v u Q I rx ry h;show(IG i j Ð hc q,Hx,yJ[x9d j t t' s _ _ hc[xCS wd zcU q]])
def xaX {g:Fz[Fz Int]}
  (rule:∀(i j:Int) (t u:Tok) (s:RD) (Q:BQ) (E:BQ),Q[ygv wd] xYI->jx zi3 E s):
  xvX X f[tH wd]:=by
 intro RN s σ H x y v u Q I rx ry h;show(ze i j zbl,Hx,yJ[x9d j t t' s _ _[xCS wd zcU q]])
def xs8 {f:RC->RC->xOU}{g:Fz[xx5 Int]}
  (rule:∀(i j:Int) (t u:Tok) (s:RD) (Q:BQ) (E:BQ),x6T wd s->jx zi3 E s):
  xvX X f[rI0[λ i j=>.bl wd]]:=by
 intro RN s σ H x y v u Q I rx ry h;show(ze i j zbl,Hx,yJ[x9d j t t' s _ _[xA wd H I q]])
def xvl (i j:Int):Prop:=0<j/\j<1073741824
def xzk (i j:Int):Prop:=Z2 0/\xNS j/\i.natAbs<2^64
def ſ (i j:Int):Prop:=(-(2^64)<i/\i<2^64)\/(-(2^64)<j/\j<2^64)
def ſ.ok (h:ſ i j):IntMulOk i j:=by
 rcases h with⟨h1,h2⟩|⟨h1,h2⟩
 ·exact .of_left[ykI h2]
 ·exact .of_right[ykI h2]
def xhd (k):IF≤2^k:=Sc two_pow_cast wM
def xlM:oC .Add[tH[i+j]]:=x0A[add_int q]
def bi:oC .Sub[tH[i-j]]:=x0A[sub_int q]
def xzI:oC .Mult[wF ſ[i*j]]:=opI λ _ _ _ _ _ _ _ hc q=>mul_int q hc.ok
def xlE:oC .FloorDiv[wF xvl[i/j]]:=opI λ i j _ _ _ _ _ hc q=>by
 show(SB h1[IF<j] hc.1 h2[j<1073741824] hc.2,floordiv_int Z5[Sc[QI i[Rp h1]] q][.inl[PZ Z4]])
def xlK:oC .Mod[wF zr9]:=opI λ i j _ _ _ _ _ hc q=>BU h1[IF<j] hc[mod_int'[NB[Int.ne_of_lt hc]][Sc[Int.fmod_eq_emod_of_nonneg i[Rp hc]] q]]
def xtY:oC .LShift[wF zkb]:=opI λ _ _ _ _ _ _ _ hc q=>lshift_int_small hc.1[Az hc][Et hc] q
def xpl:oC .RShift[wF[λ _ j=>Z2 0][i/xEN]]:=opI λ i j _ _ _ _ _ hc q=>
 rshift_int hc[Sc[QI i[xhd _]] q]
def xzr:oC .BitAnd[tH[Builtin.bitAnd i j]]:=x0A[and_int q]
def xnC:oC .BitOr[tH[Builtin.bitOr i j]]:=x0A[or_int q]
def xl5:oC .BitXor[tH xIU]:=x0A[xor_int q]
def unI {g:Fz Int}
  (rule:∀(i:Int) (t:Tok) (s:RD) (Q:BQ) (E:BQ),Q[ygv[g i]] xYI->jx[f vi] Q E s):
  UnR X f[xwH[xD3[.int[g i]]]]:=by
 intro RN s σ H x v Q I rx h;show(zc i q h,xAB t[x9d t s _ _[xCS[g i] zcU q]])
def xpk:UnR X[unaryOp .USub][xwH yj7]:=unI λ _ _ _ _ _ q=>neg_int q
universe s
def xkt:V->xx5 V
 | .non,.non=>true| .non,.int _=>true| .int _,.non=>true| .non,.bl _=>true| .bl _,.non=>true| .non,.str _=>true| .str _,.non=>true
 | .int _,.int _=>true| .bl _,.bl _=>true| .str _,.str _=>true| .byt _,.byt _=>true
 | .int _,.str _=>true| .str _,.int _=>true| .bl _,.str _=>true| .str _,.bl _=>true
 |_,_=>false
inductive rEq (x:V) (y:V) (H:Hp) (Q:VK):Prop
 |mk (h0:WF[xkt x y]) (h1:yO[D3 x y]):rEq x y H Q
inductive rNe (x:V) (y:V) (H:Hp) (Q:VK):Prop
 |mk (h0:WF[xkt x y]) (h1:yO[! D3 x y]):rNe x y H Q
def xo0:D3[V.int i][V.int j]=(i==j):=Dq OO
def xiG:D3[V.bl i][V.bl j]=(i==j):=Dq OO
def xob:D3[V.str i][V.str j]=(i==j):=Dq OO
def x0:D3[V.byt i][V.byt j]=(i.toList==j.toList):=by
 show([OO],xOl i j);simp
section
variable {X:Cx}{a b c:RJ}{ta tb tc:TE}{pos:Pos}
def xfk {RN:Χ}{σ:St}{H:Hp}{s:RD}(I:W1)(q:yO k)(e:k=k'):yhJ k' s:=A6[xA k H I q]
def bM:x9H rEq:=by
 intro RN s σ H x y v u Q I rx ry h;show xBm hs q;cases x with
 |non=>
  show qX;cases y with
  |non=>show Ie[PySem.EqNone.eq_none_none ip]
  |bl j=>show Ie[PySem.EqNone.eq_none_bool ip]
  |int j=>show yJ[PySem.EqNone.eq_none_int ip]
  |str j=>show yJ[PySem.EqNone.eq_none_str ip]
  |_=>show aC
 |bl i=>
  show qX;cases y with
  |non=>show Ie[PySem.EqNone.eq_bool_none ip]
  |bl j=>show Ie[eq_bool[jU xiG]]
  |str j=>show yJ[PySem.EqMixed.eq_bool_str ip]
  |_=>show aC
 |int i=>
  show Hx;cases y with
  |non=>show Ie[PySem.EqNone.eq_int_none ip]
  |int j=>show yJ[eq_int[jU xo0]]
  |str j=>show yJ[PySem.EqMixed.eq_int_str ip]
  |_=>show aC
 |str i=>
  show Hx;cases y with
  |non=>show Ie[PySem.EqNone.eq_str_none ip]
  |bl j=>show Ie[PySem.EqMixed.eq_str_bool ip]
  |int j=>show yJ[PySem.EqMixed.eq_str_int ip]
  |str j=>show yJ[eq_str[jU xob]]
  |_=>show aC
 |byt i=>
  show Hx;cases y with
  |byt j=>show yJ[PySem.W.eq_bytes[jU x0]]
  |_=>show aC
 |_=>cases y<;>exact absurd yby KF
def kD:x5q rNe:=by
 intro RN s σ H x y v u Q I rx ry h;show xBm hs q;cases x with
 |non=>
  show qX;cases y with
  |non=>show Ie[PySem.EqNone.ne_none_none ip]
  |bl j=>show Ie[PySem.EqNone.ne_none_bool ip]
  |int j=>show yJ[PySem.EqNone.ne_none_int ip]
  |str j=>show yJ[PySem.EqNone.ne_none_str ip]
  |_=>show aC
 |bl i=>
  show qX;cases y with
  |non=>show Ie[PySem.EqNone.ne_bool_none ip]
  |bl j=>show Ie[ne_bool[jU[x32 xiG]]]
  |str j=>show yJ[PySem.EqMixed.ne_bool_str ip]
  |_=>show aC
 |int i=>
  show Hx;cases y with
  |non=>show Ie[PySem.EqNone.ne_int_none ip]
  |int j=>show yJ[ne_int[jU[x32 xo0]]]
  |str j=>show yJ[PySem.EqMixed.ne_int_str ip]
  |_=>show aC
 |str i=>
  show Hx;cases y with
  |non=>show Ie[PySem.EqNone.ne_str_none ip]
  |bl j=>show Ie[PySem.EqMixed.ne_str_bool ip]
  |int j=>show yJ[PySem.EqMixed.ne_str_int ip]
  |str j=>show yJ[ne_str[jU[x32 xob]]]
  |_=>show aC
 |byt i=>
  show Hx;cases y with
  |byt j=>show yJ[PySem.W.ne_bytes[jU[x32 x0]]]
  |_=>show aC
 |_=>cases y<;>exact absurd yby KF
def dX:aH .Lt[xAn i j[i<j]]:=xs8[xUF[lt_int q]]
def xvz:aH .LtE[xAn i j xR9]:=xs8[xUF[le_int q]]
def cZ:aH .Gt[xAn i j[j<i]]:=xs8[xUF[gt_int q]]
def xuS:aH .GtE[xAn i j[HE j]]:=xs8[xUF[ge_int q]]
def gq:aH .Is[λ x y H Q=>xAr y/\yO[yay x]]:=by
 intro RN s σ H x y v u Q I rx ry h;show(xBm zbl,xNp,is_none_gen[jU ?_]);cases x<;>first
  |(show zL rx)
  |(show Hx;rfl)
def xo8:aH .IsNot[λ x y H Q=>xAr y/\yO[! yay x]]:=by
 intro RN s σ H x y v u Q I rx ry h;show(xBm zbl,xNp,isnot_none_gen[jU ?_]);cases x<;>first
  |(show zL rx)
  |(show Hx;rfl)
def xlH (b)(h:kJ[op≠ .In])(h2:kJ[op≠ .NotIn]):x1v:=xm9 b h h2
def xfe {op:CmpOp}{r:R2}(ho:aH op r)(ha:X3)(hb:xEW)(hm:x1v):Ax[x4H [op] tG pos][xQ2 r tb]:=by
 intro RN s σ H Q I h;exact wpAny_Compare1[yhO hb I h λ v u s2 x y H2 I2 rx ry q=>Sg s2 H2 x y v u Q I2 rx ry q] hm
inductive ű (Q:Pt) (x:V) (H':Hp):Prop
 |mk (k:_) (h0:x=.bl k) (h1:JJ k):ű Q x H'
def ĕ (t:TE):TT:=λ σ H Q=>t Ä λ x H'=>ű Q x H'
def xlI {op:CmpOp}{r:R2}(ho:aH op r)(ha:X3)(hb:xEW)(hm:x1v):xyE[x4H [op] tG pos][ĕ[xQ2 r tb]]:=by
 intro RN s σ H Q I h;show(yjP[xI5 _][λ v s1 ⟨x,H1,I1,r1,q1⟩=>Ý[xUj _] λ u s2 ⟨y,H2,I2,r2,q2⟩=>
  Ý[Sg s2 H2 x y v u _ I2 B_ q2][ykj c ?_]] hm,DX,EL r3[NX (H3,I3,q3)])
inductive xlX (r':R2) (tc:TE) (σ:St) (Q:VK) (y:V) (z:V) (H3:Hp):Prop
 |mk (k:_) (h0:z=.bl k) (h1:(EB k[tc σ H3 λ w' H4=>r' y w' H4 Q][xFN false H3])):xlX r' tc σ Q y z H3
def xcU (r r':R2)(ta tb tc:TE):TE:=λ σ H Q=>rA[x1i[xY y[G7 y H2 λ z H3=>xlX r' tc σ Q y z H3]]]
def xmD {op op':CmpOp}{r r':R2}(ho:aH op r)(ho':aH op' r')(ha:X3)(hb:xEW)(hc:Ax c tc)
  (hm:A2[lastMarks [op,op'] [b,c]]:=by with_unfolding_all rfl):Ax[x4H [op,op'] [b,c] pos][xcU r r' ta tb tc]:=by
 intro RN s σ H Q I h;show(Compare_chain[Ý[xI5 _] λ v s1 ⟨x,H1,I1,r1,q1⟩=>chain_link[Ý[xUj _] λ u s2 ⟨y,H2,I2,r2,q2⟩=>
  Ý[Sg s2 H2 x y v u _ I2 B_ q2][ykj d ?_]]] hm,DX);cases r3;refine NX ?_;cases k with
 |false=>exact ite_ff[Fu eI H3 I3 q3]
 |true=>exact ite_tt[chain_last[Ý[xP8 s3 σ H3 _ I3 q3] λ w' s4 z9=>F7 z' H4 I4 r4 q4 z9[ho' RN s4 σ H4 y z' u w' Q I4 r2 r4 q4]]]
def xwR:rV sizeLine<2^63:=IC Om
def xpw (r:xxc CI):∃u,us=Gz/\mf:=by
 cases r with
 |cons r1 r2=>show EL r2[AK r1]
def xuT (r:xxc [x,y]):∃u w',us=[u,w']/\mf/\RelV y w':=by
 cases r with
 |cons r1 r2=>
  cases r2 with
  |cons r3 r4=>show EL r4[nj _ r1 r3]
def xhR (hc:xA2):xFw "max"[λ xs H Q=>∃i j,xs=[HR,V6]/\ra[if j>i then j else i]]:=by
 intro RN s σ H xs us Q I r h;show(vdR,max_two_ints hc λ h' tk k=>pY H[I.kept k] ?_ q)
 by_cases hj:j>i
 ·show Γ[Kq hj][Kq hj] Dy
 ·show Γ[Kh hj][Kh hj] Dy
def xpe (hc:xA2):xFw "min"[λ xs H Q=>∃i j,xs=[HR,V6]/\ra[if j<i then j else i]]:=by
 intro RN s σ H xs us Q I r h;show(vdR,min_two_ints hc λ h' tk k=>pY H[I.kept k] ?_ q)
 by_cases hj:j<i
 ·show Γ[Kq hj][Kq hj] Dy
 ·show Γ[Kh hj][Kh hj] Dy
def xhK:xuz X xVs[λ xs H Q=>EO i[xs=[HR]/\lQ HR]\/∃k,xs=[.bl k]/\ra[xZh k 1]]:=by
 intro RN s σ H xs us Q I r h;rcases h with⟨i,rfl,q⟩|⟨k,rfl,q⟩
 ·show Dj zbS t rfl xKL[call_int_int[Jb HR I Dy q]]
 ·show(zc u r1 xKL,EL r1[call_int_bool[xCS[xZh k 1] zcU q]])
universe s
structure F_ (h:RI)(x dx C:RA)(mA:Τ):Prop where
 obj:yC x[yfM dx]
 ns:x7K dx
 ne:dx≠x
def xif {h:RI}(n:x7K dx):∃od,yC dx od/\∀name,UF zq3:=by
 show((va1,ho,hd,hk,_,hm)=n,xDp[xZ ho[Gf name]] e[hm name]);unfold nsFind findBy at e;rw [<-Array.find?_toList] at e;show Hf lookIn hd;dsimp only
 set_option tactic.hygienic true in split
 ·rename_i y q
  show A3 q e[xxj e]
 ·rename_i q
  rw [q] at e;show(SB a[A2 yjh][by
   rw [List.any_eq_false];intro y hy;obtain⟨z,t,Vm⟩:=hk y[Array.mem_toList_iff.mp hy];simp [DictEntry.refKey,Vm]] a'[¬WF yjh][Sc a KF],w4 a'[xxj e])
def F_.look (I:F_ h x dx C mA):∃od,x7L h[yfM dx] C[some od]/\∀name,UF zq3:=
 let(od,ho,hl):=xif I.ns
 (od,JH I.obj rfl ho,hl)
section
variable {prog:RE}{w:RF}{A:RH}{E:BQ}{s:RD}{K:Frag}{x dx C f:RA}{mA:Τ}{name:Str}{v:RC}
def xb7 (X:gR)(I:ydV x dx C mA)(hg:WF[x4I C name])(hh:WF yaO)
  (ha:ya4 name) (hv:xDH x6a) (hv':WF[handedIn v]) (h:Q v xYI):
  yk[getAttr Dh name expr]:=HD od J hl I.look[PySem.W.get_value X J (QD hg).1[PySem.W.findObj_own hh ha rfl[by rw [hl,hv]]] hv' h]
def xaq (X:gR)(I:ydV x dx C mA)(hg:WF[x4I C name])
  (hf:xAp name aM) (ht:xLo) (hv:Ω x6a) (h:Q ((Xl,xSC)) s):
  yk[getMethod Dh name pl]:=HD od J hl I.look (PySem.W.method_fn X J (QD hg).1 (QD hg).2 hf[K6.mp ht] (by show(lookIn name od).map (·.isSome)=some false;rw [hl,hv];rfl) h)
def xbs (X:gR)(I:ydV x dx C mA)
  (hs:xAp zsa) (hp:WF[plainOver K C]) (ht:UF[takerIn K C name] none) (hh:WF yaO)
  (hw:yi1 ns) (hsz:yny)
  (h:xAA[F_ h' x dx C[λ y=>DM y name yV[mA y]]->xUS dx h'->xNF[Vu h'[s.toks+2]]]):
  yk[setAttr Dh name v]:=by
 show(sO od J hl I.look[PySem.W.set_plain X J hs[PySem.W.osa_open X J hp ht[Gf b]]],(cd,hc,hd')=Ql hh,SL hx[IS x (C5,some dx,.plain,#[])] I.obj[xIw[JV[JV[wpAny_loadPart hx[JV[Looks.here[PySem.W.looks_clsIn X hc] ?_]]]]]],xO hd'[Kn[xIw[JV ?_]]][wpAny_nsSet1 I.ns[xFr WA Vj]],(oD,esD,epD,hoD,hdD,hcD)=WA.count[PySem.Within.cons name v hw],Du[wpAny_lookBehind hoD[Sc hdD[pastItsLine_dict[JW hcD[Sc Ki[LY hsz 1]]]]] ?_],UN[o6 (zV Vj _[NB I.ne] I.obj,WA,I.ne) Vj])
def Cl (X:gR)(hm:xGO K C)
  (hi:xGE K C5 aM) (hf:UF[typeIn K Xl][.type "function"])
  (h:xBf sN[xP2[C5::vs]] Xl (xHl::vs,kw) zpz):
  xBf sN A C5 (vs,kw) R s:=F7 hh g d t os s[make_core zsb[λ self=>PySem.W.bind_fn X self hf] rh h]
def xiX (X:gR)(hm:xGO K C)
  (hi:xGE K C5[some xUI])
  (hb:∀self,Looks sN s.heap[bindSpecial xUI self] ((xUI,[self])))
  (h:xBf sN[yiI[BC [C5]]] xUI[BC [xHl]] zpz):
  xBf sN A C5[BC []] R s:=F7 hh g d t os s[make_core zsb hb xB1 h]
universe s
def Þ (f:Str) (v:V):yn->yn
 | []=>[((f,v))]
 |((g,x))::r=>DM g f[((g,v))::r][((g,x))::xDy r]
theorem ay (f g)(v):∀fs,(x8W).lookup g=DM g f yV[fs.lookup g]
 | []=>by
  show List.lookup g [((f,v))]=_;by_cases h:g=f
  ·show((hb:JL[g==f])=ygL,xUV hb[Kq h])
  ·show((hb:o9 g f)=ygM,xUV hb[Kh h])
 |((k,x))::r=>by
  show(Zz[ay f g v r],[Js zgY]);by_cases hk:k=f
  ·show CD hk;by_cases h:g=k
   ·show((hb:JL[g==k])=ygL,xUV hb[Kq[h.trans hk]])
   ·show((hb:o9 g k)=ygM,xUV hb[Kh[λ e:g=f=>h[e.trans hk.symm]]])
  ·show wG hk;by_cases h:g=k
   ·show((hb:JL[g==k])=ygL,xUV hb[Kh[λ e:g=f=>hk[h.symm.trans e]]])
   ·have hb:o9 g k:=ygM;simp only [List.lookup,hb];show x0t
theorem xpd (f)(v):∀fs,f∈(x8W).map (·.1)/\∀g,g∈fs.map (·.1)->g∈(x8W).map (·.1)
 | []=>IQ[by simp [Þ]] g h Ed
 |((k,x))::r=>by
  show((i1,i2)=xpd f v r,[Js zgY]);by_cases hk:k=f
  ·show CD hk;subst hk;show AX Z6[λ g h=>xBs]
  ·show Ζ[Kh hk][uY ?_ g h]
   ·show Sc L5[AU i1]
   ·rw [L5] at h ⊢;show lh h e e
    ·exact Kt.mpr x6U
    ·exact AU[i2 g e]
theorem xkV (f)(v):∀fs,Ez x8W[fs.length+1]
 | []=>by simp [Þ]
 |((k,x))::r=>by
  show(Zz[xkV f v r],[Js zgY]);by_cases hk:k=f
  ·show bE[Kq hk] Ki Ki xPV
  ·show bE[Kh hk] Ki Ki[LY ih 1]
def UC.some_of (r:UC yV o):∃u,wX o/\fz:=by
 cases o with
 |none=>show xR3
 |some u=>show Ef zbS r
def UC.none_of (r:UC none o):Ω o:=by
 cases o with
 |none=>rfl
 |some u=>show xR3
def zn (r:fz):WF[handedIn u]:=by
 cases v with
 |non=>show zL[BL u Value.none r]
 |bl b=>show zL[BL u ymU r]
 |int i=>show(iR zsU,zL e)
 |str x=>show(iR zsV,zL e)
 |byt b=>show(iR e[xP1[u=yl2 t]],zL e)
 |flt b=>show(iR e[xP1[u=yei b]],zL e)
 |ref a=>show zL[BL u JF r]
 |ty n=>show zL[BL u ymV r]
section
variable {P:RE}{w:RF}{H H':Hp}{h h':RI}{a C dx:RA}{fs fs':yn}
def xgx (hok:oX)(e:ni a C fs):∃mA,F_ h a dx C mA/\EG zsO/\yki/\ynA/\xx2 dx a:=by
 show((d,z,ne,ob,mA,n,r,q)=vq[jX[xUo C fs]][hok a _ e],pK mA (ob,n,ne) r q z d)
universe s
structure Cls (K:Frag)(C:RA):Prop where
 pg:WF[x4I C Str.empty]
 hd:WF yaO
 po:WF[plainOver K C]
 sa:xAp zsa
def Cls.get {K:Frag}(c:X5)(f):WF[x4I C f]:=c.pg
def NoAttr (K:Frag)(C:RA)(f:Str):Prop:=ya4 f
def NoAttr.taker {K:Frag}(n:gM f):UF[takerIn K C f] none:=xx9 takerIn[show ya4 f from n]
structure Meth (K:Frag)(C:RA)(m:Str)(f:RA):Prop where
 at_:xAp m aM
 fn:xLo
 kp:X4
section
variable {X:Cx}{RN:Χ}{σ:St}{H:Hp}{s:RD}{a C dx:RA}{fs:yn}{f:Str}{v:V}{A:RH}{E:BQ}
def xgK {b:Bool}{Q:BQ}(I:W1)(e:ni a C fs)(c:Wq)(n:NoAttr z_ f)(l:xDH xVx)
  (h:∀u s',xDc->fz->Q u s'):qH[getAttr Aj f b] Q E s:=by
 show((mA,O,r,_,_,_)=x5L e,HD Ģ ru[UC.some_of (v:=v) (o:=mA f) (C8 l[r f])][xb7 I.kIn O[c.get f] c.hd n hu[zn ru][h u _ uu ru]])
def xfb {m:Str}{g:RA}{pl:xBQ}(I:W1)(e:ni a C fs)(c:Wq)(k:xY5 m g)(l:ydM m)
  (h:Q ((.ref g,Dl)) s):qH[getMethod Aj m pl] Q E s:=by
 show((mA,O,r,_,_,_)=x5L e,BU hn[Ω[mA m]][UC.none_of[C8 l[r m]]][xaq I.kIn O[c.get m] k.at_ k.fn hn h])
def xgM {y:V}{u:RC}{Q:tP Unit}(I:W1)(e:ni a C fs)(c:Wq)(n:NoAttr z_ f)(hl:ynJ)(ry:pE)
  (h:qF[kc[kS H a C[x2X y fs]] s'->x0X]):qH[setAttr Aj f u] Q E s:=by
 show((mA,O,r,wi,_,ho)=x5L e,SL hz (yhB (fs.map (·.1)))[X8 Om[Ga[Ks hl]]][xbs I.kIn O c.sa c.po n.taker c.hd wi hz λ h' O' sb=>yaH],xa hd[∃o,h'.get? dx=LT][let(o,_,_,e',_):=O'.ns;x1Q e'][I.write yed[.inr ho][λ b q hb z=>zV sb Ì z] hd ?_] (Κ O.ne ho,?_,O.ne,O'.obj,_,O'.ns,Gf g,UV g hg))
 ·show Jx[xkV f y fs][JW this hl]
 ·show yM[UC[(x2X y fs).lookup g][xJr g f u[mA g]]] ay;by_cases q:g=f
  ·show Γ[Kq q][Kq q] ry
  ·show Γ[Kh q][Kh q][r g]
 ·by_cases q:g=f
  ·show Sc q (xpd f y fs).1
  ·refine(xpd f y fs).2 g[wi g[TD[hg ?_]]];show Ω[xJr g f u[mA g]];show w4 q z
def Inv.made (I:W1):kc[xq[xx4 s.heap.objs.size Iy] Iy zry][kR xId]:=by
 show(Gn[ZS xUu s.heap.objs.size emptyDict][K1 s.heap rfl][ZS xId Iy xWx][by
  have:=K1 xUu (o:=xWx) rfl
  rwa [O2] at this],(e3:(xUu).Ns s.heap.objs.size xUT)=rE emptyDict #[] _ e1[uo e he he Z6] JC,ω I1[I.laid (a:=s.heap.objs.size) (o:=.own Iy) (t':=s.toks) (λ b u q=>eO) ρ[PL e1]][I1.laid[λ b u q=>eO][JQ[O2 _ _]] ?_],SL ne[s.heap.objs.size≠Iy][Lc xHE] (xLy ne ae,Bz,ne,e2,xUT,(Heap.Ns1.of_empty e3).at λ o q=>eO,λ _=>True.intro,uo y hy rfl hy))
def Ev (hb:yct f env[xxT e]=xxT e)
  (h:aY[xxT e][λ o s₁=>xGV[getAttr o f true] s₁] E s):yk[xxT[xVT e pos]]:=
 Attribute_any_ h[by rw [arm_eval_Attribute,hb]]
universe s
inductive _o (K:Frag) (f:Str) (Q:VK) (x:V) (H1:Hp):Prop
 |mk (a:_) (C:_) (dx:_) (fs:_) (v:_) (h0:x=Aj) (h1:eC[H1 a] fs) (h2:X5) (h3:gM f) (h4:xDH xVx) (h5:rC v):_o K f zcb
def xkw (K:Frag)(ta:TE)(f:Str):TE:=λ σ H Q=>rA[_o K f zcb]
inductive M_ (K:Frag) (f:Str) (D:Ends) (σ:St) (y:V) (x:V) (H2:Hp):Prop
 |mk (a:_) (C:_) (dx:_) (fs:_) (h0:x=Aj) (h1:eC[H2 a] fs) (h2:X5) (h3:gM f) (h4:ynJ) (h5:xUQ[kS H2 a C[x2X y fs]]):M_ K f D σ y x H2
def xeU (K:Frag)(ta tv:TE)(f:Str):TS:=λ D σ H=>tv Ä[tX y[xU9 H1[xY x[M_ K f D σ y x H2]]]]
section
variable {X:Cx}{o e value:RJ}{f:Str}{pos pos' tpos:Pos}{ta tv:TE}
def xvM (he:Ax e ta)(hb:yct f X.env xRq=xRq):Ax[xVT e pos][xkw X.K ta f]:=by
 intro RN s σ H Q I h;show(Ev hb[bG I h u],(x,vbQ,a,C,dx,fs,v,ex,ea,c,n,l,q)=z9,aI[u=JF],xgK I1 ea c n l λ u' s2 I2 ru=>(v,H1,I2,ru,q))
def xlL (ha:Y5)(hv:Ax value tv)(hs:xPw value[xVT o pos'] pos.line=xV8):xG6 [xVT o pos'] value pos[xeU X.K ta tv f]:=by
 intro RN s σ H D I h;show(plainObj_wpAny_Assign_Attribute[Ý[hv þ _ I h] λ u s1 ⟨y,H1,I1,ry,q⟩=>xFu[x3w ze9 I1 q] ov] hs,(x,H2,I2,rx,a,C,vcy,c,n,l,q2)=z9,aI[ov=JF],xgM I2 ea c n l ry λ s3 I3=>xDu _ I3 q2)
universe s
section
variable {X:Cx}{RN:Χ}{σ:St}{H:Hp}{s:RD}{A:RH}{E:BQ}{Q:BQ}{c:RC}{b:Bool}
inductive xql (K:Frag) (H:Hp):V->xyQ where
 |non:x8S .non "NoneType"
 |bl (x:Bool):x8S[.bl x] "bool"
 |int (i:Int):xW4 HR xVs
 |str (x:Str):x8S BX "str"
 |flt (x:UInt64):x8S[.flt x] "float"
 |lst {a:RA} {xs:SC} (e:Α=Gq):xQ3 xGh
 |frz {a:RA} {o:RK} {xs:SC} (e:dE[.frz o xBZ]):xQ3 xGh
 |tup {a:RA} {xs:SC} (e:aZ Α):xQ3 xVi
 |dK {a:RA} {Sa:xO9} (e:dE Sn):xQ3 x3T
 |dT {a:RA} {Sa:xQN} (e:x1a):xQ3 x3T
 |ins {a C dx:RA} {fs:yn} (e:ni a C fs) (cl:X5) (ha:xAp zpZ)
   (hn:UF zmS) (htk:mw[takesIn K xw2])
   (hm:mw[xCd C xVa]):xQ3 C5
def xiv {x:V}{u t:RC}(I:W1)(rx:mf)(ty:xql X.K H x t)(e:UF[yeD t c] b)(h:∀tk,x6T b[ybw tk]):
  qH[xA6 "isinstance" [u,c]] Q E s:=by
 cases ty with
 |non=>show EL[BL u Value.none rx][xVA PySem.W.kitx_none e Jf h]
 |bl y=>show EL[BL u[Value.bool y] rx][xVA PySem.W.kitx_bool e Jf h]
 |int i=>show(iR q[vq[JM[u=xGG i]] rx],EL q[xVA PySem.W.kitx_int e Jf h])
 |str y=>show(iR q[vq[JM[u=xWd y]] rx],EL q[xVA PySem.W.kitx_str e Jf h])
 |flt y=>show(iR q[vq[JM[u=yei y]] rx],EL q[xVA PySem.W.kitx_float e Jf h])
 | @lst a xs ea=>
  show(fG JF rx,ygc n h1[vq[xXe H a xBZ] x0D][ynH[xxu h1] e Jf h])
 | @frz a ob xs ea=>
  show(fG JF rx,(_,_,_,n,_,h1)=vq[xXe H a[.frz ob xBZ]] x0D,ynH[xxu h1] e Jf h)
 | @tup a xs ea=>
  show(fG JF rx,(_,_,_,p)=vq[xXe H a x6d] x0D,(o,é,_)=p,xMv PySem.W.kitx_tuple[xZ Ç] e Jf h)
 | @dK a Sa ea=>
  show(fG JF rx,(_,_,vs,_,p)=vq[xXe H a Sn] x0D,yao es ep Ç p,ynI[xZ h1 xy] e Jf h)
 | @dT a Sa ea=>
  show(fG JF rx,(_,_,xs,_,va1,é,_)=vq[xXe H a xxz] x0D,ynI[xZ h1 xy] e Jf h)
 | @ins a C dx fs ea cl ha hn htk hm=>
  show(fG JF rx,(mA,O,_)=x5L ea,xVG od J O.look[xMv[PySem.W.kitx_own[cl.get _] cl.hd ha hn htk hm] J e Jf h])
universe s
structure RU (k:Nat)(A:RH):Prop where
 hd:30≤k->ydv
 dp:ydW[xZA[3*k]+5]
 un:xM0[16*k]+200<cLine
 gd:UF A.guards []
def RU.mono (r:xTy)(h:j≤k):RU j A:=(x7d[JW z h],by show(xNJ,DE znX zsd XL[JU 3 h] this),by show(xG7,DE znw zrG XL[JU 16 h] this),r.gd)
theorem RU.deeper (r:RU[k+1] A)(env):xGB k env:=
 (x7d[LU z],by show xNJ;show xZA 1+3*k+5<_;show Bg [_,_,_] zjM zrH,by show xG7;show xM0 3+16*k+200<_;show Bg [_,_,_] zh9[jF[.a IU xYg] 200] zdf,r.gd)
theorem RU.in1 (r:RU[k+1] A):RU k A.in1:=
 (x7d[LU z],by show xNJ;show xZA[3*k]+5<_;show Bg [_,_,_] zjM[xAs xIP] zdf,by show xG7;show xM0 1+16*k+200<_;show Bg [_,_,_] zh9 zqC,r.gd)
def xg5 {A:RH}:(xP2[C5::us]).depth=xZA 1:=by
 first|rfl|simp [Around.under,Code.weight,Code.isCreation,Code.isGuard,Code.isCaller,Code.frames,Code.isFrame,guardIds]
def xgG {A:RH}:(xP2[C5::us]).units=xM0 1:=by
 first|rfl|simp [Around.under,Code.cUnits,Code.frames,Code.isFrame]
def make_guards {A:RH}:(xP2[C5::us]).guards=A.guards:=by
 first|rfl|simp [Around.under,Code.guards,Code.isGuard,guardIds,pushGuards]
def RU.make (r:RU[k+1] A)(C)(us)(kw):RU k[xP2[C5::us]]:=
 (x7d[LU z],by show(xNJ,Bx xg5[HJ zjM zrH]),by show(xG7,Bx xgG[HJ zh9 zqC]),make_guards.trans r.gd)
theorem RU.depth (r:xTy):ydW A.depth:=by show(xNJ,yj [_,_,_][xAs[CA 3]] Tm this)
theorem RU.units (r:xTy):xPX 64:=by show(xG7,yj zqt xOO this)
def è:TA:=λ _ H Q=>lQ []
def Õ (ta:TE)(tr:TA):TA:=λ σ H Q=>rA[tr ı[xY xs[Q[x::xs] H2]]]
section
variable {X:Cx}{e:RJ}{es:FA}{te:TE}{t:TA}{pos:Pos}
def xrU:oK [] è:=λ _ _ _ _ H Q I h=>Calls.spliced_nil[Jb [] I .nil h]
def ac (ha:Lp)(hr:oK es t)(hs:AM[w8=EX::Uy]):oK cD[Õ te t]:=by
 intro pos RN s σ H Q I h;show([hs],uM[spliced[EX::xMQ es]],Calls.spliced_cons[xKz u],F7 Ķ z9[Ý[hr pos zcv _ zbO] λ us s2 z9=>F7 xs H2 I2 r2 q2 z9 (x::xs,H2,I2,.cons B_,q2)])
inductive _q (Q:VK) (xs:SC) (H1:Hp):Prop
 |mk (h0:nQ) (h1:∀p,CU p->xEM[sG H1 p xs]):_q Q xs H1
def tTup (t:TA):TE:=λ σ H Q=>uB xs[_q Q xs H1]
inductive _p (Q:VK) (xs:SC) (H1:Hp):Prop
 |mk (h0:nQ) (h1:∀p,CU p->xEM[EN H1 p xs]):_p Q xs H1
def c_ (t:TA):TE:=λ σ H Q=>uB xs[_p Q xs H1]
def aT {x1}(h:oK es t):Ax[x5d x1 pos][tTup t]:=by
 intro RN s σ H Q I hq;show(wpAny_Tuple_spliced[Ý zli],SL hf yjB xMe[xAj yjy[sG zqs xs] zmT],Iv z us r[zd _ Bb È])
def aK (h:oK es t):Ax[.List es pos][c_ t]:=by
 intro RN s σ H Q I hq;show(wpAny_List_spliced[Ý zli],SL hf yjB xMe[xAj yjy[EN zqs xs] zmT],AG z us 0 r Bb)
universe s
abbrev Sp:=SC->Hp->dS VK XK
abbrev C_:=uz->Hp->RD->XK->BQ
structure xvP (P:RE)(w:RF)(K:Frag)(mg:Τ)(base:RI)(A:RH)(outer:uz)(s:RD)(H:Hp):Prop where
 frames:x49 outer
 mod:Mod Â base
 bs:∀b o,base.get? b=LT->CR=LT/\Ic
 bsz:base.objs.size≤s.heap.objs.size
 funs:x2T outer
 frf:Eg yeE Ic
 hok:xB2 H s.heap
 bare:ylu
 qt:xqq A H
def xjm (outer:uz)(P:RE)(w:RF)(H:Hp)(s:RD)(Q:VK)(u:RC)(s':RD):Prop:=
 ∃v H',yip/\xMp/\Un yeE [] H zj0/\xB2 H' s'.heap/\fz/\dO
def xa9 (CX:C_)(outer:uz)(P:RE)(w:RF)(H:Hp)(s:RD)(Q:VK)(E:XK)(r:Result)(s':RD):Prop:=
 match r with
 | .ok[.ret u]=>ygN P w H s Q u s'
 | .ok _=>False
 | .error e=>ygO H s E Ž
structure xzf (P:RE)(w:RF)(K:Frag)(mg:Τ)(base:RI)(CX:C_)(k:Nat)(f:RA)(fd:RG)(ps:C6)(sp:Sp):Prop where
 len:∀vs H Q E,o3->mI
 run:∀(A:RH) (outer:uz) (s:RD) (H:Hp) (args:Args) (us:DC) (vs:SC) (Q:VK) (E:XK),xTy->xRW Â A s H->BindsTo s fd args xME->xJp->o3->
  xBf[yh7 w] A Xl args[xa9 CX outer P w H s Q E] s
theorem xzf.mono {P:RE}{K:Frag}(F:vc P w K CX j zfQ)(h:j≤k):
  vc P w K CX zcK:=(F.len,λ A outer s H args us vs Q E hr=>xWf A s H zej Q E[hr.mono h])
def xzf.imp {P:RE}{K:Frag}(F:vc P w K CX zcK)
  (h:∀vs H Q E,sp' å->o3):vc P w K CX k Ò ps sp':=
 (λ vs H Q E q=>F.len å[wK _ _ q],λ A outer s H args us vs Q E hr he hb hv hs=>xWf A s H zej Q E hr he hb hv[wK _ _ hs])
def xvP.make {K:Frag}(e:xRW Â A s H)(C)(us)(kw):
  xRW Â[xP2[C5::us]] s H:=(by first|exact e.frames|(simpa [Around.under,Code.envs,Code.isFrame,pushEnvs] using e.frames),e.mod,e.bs,e.bsz,e.funs,e.frf,e.hok,e.bare,e.qt)
theorem xvP.in1 {K:Frag}(e:xRW Â A s H):
  xRW Â A.in1 s H:=(e.frames,e.mod,e.bs,e.bsz,e.funs,e.frf,e.hok,e.bare,e.qt)
section
variable {X:Cx}{RN:Χ}{σ:St}{H:Hp}{s s':RD}
def Inv.env0 (I:W1):xvP ŷ X.K zfU X.A X.stack s H:=
 (I.ok.frames,I.ok.mod,I.bs,x4i I.sz,vfv,I.hok,I.bare,I.qt)
def Inv.after {Q:VK}{u:RC}(I:W1)(h:xjm X.stack ŷ H s Q u s'):wR u s':=by
 show(Hv v H' os bare un hok r q,(hh,g,d,t,os')=s',Fv[os'=s.os] os,AG v H'[I.call (h':=hh) (g':=g) (d':=d) (t':=t) (ch:=[]) un hok zse] r q)
universe s
def tCall (sp:Sp)(Uu:SC)(E:XK)(t:TA):TE:=λ σ H Q=>uB vs[sp[vs++Uu] H1 Q E]
inductive ŭ (C:RA) (m:Str) (sp:Sp) (Uu:SC) (E:XK) (t:TA) (σ:St) (Q:VK) (x:V) (H1:Hp):Prop
 |mk (a:_) (dx:_) (fs:_) (h0:x=Aj) (h1:eC[H1 a] fs) (h2:ydM m) (h3:xQF[xY vs[sp[x::(vs++Uu)] H2 Q E]]):ŭ C m sp Uu E t zcG
def xr0 (C:RA)(m:Str)(sp:Sp)(Uu:SC)(E:XK)(ta:TE)(t:TA):TE:=λ σ H Q=>rA[ŭ C m sp Uu E t zcG]
def xjD (C:RA)(sp:Sp)(Uu:SC)(E:XK)(t:TA):TE:=λ σ H Q=>uB vs[∀x dx,CU x->CU dx->dx≠x->
 sp[Dh::(vs++Uu)][kS[xB9 H1 dx x] x C []] zoQ]
def Binds (K:Frag)(fd:RG)(ps:C6)(ds:DC):Prop:=
 ∀s us,gR->xF2[CZ us ds]->xJ4 s us[ps.zip[us++ds]]
def Binds.all {K:Frag}{fd:RG}(h:∀us:DC,xF2 us.length->xWk fd us=yib):eB:=λ s us _ hl=>pV Ku hl[.of_eq[h us hl]]
def xv9 (CX:C_)(X:Cx)(E:XK):Prop:=∀(RN:Χ) (σ:St) (H:Hp) s e s',W1->CX X.stack H s E Ž->X.xe Ž
section
variable {X:Cx}{CX:C_}{k:Nat}{f C:RA}{fd:RG}{ps:C6}{sp:Sp}{Uu:SC}{ds:DC}{E:XK}{x m:Str}{p pos apos:Pos}{e o:RJ}{es:FA}{ta:TE}{t:TA}
def xkT {RN:Χ}{σ:St}{H:Hp}{s:RD}{Q:VK}{us:DC}(F:HS)(hr:pA)(hb:UM)(hd:VJ)(hx:xFb)
  (I:W1) (r:xJp) (h:sp[vs++Uu] H Q E):Vo[xVv us]:=by
 show AH r2 zoa hl zq4;cases r with
 |error e=>exact hx RN Ä s Ž I hq
 |ok fl=>
  cases fl with
  |ret u=>exact I.after hq
  |next=>show b9
  |brk=>show b9
  |cont=>show b9
def xrR (F:HS)(hr:pA)(hg:yF)(hm:yr=aM)(hk:xw5 X.K Xl)(hb:UM)(hd:VJ)(hx:xFb)
  (ha:om) (YY:sV) (he:AM[w8=EX::Uy]) (T6:de):
  fk x p cD[yhc Uu E t]:=by
 intro RN s σ H Q I h;show xAf xRA[Oi zfh hk zhS T6][xkT F zca I1 r q]
def xmi (F:HS)(hr:pA)(hg:yF)(hm:yr=aM)(hk:xw5 X.K Xl)(hb:UM)(hd:VJ)(hx:xFb)
  (YY:sV):fk x p [][yhc Uu E è]:=by
 intro RN s σ H Q I h;show EC xRA[ygP hk[xX7 [] F zca I .nil h]]
def xzO {pl:xBQ}(he:Y5)(c:Wq)(hm:xY5 m f)(F:HS)(hr:pA)(hb:UM)(hd:VJ)(hx:xFb)(ha:om)
    (Uh:AM[w8=EX::Uy]) (T6:de)
    (ht:AM[va xDB=(do
      let ov<-qe
      xAO
      let((f,first))<-xAW zc5
      xES x8B)]):
    Ax xDB[xT2 Uu E ta t]:=by
  intro RN s σ H Q I h
  show(x1g zdM,vcz,xAf zkG[xX7[Aj::us] zjl zca I2[x5k r] q2])
def xtZ {pl:xBQ}(he:Y5)(c:Wq)(hm:xY5 m f)(F:HS)(hr:pA)(hb:UM)(hd:VJ)(hx:xFb)
    (ht:AM[va xDC=(do
      let ov<-qe
      xAO
      let((f,first))<-xAW zc5
      xES xPh)]):
    Ax xDC[xT2 Uu E ta è]:=by
  intro RN s σ H Q I h
  show(x1g zdM,vcz,EC xUm[ygg Dl zjA[xX7 Dl (vs:=Dl) F zca I1 x6C q]])
structure xs6 (K:Frag)(C f:RA):Prop where
 makes:xGO K C
 init:xGE K C5 aM
 fn:xLo
 kp:xw5 K C5
def xmf {RN:Χ}{σ:St}{H:Hp}{s:RD}{Q:VK}{us:DC}(M:xs6 z_ f)(F:HS)(hr:xGe[k+1])(hb:UM)(hd:VJ)
  (hx:xFb) (I:W1) (r:xJp)
  (h:∀x dx,Bf x->Bf dx->dx≠x->sp[Dh::(vs++Uu)][kS zjN C []] zoQ):
  Vo[call C5 us]:=by
 show(Ty zoi zpX,AH r2[Vals[V.ref Iy::(vs++Uu)][xMa Iy[us++ds]]][x5k ydH] hl[xF2[CZ[xMa Iy us] ds]][qD e r2.length[x6V _ _ _ hq] e e.symm][P4[Cl zjg M.init[K6.mp M.fn][Pf[x4c _ _ _[BC[xMa Iy us]][xMa Iy[us++ds]] _ _ E[hr.make C us []][I2.env0.make C us []][xJb[xMa Iy us] I2.kIn hl] r2 hq][xFy r YW]]]])
 cases r with
 |error e=>exact hx RN σ _ _ Ž I2 YW
 |ok fl=>
  cases fl with
  |ret u=>
   obtain⟨v,H',I3,rv,ev,q3⟩:=I2.after YW;subst ev;show AX rv[Fu[V.ref Iy] H' I3 q3]
  |next=>show lE YW
  |brk=>show lE YW
  |cont=>show lE YW
def xzy (M:xs6 z_ f)(F:HS)(hr:xGe[k+1])(hg:yF)(hm:yr=Ff)(hb:UM)(hd:VJ)(hx:xFb)
  (ha:om) (YY:sV) (he:AM[w8=EX::Uy]) (T6:de):
  fk x p cD[xjD C sp Uu E t]:=by
 intro RN s σ H Q I h;show xAf xRA[Oi zfh M.kp zhS T6][xmf M F zca I1 r q]
def xlC (M:xs6 z_ f)(F:HS)(hr:xGe[k+1])(hg:yF)(hm:yr=Ff)(hb:UM)(hd:VJ)(hx:xFb)
  (YY:sV):fk x p [][xjD C sp Uu E è]:=by
 intro RN s σ H Q I h;show EC xRA[ygP M.kp[xmf (us:=[]) M F zca I .nil h]]
universe s
section
variable {X:Cx}{CX:C_}{k:Nat}{f C:RA}{fd:RG}{ps ks:C6}{sp:Sp}{E:XK}{x m:Str}{p pos apos kpos:Pos}{e o:RJ}{es:FA}{kws:ydj}{te ta:TE}{t tk:TA}{nm:Option Str}
variable {g:DC -> DC -> DC}{gV:SC -> SC -> SC}
universe s
structure xux (N P:C6)(sc:Scope):Prop where
 kind:ybz sc.kind
 co:A2 sc.isCoroutine
 gen:A2 sc.isGenerator
 nd:N.Nodup
 pre:yk6=P
 par:lF P[xUG x .local\/x8e x]
 nofree:tQ sc.names[x4u y.2]
def scB (N P:C6)(c:Scope):Bool:=D3 c.kind .function&& ! c.isCoroutine&& ! c.isGenerator&&decide N.Nodup&&D3 yk6 P&&P.all[kP x[UF ykJ .local\/xOf ykJ]]&&c.names.all[kP y[x4u y.2]]
def xeK {N P:C6}{c:Scope}(h:WF[scB N P c]):xux N P c:=by
 simp only [scB,OD,decide_eq_true_eq,QZ,List.all_eq_true] at h;show(((((((a,b),d),e),f),g),i)=h,(a,b,d,e,f,g,i))
theorem xnc {kindOf:xA3 x3y}:gL binds zpb[x33 binds m x=m x]
 | [],_,_=>rfl
 |((n,v))::r,m,h=>by
  show Hf bindL[xnc λ w hw=>uA w hw]
  split
  ·have:x≠n:=by show(mD,eJ v)
   show ygQ
  ·rfl
theorem xmo {kindOf:xA3 x3y}:gL binds zpb[x34 binds m x=m x]
 | [],_,_=>rfl
 |((n,v))::r,m,h=>by
  show Hf bindC[xmo λ w hw=>uA w hw]
  split
  ·rfl
  ·have:x≠n:=by show(mD,eJ v)
   show ygQ
theorem xmk {kindOf:xA3 x3y}:∀{P:C6} {vs} {i:Nat} {m},P.Nodup->V7 P->B8 vs v->UF zs8->
  xDH[x33 xNG m x]
 | [],_,_,_,_,h,_,_=>Ed
 |_::_,[],_,_,_,_,h,_=>Ed
 |p::P,w::vs,0,m,nd,h1,h2,hk=>by
  simp at h1 h2;subst h1;show xIA;show x33 zfO p=_;show yX bindL[xnc λ v hv=>x43.1 (Pz hv).1][Kq hk];simp
 |p::P,w::vs,i+1,m,nd,h1,h2,hk=>by
  show x33 zfO x=_;unfold bindL;exact xmk x43.2 zow hk
theorem xmq {kindOf:xA3 x3y}:∀{P:C6} {vs} {i:Nat} {m},P.Nodup->V7 P->B8 vs v->xDQ zs8->
  xDH[x34 xNG m x]
 | [],_,_,_,_,h,_,_=>Ed
 |_::_,[],_,_,_,_,h,_=>Ed
 |p::P,w::vs,0,m,nd,h1,h2,hk=>by
  simp at h1 h2;subst h1;show xIA;show x34 zfO p=_;show yX bindC[xmo λ v hv=>x43.1 (Pz hv).1][Kh hk];simp
 |p::P,w::vs,i+1,m,nd,h1,h2,hk=>by
  show x34 zfO x=_;unfold bindC;exact xmq x43.2 zow hk
def start (N:C6) (vs:SC):St:=vs.map some++xUD[N.length-vs.length]
def cxOf (CX:C_) (P:RE) (w:RF) (K:Frag) (mg:Τ) (base:RI) (N:C6) (qual:Str) (scope:Scope) (f:RA) (cd:RC) (A:RH) (outer:uz) (s:RD) (H:Hp) (E:XK):Cx where
 prog:=P
 w:=w
 K:=K
 mg:=mg
 base:=base
 A:=ynR
 N:=N
 s₀:=s
 H₀:=H
 env:=xRw
 outer:=outer
 stack:=xRw::outer
 ex:=[]
 calm:=true
 fn:=xVZ
 pn:=[]
 xe:=λ e s'=>xwW P w ynR[leaving xRw e][λ _ VD=>ygO H s E e VD][λ e' VD=>ygO H s E e' VD] s'
def xmX {sc:Scope}(h:x8e x):∃c,UF[(cellsFrom n sc.names []).lookup x] c:=jA q[P1 sc.names n [][.inl h]][Option.isSome_iff_exists.mp q]
def xnd {CX:C_}{K:Frag}
  (S:xux N ps scope) (e0:xRW Â A s H) (hl:mI) (r:xJp)
  (x:InCallC s s.heap.objs.size[bindL (xRw).kindOf xME xUT][ybW Iy []][bindC (xRw).kindOf xME xUT] s1):
  xCW[cf CX zdi f cd _W s H E] xNl H s1:=by
 show((T6:ps.length≤N.length)=rO[jz S.pre] J7[zg zed zZ HN],(h1,tk,rfl,hk)=x.done,SL noA[∀b,b∉(cf CX zdi f cd _W s H E).ex][uo b z zia] ((e0.mod,S.kind,Ú,ρ,λ y z c h1 h2=>?_,UV y hy,λ y c _ h=>?_,e0.qt,yiX,vfI,e0.bs,e0.bsz,veu,e0.funs,e0.frf),rfl,e0.bare,yeF,De x.toInCall.ns[λ i y v h1 h2 h3=>?_],λ y c h=>PL[x.cell y c h],e0.hok.fresh ρ,Ο y c h,uo ĳ zfv,e0.hok.kept hk,?_))
 ·exact name_of_addr x.apart[LW h1][LW h2]
 ·have hy:x73 y\/xUq y .free:=hy;rcases hy with hy|hy
  ·exact xmX hy
  ·show xy4[S.nofree _[LW hy]]
 ·exact Ks[x.above y c[LW h]]
 ·show(SB hi[i<vs.length][by
   show xOu start;by_cases hi:i<vs.length
   ·exact hi
   ·rw [KM yeG] at h2;rw [Oy] at h2
    split at h2<;>cases h2] ha[B8 vs v][by
   show xOu start;rw [Ld yeG,KS] at h2;cases e:vs[i]? with
   |none=>show yf zci
   |some a=>show yf zci;rfl],xXH hu rv[r.get ha],AH hp[B8 ps y][xCl S.pre[List.getElem?_take_of_lt[Kk hi hl]] h1] ndP ps.Nodup[C8 S.pre[S.nd.sublist xSg]][Dt u rv]);rcases S.par y[Lq hp] with k|k
  ·show DD (k,xmk ndP hp hu k)
  ·show(pd c e[xmX k][.inr (.inl k,c,e,?_)],qD q[x.cell y c e][xmq ndP hp hu[by show scope.names.lookup y≠_;show IC k]] q q)
 ·exact e0.hok.fresh[Ks[x.above y c[LW h]]]
 ·unfold start;show(EU[_=N.length] JP JO K2,iP[HJ AO XL _z[NL.K'[zg zed oV T6]]] XL AO XL Δ τ)
def xf9 {P:RE}{w:RF}{K:Frag}{f:RA}{dV kV doc pm RO ct oc:RC}
    (lk:x13[x7p dV kV doc pm an RO ct]) (VA:xZt RO) (S:xux N ps scope)
  (len:∀vs H Q E,o3->mI)
  (WV:∀(A:RH) (outer:uz) (s:RD) (H:Hp) (vs:SC) (Q:VK) (E:XK),xGB k[xMM scope f RO]->o3->
   JM[xHw zmL/\xEV]):
  vc P w K CX[k+1] f znK sp:=by
 show(vet,xa zlp[λ⟨n,v⟩ hy=>by
  rcases S.par n (Pz hy).1 with q|q
  ·show DD q
  ·show Dr[x50[P1 _ _ _[.inl q]]]] zkL)
 subst he;show(EJ yji yk7,(t,ht,hq)=WV _W s H vs Q E[hr.deeper _] Wz,vdC)
 cases fl with
 |ret u=>
  show xxx v â J rv q hs[fin J rv q]
 |next=>
  show Dj â J q zog
 |brk=>
  show(x28 q,lE q)
 |cont=>
  show(x28 q,lE q)
section
variable {X:Cx}{x:Str}{p pos:Pos}{e:RJ}{es:FA}{t:TA}{id T:String}{r:xAl}
def tCB (r:xAl)(t:TA):TE:=λ σ H Q=>uB vs[r vs H1 Q]
def xqI (hc:xFw id r)(hg:yF)(hm:Ω yr)(hv:yhh x id)(ha:om)(hn:kJ xRv)(YY:sV)
  (he:AM[w8=EX::Uy]) (T6:de):fk x p cD[tCB r t]:=by
 intro RN s σ H Q I h;show EC[MK[xTC hv ?_ hn YY]][PyProof.Rows.callWith_builtin1 zkR T6]
def xvG (hc:xuz X x5x r)(hg:yF)(hm:Ω yr)(hv:x2Q x x5x)(ha:om)(hn:kJ xRv)(YY:sV)
  (he:AM[w8=EX::Uy]) (T6:de):fk x p cD[tCB r t]:=by
 intro RN s σ H Q I h;show EC[MK[xTC hv ?_ hn YY]][Nd zkR T6]
universe s
universe L2
namespace HT
open PySem PyProof.Rows
section
open PySem.SeqAt
open PySem.AutoSeq1 (wpAny_loadPart')
open PySem.MeetsSeq PySem.MeetsSeq2 PySem.MeetsSeq3
universe s
section
variable {prog:RE}{w:RF}{A:RH}{E:BQ}{s:RD}
def _Q (n d:Nat):qy SR
 |none=>d
 |some v=>if v<0 then sF v By else yeg
def xrq (n d:Nat):W5 d none=d:=rfl
def SY (n d k:Nat):W5 d[some zv]=xIJ k:=by
 show ug[zv<0][sF zv By][xIJ (zv).toNat]=xIJ k;show pJ Z5 KG
def xde (n d:Nat)(hd:lG d)(o:SR):lG[W5 d o]:=by
 cases o with
 |none=>exact hd
 |some v=>
  show lG[ug[v<0][sF v By] yeg];by_cases hv:v<0
  ·show CD hv;omega
  ·show w4 hv HN
def xoO (v:Int)(n d:Nat):ug[v<0] zpf=Tl[W5 d yV]:=by
 show ug[v<0] zpf=Tl[ug[v<0][sF v By] yeg];by_cases hv:v<0
 ·simp only [Kq hv];exact(Int.ofNat_toNat _).symm
 ·simp only [Kh hv];show(JK k[yjs hv],[KG],HQ[P9 k n])
  ·rw [KY z,Rj[IE z]]
  ·rw [Mx z,ykw z]
def xhi (lo hi:SR)(n:Nat):yi4 hi 1 By=((Tl[W5 0 lo],Tl[W5 n hi])):=by
 show ql[¬(Ih<0)] Z4;unfold Builtin.Slice.sliceAdjust;simp only [h1,OR];refine Prod.ext Î
 ·cases lo with
  |none=>rfl
  |some v=>exact xoO v n 0
 ·cases hi with
  |none=>rfl
  |some v=>exact xoO v n n
def xgO (i j:Nat):ybG gy Lw=j-i:=by
 unfold Builtin.Slice.slicePlaces;show ql[Ih>0][ku[Xo [] Ep AZ]];simp only [h1,if_true,Int.ediv_one]
 split<;>omega
def xnl {v:RC}{o:SR}{Q:tP SR}(p:IsPart v o)(h:Q o s):yk[Builtin.Slice.slicePartIndex v]:=by
 cases p with
 |none=>exact slicePart_none h
 |int i t=>exact slicePart_int h
def xl9 {sl:RA}{vl vu:RC}{lo hi:SR}{n:Nat}{Q:tP[Int×Int×Nat]}(hs:x2Y vl zgG)(pl:x5e lo)(pu:x5f hi)
  (h:Q ((Tl[W5 0 lo],1,W5 n hi-W5 0 lo)) s):yk[Builtin.Slice.sliceApplied x3X[pure By]]:=by
 obtain⟨os,hos,hcs,hds⟩:=id hs;unfold Builtin.Slice.sliceApplied Builtin.Slice.sliceFields;show(vt[JV[LP hos hds (x:=vl) rfl[JV[LP hos hds (x:=vu) rfl[JV[LP hos hds (x:=.none) rfl yu]]]]]][slicePart_none ?_],uM[EB[Ih==0] _ _],jR x8X[xnl pl[JV[xnl pu[JV yu]]]],uM[match yi4 hi 1 By with|((lo,hi))=>pure ((lo,Ih,ybG ú))],[xhi ú n],uM[pure ((Tl[W5 0 lo],Ih,ybG[Tl[W5 0 lo]][Tl[W5 n hi]]))],Sc xgO[Kn h])
def xaF (xs:ZR)(i k:Nat):((List.range k).filterMap λ(m:Nat)=>xs[sF gy[X9*1]]?).toArray=(yaJ).toArray:=by
 show(Bj[(λ(m:Nat)=>xs[sF gy[X9*1]]?)=λ m=>xs[i+m]?][by
  funext m;show xD1[sF gy[X9*1]=i+m] Z4],uf,ZE[pick_run xs i k] List.filterMap_map,E7[((λ x=>xs[x]?)∘λ x=>i+x)=λ m=>xs[i+m]?] rfl)
 rw [e2] at this;rw [this]
def xe7 {t sl:RA}{items:ZR}{vl vu:RC}{lo hi:SR}{Q:BQ}(ht:x8C t)(hs:x2Y vl zgG)(pl:x5e lo)(pu:x5f hi)
  (hw:¬(oU=0/\yik zJ))
  (h:Q i6[kR[xLL "tuple"[xBb[uO ybM zJ oU]]]])
  (hsz:sS items.size):yk[yhL yd]:=by
 show(SB htake[sizeOk[xBb[uO ybM zJ oU]]][by
  show sS (uO ybM zJ oU).toArray.size;show([Ko,J7,Kc,LO],Ej zs4 xYt ST hsz[JN HN IJ])] hj[zJ≤items.size][xde _ _ ρ hi],(os,hos,hcs,hds)=id hs,(hTs:s.TypeIs x3X "slice")=(os,hos,hcs));unfold getItem
 try with_reducible refine yap
 first|show Du yu|skip
 show(vt[yi9 Z9 ?_][MU zqD Mf
  (ymY Mf ht.typeIs ?_[yjF _])],veh,J' zqW,(hno:¬(JL[x0O==0&&Ih==1&&x44[zJ-oU]]))=by
  intro q;rw [OD,OD] at q;show(SB q1[x0O=0][eq_of_beq Dw.1] q2[yik[zJ-oU]][eq_of_beq IL],hw (xTq[Z1 Hg Hg[JQ[xxd q1]]],(JS[lu _I hj][Dd [_,_,_] Φ JA Ę[JQ q2.symm] IJ]))),uM[EB znL _],pJ hno xaF)
 first
  |exact x16 x2H[x7M x86]
  |exact x16 x2H[x7M[xIw x86]]
  |exact JV[x16 x2H[x7M[Kn x86]]]
  |exact JV[x16 x2H[x7M x86]]
universe s
universe HT
namespace L2
open PySem PySem.Spec PyProof.Rows
abbrev xuF:=St->xKw[SR->jq]
def xs4 (X:Cx)(e:Option RJ)(t:xuF):Prop:=
 ∀(RN:Χ) (s:RD) (σ:St) H Q,W1->xK3->
  A1[evalPart e X.env][λ u s'=>∃o H',uq/\IsPart u o/\JJ o]
def dZ:xuF:=λ _ H Q=>lQ none
inductive Ű (Q:SR->jq) (x:V) (H1:Hp):Prop
 |mk (i:_) (h0:x=HR) (h1:Q[some i] H1):Ű zcb
def Ă (t:TE):xuF:=λ σ H Q=>uB x[Ű zcb]
def xqF:∀{us},xxc jy->IntsAre us ns:=by
 induction ns with
 |nil=>intro us r;show(A8 QL r r,zG)
 |cons n ns ih=>
  intro us r;rw [L5] at r;cases r with
  |cons r1 r2=>
   show(iR e r1,A6[.cons n t[ih r2]])
section
variable {X:Cx}{e:RJ}{te:TE}{lo hi:Option RJ}{tl th:xuF}{pos p2:Pos}
def xrQ:xs4 X none dZ:=by
 intro RN s σ H Q I h;show Sc evalPart_none[Kn[Jb none I .none h]]
def xu3 (h:Lp):xs4 X[some e][Ă te]:=by
 intro RN s σ H Q I hw;show(Ζ evalPart_some[cX[xUk _ I hw] u],xLO Ķ,zc i q q1,xAL t r1 (some i,H1,I1,vi,q))
def SlR (X:Cx)(r:V->SR->x1x):Prop:=
 ∀(RN:Χ) (s:RD) (σ:St) (H:Hp) x v vl vu lo hi sl Q,W1->qA->x2Y vl zgG->x5e lo->x5f hi->G7 ú H Q->
  ∃T id,yjQ x5x=pure[xU2 id]/\s.TypeIs v T/\Vo[yhL v]
def SlR.or {r r':V->SR->x1x}(h:xC0 r)(h':xC0 r'):xC0[λ x lo hi H Q=>G7 ú H Q\/r' x ú H Q]:=by
 intro RN s σ H x v vl vu lo hi sl Q I rx hs pl pu q;rcases q with q|q
 ·exact xUk x v vl vu ú sl Q I rx zdG q
 ·exact h' þ x v vl vu ú sl Q I rx zdG q
def tSl (r:V->SR->x1x)(te:TE)(tl th:xuF):TE:=λ σ H Q=>oj[tX x[tl ı[xY l[th ë λ u H3=>G7 l u H3 Q]]]]
def xvL {r:V->SR->x1x}(hr:xC0 r)(he:Lp)(hl:xs4 X lo tl)(hu:xs4 X hi th):Ax[xGi zpa][tSl r te tl th]:=by
 intro RN s σ H Q I h;show(xU[Subscript_[bG I h v]] Ķ,xU[wpAny_Slice[Ý[hl zcv _ zbO] λ vl s2 ⟨l,H2,I2,pl,q2⟩=>xxb[hu RN s2 ë _ I2 q2] vu s3]] u H3 I3 pu q3,Ζ evalPart_none yu,(I4:kc H3[ybZ zhF])=I3.kept (t':=s3.toks) λ b ob q=>eO,(T,id,hT,ht,hg)=hr RN[ybZ zhF] σ H3 x v vl vu l u s3.heap.objs.size Q I4 r1[Heap.IsSliceOf.new ..] pl pu q3,gY[xu[subscriptTail zpa v[.ref s3.heap.objs.size]] wR[ybZ zhF]][tail_any ht hT hg[by with_unfolding_all rfl]])
def û (xs:SC)(lo hi:SR):SC:=uO[xs.drop xD9] xYC xD9
def lm (xs:SC)(lo hi):Ez[xXJ ú] xs.length:=by
 show(xG9,Γ J7 Kc[xOi IJ])
inductive rSlT (K:Frag) (x:V) (lo:SR) (hi:SR) (H:Hp) (Q:VK):Prop
 |mk (a:_) (xs:_) (h0:x=Aj) (h1:bZ ċ) (h2:¬(xD9=0/\ao xYC)) (h3:∀p,pF->xEM[sG H p[xXJ ú]]):rSlT K x ú H Q
def xcZ:xC0[rSlT X.K]:=by
 intro RN s σ H x v vl vu lo hi sl Q I rx hs pl pu h;show(IG ċ zcu hw q,qX,qo r ht hx,xa hlen yjL zk8[HT.xe7 ht zdG[Sc hlen hw] ?_[Sc hlen hz]],Ζ hlen[xAj i6 _[I.laid (t':=s.toks) (o:=.tup[xXJ ú]) zsf ?_] jo],Iv[JW[lm xs ú] hz] _[uO[r.drop xD9] xYC xD9][IsTup.new _ _])
universe s
def Ĩ (n:Nat) (i:Int):BW:=if HE 0 then ug[i<n][some i.toNat] none else ya2[HE[-By]][sF i n]
def atI {α:Type} (xs:FO) (i:Int):Option α:=(xVk i).bind[λ j=>xs[j]?]
def wT {n:Nat}(h:UF[Ĩ n i] j):UF[seqIndex? i n] j/\j<n/\HE[-By]/\i<n:=by
 show pM Ĩ;by_cases h0:HE 0
 ·show Ir[Kq h0];by_cases h1:i<n
  ·show(Ir[Kq h1],BU e[i.toNat=j][Kr h] (by rw [ycE h1,e],Z5,Z5,h1))
  ·show A8 xyG h h
 ·show Ir[Kh h0];by_cases h1:HE[-By]
  ·show(Ir[Kq h1],BU e[sF i n=j][Kr h] (by rw [ycA h0 h1,e],Z5,h1,Z5))
  ·show A8 xyG h h
def xok {α:Type}{xs:FO}{v:α}(h:xPq xs i):∃j,UF[seqIndex? i xs.length] j/\aA xs v/\iZ j/\HE[-Ψ xs.length]/\xKm:=by
 show pM atI;cases e:xVk i with
 |none=>show yf h h
 |some j=>
  show(Ir e,Dj zdA[wT e] (j,h1,h,h2,vbu))
def aF {j:Nat}{v:α}(h:aA xs v):xPq xs Lw:=by
 show SB hj[iZ j][rB h] e[UF[xVk Lw] j][by
  show yX Ĩ[Kq Z5][Kq[NS.mpr hj]];simp]
 unfold atI;show Vz h
def xij {α:Type}(xs:FO)(v:α):xPq[xs++[v]][-1]:=by
 show(SB hl[CZ xs [v]=xWp 1] Z6 e[UF[Ĩ[CZ xs [v]][-1]] xs.length][by
  show xCU Ĩ hl x8X[Kq Z4];congr 1;omega],Hf atI e);show x9[xs++[v]] xs.length v;simp
def xnz (b:RJ):Prop:=∀o i,x3q b o i=yeH [o,i] o i
def IxR (X:Cx)(r:R2):Prop:=
 ∀(value slice:RJ) (RN:Χ) (s:RD) (σ:St) H x y v u Q,W1->qA->pE->G7 y H Q->
  x3q slice v u=yeH [v,u] v u->Vo[subscriptTail value slice v u]
def MtR (X:Cx)(id:String)(r:V->xAl):Prop:=
 ∀(RN:Χ) (s:RD) (σ:St) (H:Hp) x xs v us Q,W1->qA->zK->G7 xs H Q->
  Vo[xA6 id[v::us]]
section
variable {X:Cx}{a b:RJ}{ta tb:TE}{pos:Pos}
def aL {r:R2}(hr:xZ3 r)(ha:X3)(hb:xEW)(hs:xnz b):Ax[xGi a b][xQ2 r tb]:=by
 intro RN s σ H Q I h;exact Subscript_[yhO hb I h λ v u s2 x y H2 I2 rx ry q=>hr a b RN s2 ë x y v u Q I2 rx ry q[hs _ _]]
inductive rIxL (K:Frag) (x:V) (y:V) (H:Hp) (Q:VK):Prop
 |mk (p:_) (xs:_) (i:_) (v:_) (h0:x=Dc) (h1:y=HR) (h2:zR p xs) (h3:xPq xs i) (h4:lQ v):xBq x y H Q
inductive rIxT (K:Frag) (x:V) (y:V) (H:Hp) (Q:VK):Prop
 |mk (p:_) (xs:_) (i:_) (v:_) (h0:x=Dc) (h1:y=HR) (h2:bZ p xs) (h3:xPq xs i) (h4:lQ v):rIxT K x y H Q
def xqK:xZ3[rIxL X.K]:=by
 intro value slice RN s σ H x y v u Q I rx ry h hs;show(vei,kY ry,u9 r pl hq,vfC,(fin:wR w s)=Jb z I rw' q);by_cases h0:HE 0
 ·show BU hj[i.toNat=j][A3[ycE h5] h1[Kr h1]][item_listR pl.isList h0 zpe fin hs]
 ·show BU hj[sF i yj1=j][by
   rw [ycA h0 h4] at h1;show j8 Ko hl[Kr h1]][subscriptTail_builtinR pl.isList.typeIs slot_list_getitem.lookup
   (wpAny_getItem_list_neg pl.isList[O7 h0][by rw [Ko]<;>exact M3[congrArg Neg.neg[congrArg Nat.cast hl.symm]] h4] zpe[Fw fin]) hs]
def xfj:xZ3[rIxT X.K]:=by
 intro value slice RN s σ H x y v u Q I rx ry h hs;show(vei,kY ry,qo r pl hq,vfC,BU fin[wR w s][Jb z I rw' q][subscriptTail_builtinR pl.typeIs Mf.lookup
  (getItem_tuple pl Z4 Z4[j8 Ko hl h1] yeI[Fw fin]) hs])
def xhc (its:DC)(n j)(u):Obj.mapSeq (·.setIfInBounds j u) xI3=xLT[xBb[its.set j u] n]:=by
 simp [Obj.mapSeq]
theorem Inv.lst {RN:Χ}{σ:St}(I:W1)(h:H p=Gq):
  ∃its n,xDj/\IS p xI3/\nQ:=F7 zc7 e[mW p h] (its,n,r,e,z)
def Inv.lstUpd {RN:Χ}{σ:St}{its its':DC}(I:W1)(h:H p=Gq)
  (ho:IS p xI3) (hf:f xI3=xLT[ykk n']) (r:yic its') (hz:x37) (t):
  kc[G9 p ys][Vu[ycu f] t]:=by
 show(SL e[ZS[ycu f] p[xLT[ykk n']]][by
  rw [MO f ho[by rw [hf]<;>rfl],hf]][yhD[by rw [h];trivial][λ b u hb q=>x2C xII][PL e] ?_],AG hz its' n' r e)
inductive rSetL (o:V) (i:V) (v:V) (H:Hp) (Q:jq):Prop
 |mk (p:_) (xs:_) (k:_) (j:_) (h0:o=Dc) (h1:i=x9p) (h2:H p=Gq) (h3:UF[xVk k] j) (h4:Q[G9 p[xs.set j v]]):rSetL o i v H Q
def xur:xkr X rSetL:=by
 intro RN s σ H o i v ov iv u Q I ro ri rv h;obtain⟨p,xs,k,j,rfl,rfl,hp,hj,q⟩:=h;cases ro;show(kY ri,(its,n,r,ho,hz)=I.lst hp,(vbi,h4)=wT hj,Ty zjJ hn xwR,(I':kc[G9 p[xs.set j v]] (kR (ycu (Obj.mapSeq (·.setIfInBounds j u)))))=I.lstUpd hp ho[xhc its n j u][r.set rv j][Sc N2 hz] s.toks)
 by_cases h0:0≤k
 ·show BU hk[k.toNat=j][A3[ycE h4] h1[Kr h1]][PySem.W.ki_setAt ho h0 Z4[j8 Ko hl h4][Sc hk[De I' q]]]
 ·show BU hk[sF k yj1=j][by
   rw [ycA h0 h3] at h1;show j8 Ko hl[Kr h1]][PySem.W.ki_setBack ho[O7 h0][j8 Ko hl h3] Z4[Sc hk[De I' q]]]
def sbP {i:Int}{n:Nat}(h:¬i<0):x5M[xIJ i]=Tl[xIJ i.toNat]:=by
 show(JK k[yjs h],[KG,Int.max_eq_right[Int.le_min.2 (wM,wM)]]);rcases P9 k n with e|e
 ·rw [KY e,Rj[IE e]]
 ·rw [Mx e,ykw e]
def sbN {i:Int}{n:Nat}(h:i<0):x5M[xIJ[i+n]]=Ψ[sF i n]:=by
 rw [Rj[Int.le_trans[Int.add_le_add_right[Rp h] n][Int.le_of_eq[Int.zero_add _]]],Int.toNat_eq_max,Int.max_comm]
def xgh (lo hi:SR)(n):(ycF hi none n).1=Tl[x5N 0 lo]/\Az[ycF hi none n]=Tl[x5N n hi]/\Et[ycF hi none n]=1:=by
 refine ZK Î
 ·cases lo with
  |none=>simp [sliceBounds,HT._Q]
  |some i=>
   simp only [sliceBounds,HT._Q,Option.getD_none,show Ih>0 by decide,if_true];by_cases h:i<0
   ·show xNH if_true[sbN h]
   ·show xNH OR[sbP h]
 ·cases hi with
  |none=>simp [sliceBounds,HT._Q]
  |some i=>
   simp only [sliceBounds,HT._Q,Option.getD_none,show Ih>0 by decide,if_true];by_cases h:i<0
   ·show xNH if_true[sbN h]
   ·show xNH OR[sbP h]
def o0 (its:DC)(lo hi):slicePick its.toArray ú none=(uO[its.drop[yb6 0 lo]][yb6 its.length hi][yb6 0 lo]).toArray:=by
 show(x7z zbT[xgh ú its.toArray.size],xCU slicePick h_);simp only [sliceRange_one,pick_run,Ko]<;>rfl
inductive rSlL (K:Frag) (x:V) (lo:SR) (hi:SR) (H:Hp) (Q:VK):Prop
 |mk (a:_) (xs:_) (h0:x=Aj) (h1:Zq) (h2:∀p,pF->xEM[G9 p[xXJ ú]]):rSlL K x ú H Q
def xrV:xC0[rSlL X.K]:=by
 intro RN s σ H x v vl vu lo hi sl Q I rx hs pl pu h;show(ze ċ hx q,qX,u9 r ht hx,xAd hlen r.length[xAu "list" _ slot_list_getitem.lookup ht.isList.typeIs][wpAny_getItem_list_slice ht.isList zdG .none Z6 ?_[by rw [Ko]<;>exact(zg zdB hz ycO)]],[o0,-hlen],EC[xAj i6 _[I.laid (t':=s.toks) zsf ?_] jo] (JW[lm xs ú] hz,_,0,uO[r.drop xD9] xYC xD9,Bb))
def ķ:xx5 V
 | .non=>true
 | .bl _=>true
 | .int _=>true
 | .str _=>true
 |_=>false
def eqV:V->xx5 V
 | .non,.non=>true
 | .bl a,.bl b=>a==b
 | .bl a,.int b=>ug a 1 0==b
 | .int a,.bl b=>a==ug b 1 0
 | .int a,.int b=>a==b
 | .str a,.str b=>a==b
 |_,_=>false
def xiH (ry:pE)(rx:qA)(fy:WF[ķ y])(fx:WF[ķ x]):ydk s u v[eqV y x]:=by
 cases y with
 |non=>
  show xNp;cases x with
  |non=>show xFm[SeqAt.EqAt.same _]
  |bl b=>show xFm[SeqAt.EqAt.none_bool b]
  |int b=>show xAB t[SeqAt.EqAt.none_int b t]
  |str b=>show xAB t[SeqAt.EqAt.none_str b t]
  |_=>show Dv x8h KF
 |bl a=>
  show xNp;cases x with
  |non=>show xFm[SeqAt.EqAt.bool_none a]
  |bl b=>show xFm[SeqAt.EqAt.bool_bool a b]
  |int b=>show xAB t[SeqAt.EqAt.bool_int a b t]
  |str b=>show xAB t[SeqAt.EqAt.bool_str a b t]
  |_=>show Dv x8h KF
 |int a=>
  show JK t' ry;cases x with
  |non=>show xFm[SeqAt.EqAt.int_none a t']
  |bl b=>show xFm[SeqAt.EqAt.int_bool a t' b]
  |int b=>show xAB t[SeqAt.EqAt.int_int a t' b t]
  |str b=>show xAB t[SeqAt.EqAt.int_str a t' b t]
  |_=>show Dv x8h KF
 |str a=>
  show JK t' ry;cases x with
  |non=>show xFm[SeqAt.EqAt.str_none a t']
  |bl b=>show xFm[SeqAt.EqAt.str_bool a t' b]
  |int b=>show xAB t[SeqAt.EqAt.str_int a t' b t]
  |str b=>show xAB t[yjG t' b t]
  |_=>show Dv x8h KF
 |_=>show Dv[oF false fy] KF
def xtX:xFw "len"[λ xs H Q=>∃p ys,xs=Cw/\(xS1 ys\/x9A p ys)/\xJB]:=by
 intro RN s σ H xs us Q I r h;show(vfJ,hn=xwR);rcases hq with hq|hq
 ·show(u9 r' pl hq,jA ziY[Calls.call_len_list pl.isList[by simp only [Ko]<;>lia][Jb ybg znU q]])
 ·show(qo r' pl hq,jA ziY[len_tuple pl[by simp only [Ko]<;>omega][Jb ybg znU q]])
def xvH:xuz X xGh[λ xs H Q=>∃p ys,xs=Cw/\(xS1 ys\/x9A p ys)/\∀l,DP->qM[o5 ys]]:=by
 intro RN s σ H xs us Q I r h;show(vfJ,(fin:∀(its:DC),Vals ys its->x37->∀(h':RI) (c':Nat),(∀b o',xKk CR->Xn b o')->
   ylN {cls:=xGh,dict:=none,data:=x2v c',slots:=#[]}->wR i6 tV)=λ its r' hz h' c' kp e=>
  xAj i6 _[I.laid kp ρ[show xNr _ h' _[.lst ys] from(hz,its,c',r',e)]] jo)
 rcases hq with hq|hq
 ·show(u9 r' pl hq,hlen=r'.length,F7 ž hc n hd pl.isList[yk8 rh ho hc hd zkV])
 ·show(qo r' pl hq,hlen=r'.length,F7 ž hc n hd pl[yk8 xWy ho hc hd zkV])
def xkZ:xuz X xVi[λ xs H Q=>∃p ys,xs=Cw/\((xS1 ys/\∀l,DP->qM[sG H l ys])\/(x9A p ys/\lQ Dc))]:=by
 intro RN s σ H xs us Q I r h;show(xxv p ys rfl h,zc u rx xKL,qX);rcases h with⟨hq,q⟩|⟨hq,q⟩
 ·show(u9 r' pl hq,ω ziY[call_tuple_list pl.isList[UV h' kp][by simp only [Ko]<;>exact ydl hz]],SB I1 x9t[x5p kp] I2[kc[sG H h'.objs.size ys][kR[h'.push[xAG "tuple" x2v]]]][yel s.toks[λ b o e=>yK] ρ[show xNr _ _ _[.tup ys] from(hz,its,r',IsTup.new _ _)]],xAj[.ref h'.objs.size] _ I2 xMe)
 ·show Dj its r' pl hz[I.tuple hq][call_tuple_same pl[Fu Dc H I q]]
def tyV (K:Frag)(T:String)(x:V)(H:Hp):Prop:=match x with
 | .str _=>T="str"
 | .int _=>T="int"
 | .ref p=>(T="list"/\xAC[zR p xs])\/(T="tuple"/\∃o,K.lookup p=LT/\rg xVi/\Ω o.dict)\/
   (T="dict"/\(EO Sa[yB p Sn]\/∃Sa,yB p xxz))\/(T="set"/\∃S n,yB p[.set S n])
 |_=>False
def xcA {RN:Χ}{σ:St}{H:Hp}(I:W1)(r:qA)(ty:tyV X.K T x H):
  s.TypeIs v T/\∀a,v=Aj->∃ob,IS a ob/\Ω ob.dict:=by
 cases x with
 |str z=>
  show(kY r,xIE[BL T "str" ty],AX[typeIs_str s z t][xGR e e])
 |int i=>
  show(kY r,xIE[BL T "int" ty],AX[ymZ i t][xGR e e])
 |ref p=>
  show xKe;rcases ty with⟨rfl,xs,hq⟩|⟨rfl,o,hk,hc,hd⟩|⟨rfl,hk⟩|⟨rfl,S,n,hk⟩
  ·show((its,_,pl,_)=I.list hq,EJ pl.isList.typeIs[UV a e],Hy,yao n e c hd pl,Ef o e hd)
  ·show(EJ[xZ[yam p hk] hc][UV a e],xi[xZ[yam _ hk] hd])
  ·show((z:∃o,s.heap.get? p=LT/\o.ExactDict)=by
    rcases hk with⟨Sa,hk⟩|⟨Sa,hk⟩
    ·show((_,_,_,_,o,_,_,e,ex,_)=mW p hk,Ef o e ex)
    ·show((_,_,_,_,o,_,_,e,ex,_)=mW p hk,Ef o e ex),sO o e ex z[uY[xZ e ex.1] a e2],EL zsT)
  ·show((o,_,_,_,e,ex,_)=mW p hk,EJ[xZ e ex.1][UV a e2],EL zsT)
 |_=>show lE ty
inductive tBM_p (K:Frag) (T:String) (r:V->xAl) (t:TA) (σ:St) (Q:VK) (x:V) (H1:Hp):Prop
 |mk (h0:tyV K T x H1) (h1:xQF[xY xs[G7 xs H2 Q]]):tBM_p K T r t zcG
def tBM (K:Frag)(T:String)(r:V->xAl)(to:TE)(t:TA):TE:=λ σ H Q=>to Ä[tX x[tBM_p K T r t zcG]]
variable {o e:RJ}{es:FA}{to:TE}{t:TA}{name:Str}{apos YD:Pos}{T id:String}{r:V -> xAl}
def xqB (pa:PlainAttrs T)(slot:Slot T name id)(hty:typeOf[.builtin id]=pure[.type "method_descriptor"])(hm:MtR X id r)(ho:xSX to)(ha:om)
  (Zm:AM[attributeBase o name X.env qe=qe])
  (hfew:AM[JL[(backTo YD w8).all[λ x=> ! Yo]&&(yiO YD []).all[λ x=>(Yo).isSome]
   &&vo[aO cD ([]:ydj).length+ug ([]:ydj).isEmpty 0 1] 30]])
  (hline:AM[JL[apos.endLine==YD.line]]) (hs:AM[w8=EX::Uy]) (VH:AM ((backTo zp3).any (·.1)=false)):
  Ax[ybp o name cD [] YD][tBM X.K T r to t]:=by
 intro RN s σ H Q I h;show(wpAny_Call_method_late Zm hfew hline rfl[cX[Sg s H _ I h] v],(x,H1,I1,r1,ty,q1)=z9,pd Ç[xcA I1 r1 ty] (T,id,pa,slot,hty,é,?_),hA=ha YD zcv _ zbO);rw [hs] at hA ⊢;show EC (Calls.callWith_builtin (by show(false||(backTo zp3).any (·.1))=false;rw [VH]<;>rfl)[Calls.evalArgs_plain ?_])[Ý hA λ us s2 z9=>F7 vs H2 I2 r2 q2 z9[hm RN s2 ë x vs v us Q I2 B_ q2]]
universe s
def MtM (X:Cx)(id:String)(r:V->xAl):Prop:=
 ∀(RN:Χ) (s:RD) (σ:St) (H:Hp) x xs v us Q,W1->qA->zK->G7 xs H Q->
  Vo[xA6 id[v::us]]
theorem Vals.one:gL x us[xxc CI][∃u,us=Gz/\mf]
 |_,_,.cons r .nil=>AK r
theorem Vals.rep (h:zK):∀k,Vals[Fh k xs][Fh k us]
 |0=>.nil
 |k+1=>by
  show([LF,LF,LG,LG],Vals.append h[Vals.rep h k])
theorem xna (its:DC):∀k acc,
  yif[λ x1 x2=>x1++x2] acc.toArray k=x9X acc[Fh k its]
 |0,acc=>by simp
 |k+1,acc=>by
  show(SB e[acc.toArray++its.toArray=x9X acc its] Z6 e2[(acc++its)++Fh k its=acc++Fh[k+1] its][by
   rw [LF,LG,JT]],[-e2,-xna its k[acc++its],-e,LF,Rq])
section
variable {X:Cx}{RN:Χ}{σ:St}{H:Hp}{s:RD}{l b:RA}{xs ys zs:SC}
def Inv.lset {its its':DC}{n:Nat}{f:ZR->ZR}(I:W1)(hH:Vw=Gq)
  (e:IS l xI3) (hf:f its.toArray=its'.toArray) (hv:yic its') (hz:x37):
  kc[o5 ys][Vu[s.heap.update l ylv] t']:=by
 show(FR q[PySem.IsL.update e f] hf q,EC[yhD[Sc hH trivial][λ b' u hb hu=>(Lz s.heap ylv[NB hb]).trans hu][PL q] ?_] (hz,its',_,hv,q))
def Inv.lnew {its:DC}{t':Nat}(I:W1)(hv:Vals ys its)(hz:x37):
  kc[G9 s.heap.objs.size ys][Vu[xLL "list" x2v] t']:=
 I.laid zkc (hz,its,0,hv,Bb)
theorem Inv.fresh (I:W1):ybV:=jo
def Inv.lstM (I:W1)(hH:Vw=Gq):nQ/\∃(its:DC) (n:Nat),xDj/\xGr xs.length/\IS l xI3:=F7 zc7 e[mW l hH] (z,its,n,r,r.length,e)
def xm0 (h:sS n):A2[Builtin.List.listTooLong n]:=by
 unfold Builtin.List.listTooLong;exact LL[QX.mpr h]
universe s
section
variable {X:Cx}
inductive Ŀ (x:V) (vs:SC) (H:Hp) (Q:VK):Prop
 |mk (l:_) (xs:_) (y:_) (h0:x=Hm) (h1:vs=[y]) (h2:Vw=Gq) (h3:xUH xs.length) (h4:xBx[o5[xs++[y]]]):Ŀ x zdH
def xlG:MtM X "list.append" Ŀ:=by
 intro RN s σ H x vs v us Q I rx rv h;show(Hv l xs y Ð hH hz q,vfs,xM5 zc7 hl e hH,Υ[yfs Lb e F.entry_list_append[F.args_list_append_2 _ _][PySem.list_append zet n u[Sc Ko[JW jj[Ks hz]]]][yb e]][Fu .non _[I.lset (its':=its++Gz) hH e Z6[r.append[jt ru]] ?_] q],UU N9)
 assumption
inductive ŀ (x:V) (vs:SC) (H:Hp) (Q:VK):Prop
 |mk (l:_) (b:_) (xs:_) (zs:_) (h0:x=Hm) (h1:vs=[VX]) (h2:Vw=Gq) (h3:Gk=Ak zs) (h4:sS ylZ) (h5:xBx[o5[xs++zs]]):ŀ x zdH
def xfT:MtM X "list.extend" ŀ:=by
 intro RN s σ H x vs v us Q I rx rv h;show((l,b,xs,zs,Ú,hH,hB,hz,q)=h,vfs);cases ru;show(vd1,SB hsz[sS[its.toArray.size+T7.toArray.size]][by show([Ko,Ko],IY zp4[C7 V4] XL zpt)] hlong[¬JL[! its.toArray.isEmpty&&Builtin.List.listTooLong[its.toArray.size+T7.toArray.size]]][Γ[xm0 hsz] Rv KF],Υ[yfs M9 e F.entry_list_extend[F.args_list_extend_2 _ _][AutoSeq1.list_extend_list_list_0 zet n b T7.toArray n2 hlong[Sc Ko[yeC z]][LU hsz]][Dt e e2]][Fu .non _[I.lset (its':=its++T7) hH e Z6 ymb ?_] q],yem JP)
inductive ē (x:V) (y:V) (H:Hp) (Q:VK):Prop
 |mk (l:_) (b:_) (xs:_) (zs:_) (h0:x=Hm) (h1:y=VX) (h2:Vw=Gq) (h3:Gk=Ak zs) (h4:sS ylZ) (h5:∀p,pF->xEM[G9 p[xs++zs]]):ē x y H Q
def xfn:oC .Add ē:=by
 intro RN s σ H x y v u Q I rx ry h;show((l,b,xs,zs,Ú,hH,hB,hz,q)=h,xPn,vd1,CJ[PySem.P.add_list e e2 ?_[by show([Ko,Ko],IY zp4[C7 V4] XL zpt)]] ea[its.toArray++T7.toArray=x9X its T7] Z6,Sc ea[xAj[.ref _] _[I.lnew ymb[yem JP]] I.fresh])
inductive rRep (x:V) (y:V) (H:Hp) (Q:VK):Prop
 |mk (l:_) (k:_) (xs:_) (h0:x=Hm) (h1:y=x9p) (h2:Vw=Gq) (h3:-(2^63)≤k) (h4:k<2^63) (h5:sS[xs.length*k.toNat]) (h6:∀p,pF->xEM[G9 p[Fh k.toNat xs]]):rRep x y H Q
def xbD {α:Type}(xs:FO)(k):(ykX xs).flatten.length=k*xs.length:=by
 induction k with
 |zero=>simp
 |succ k ih=>rw [LF,LG,JP,ih,Nat.succ_mul,MM]
def xpm:oC .Mult rRep:=by
 intro RN s σ H x y v u Q I rx ry h;show((l,k,xs,Ú,hH,é,hz,q)=h,qX,kY ry,xM5 zc7 hl e hH,SB hlen[sS yef][j8 Ko hl hz] hcap[¬yef>(2^63-1)/8][xy5[rV sizeLine≤(2^63-1)/8] Z9],SB hfit[¬JL[! Builtin.List.listFitsIndex k]][Sc[fitsIndex_both Ç] KF] hlong[¬WF[Builtin.List.listTooLong yef]][Sc[xm0 hlen] KF],SL hnew[yif[λ x1 x2=>x1++x2] #[][EB its.toArray.isEmpty 0 k.toNat]=yjj k.toNat its][by
  show((f0:∀m,yif[λ x1 x2=>x1++x2] #[] m=yjj m its)=λ m=>Jw[xna its m []] KN,[f0]);cases its with
  |nil=>simp
  |cons a r'=>show wG Z6][wpAny_binaryOp_repeat_ref Z9[xxu e][λ s'=>typeIs_int s' k t] noFill_list_mul F.fills_int_mul F.slot_int_rmul repeat_list F.slot_int_index.lookup
  (call_meets F.slot_int_rmul[ymZ k t] F.entry_int_rmul[F.args_int_rmul_2 _ _][int___rmul___int_list k t zet n]
   (Kd e[xxu e][yfs F.slot_list_mul e F.entry_list_mul[F.args_list_mul_2 _ _][AutoListH.list___mul___list_int_3 zet n k t hfit hcap hlong][yb e]]))],Sc hnew[xAj[.ref _] _[I.lnew[r.rep k.toNat][Γ xbD Lx hz]] I.fresh])
universe s
section
variable {prog:RE}{w:RF}{A:RH}{E:BQ}{s:RD}
set_option maxRecDepth 100000 in
universe s
section
variable {X:Cx}
universe s
universe L2
namespace Att
open PySem PySem.W PySem.Calls PyProof.Rows
def xfA:∀ns vs,WellAll P h vs ykc->xQK:=by
 intro ns
 induction ns with
 |nil=>
  intro vs w;show(A8 QL w w,zG)
 |cons n ns ih=>
  intro vs w;rw [L5] at w;cases w with
  |cons a b=>
   show EL a[.cons _ _[ih _ b]]
def xiQ {l:OpenLaw}(hn:x6y n)
  (hpre:WF[l.row.toRowW.claim.pre args]) (hwl:WellAll P h vals args):
  ∃a vs ns,vals=[JF]/\args=[WData.list ykc]/\qV xYy/\xQK/\xWj n:=by
 show(SB hsh[WF[WShape.hasAll [] args [.list .int]]] ykl.1 hc[WF[l.pre.holds [] {args:=args}]] ykl.2,xUs d r Ç[hasAllW_cons hsh],Xk[hasAllW_nil h2],zc xs h3[hasW_list h1],JK ns[items_int h3],(hlen:xWj n)=by
  unfold OpenLaw.pre at hc;show((h4:WF[(WTm.not[.lt[.lit[.int By]][.len[.arg 0]]]).holds [] {args:=[.list[ns.map .int]]}])=qD h4 (holds_andW hc).1 hn h4 h4,qv h5[condW_of h4[w_not[w_lt w_lit[w_len_list[w_arg rfl]]]]] h5,CJ[KW[Gf q]] q'[By<ynx][ku[UK q]])
  first
   |(show A3[JY q'] h5[absurd h5 Z9])
   |(simp at h5;omega))
 cases hwl with
 |cons w1 w2=>
  cases w2;cases w1 with
  |list ho Ss=>exact JG _ _ ns rfl ho[xfA ns _ Ss] hlen
def xhP (l:OpenLaw)(args:List WData):WF[l.row.toRowW.claim.post args xA7 args]:=
 postW_of
  (show WF[WShape.has [] xA7 .bool] by first|rfl|decide|simp [WShape.has,WShape.arms,WShape.armsAll])
  (show UF[(WTm.eq .res[.lit xA7]).value [] {args:=args,res:=some xA7,after:=args}][.bool[true==true]] from w_eq_bool[w_res rfl] w_lit) rfl
def attach_call {l:OpenLaw}
  (hn:x6y n) (hdf:ycB [])
  (call:∀(w:RF) (s₀ s₁:RD) (mg mb:Τ) (fa:RA) (o:RK) (pm cd doc:RC) (a:RA) (vs:DC) (ns:Ya),
   Ground q loose [] XP w s₀ mg mb s₁.heap->YP w s₁.heap->
   s₁.heap.get? fa=LT->xxS[.func[docDef d.name d.params d.body d.scope pm cd doc]]->s₁.heap.CodeRec cd d.name->yfB=υ fa->
   ycK a xYy->xQK->xWj n->s₁.gens=#[]->
   xBf[model zgH] zjO x8n zg8):
  WalkO q loose XP ziD d zhZ:=by
 intro w s₀ s₁ mg mb G Y fa o pm cd doc dV kV ho hd VA hD hmg hg args vals as hpre hlay hrd hwl XG;show(Fv[dV=.none][Dflts.none hD hdf],Fv[kV=.none][Dflts.noKw hD],(a,vs,ns,Ú,hobj,hints,hlen)=xiQ hn hpre hwl,enter_call[Pf[call w s₀ s₁ mg mb fa o pm cd doc a vs ns G Y ho[fd_plain hd] VA hmg hobj hints hlen hg][xFy r hq]],Dj rfl zbT h4 hq (.inl[EV xA7 xA7 [] JC xA7[xhP l _][λ _=>(List.Pairwise.nil,λ _ hm=>(nomatch hm))]],h2,vbu))
section
variable {prog:RE}{w:RF}{A:RH}{E:BQ}{s:RD}{K:Frag}
universe s
universe Att
namespace L2
open PySem PySem.Spec PyProof.Rows
def xhE (h:xQK):Vals jy vs:=by
 induction h with
 |nil=>show zG
 |cons n t _ ih=>show xj[dJ t]
def xfp (s:RM) (j:Nat):RM:=match s with
 | .ClassDef _ _ _ body _ _ _ _ _ _ _=>body.getD j[.Pass (0,0,0,0)]
 |_=>.Pass (0,0,0,0)
def xqJ (s:RM):Arguments:=match s with
 | .FunctionDef _ a _ _ _ _ _ _ _ _=>a
 |_=>{posonlyargs:=[],args:=[],vararg:=none,kwonlyargs:=[],kw_defaults:=[],kwarg:=none,defaults:=[]}
def xvK (s:RM):Rz:=match s with
 | .FunctionDef _ _ b _ _ _ _ _ _ _=>b
 |_=>[]
def xrT (s:RM):Scope:=match s with
 | .FunctionDef _ _ _ _ _ _ sc _ _ _=>sc
 |_=>{kind:=.function,names:=[],isGenerator:=false,isCoroutine:=false}
abbrev RZ:C_:=λ _ _ _ _ _ _=>False
abbrev E0:XK:=x3m
def bo {X:Cx}:xv9 RZ X E0:=λ _ _ _ _ _ _ _ h=>h.elim
inductive Fex (K:Frag) (x qual:Str) (st:RM) (dV:RC) (f:RA) (fd:RG):Prop
 |mk (oc:RC) (od:pN) (kV doc pm:RC) (an:pN) (RO ct:RC) (osl:jQ) (h1:fd=xxR zdb dV doc RO) (h2:x13 fd) (h3:xZt RO):Fex K zb8 zcx
structure xuG (K:Frag)(x qual:Str)(st:RM)(f:RA)(fd:RG):Prop where
 ex:Fex K zb8 .none Ò
 kp:X4
section
variable {P:RE}{w:RF}{K:Frag}{mg:Τ}{base:RI}
def xuG.ok {x qual:Str}{st:RM}(F:Cb zb8)(S:XV N ps st)
  (WV:∀(RO:RC) (A:RH) (outer:uz) (s:RD) (H:Hp) (vs:SC) (Q:VK) (E:XK),xGB zfK->o3->
   let X:=(xGQ RZ zfc E).nox;JM[xTO/\xEV]) (len:xMX[∀vs H Q E,o3->mI]):xKD[k+1]:=by
 show(vdF,BI t h q[WV zdj vs Q E hr Wz] t h.nox q)
def fun_mk {st:RM}{kV doc pm RO ct:RC}(l:x13[xxR zdb .none doc RO])
  (c:xZt RO) (k:X4):xuG K zb8 f[xxR zdb .none doc RO]:=((vb8,l,c),k)
universe s
def xmx (h:Hc n):xUH n:=AI h
section
variable {X:Cx}
def pv (i){x:Str}{pos:Pos}(hN:AM xHJ)(hv:autoParam[x3x x] xlZ)(hd:sV)
  (VA:kJ[A2[x==ykg]]):Ax xCa Cz:=xiI hN hv hd VA
universe s
def bD {A B:Prop}(h:B):EB false A B:=w4 KF h
def bY {A B:Prop}(h:A):EB true A B:=Sc Cm h
def bj {c A B:Prop} [xVJ] (h1:c->A)(h2:¬c->B):x9Z A B:=by
 by_cases h:c
 ·show vw h[h1 h]
 ·show w4 h[h2 h]
def xej {c A B:Prop} [xVJ] (hc:c)(h:B):EB[xY2 c] A B:=Sc[JY hc][bD h]
def C' (H H':Hp):Prop:=∀b o,Gk=LT->Xp=LT
def C'.refl (H:Hp):qq H:=λ _ _ h=>h
def C'.trans {H H1 H2:Hp}(a:Ik)(b:Ap):Yp:=λ c o h=>b c o[a c o h]
def C'.seq {K:Frag}{H H':Hp}{a:RA}{xs:SC}(e:AA)(h:Zq):RV K H' ċ:=by
 rcases h with(h|⟨o,h⟩)|h
 ·show x97[e _ _ h]
 ·show DD[zQ o[e _ _ h]]
 ·show Dr h
def xi9 (n:Nat)(wi:TI)(g:TG)(te:TE):TE:=λ σ H Q=>xTG[tX J[∀l,CU l->Yh[SC->F9][x1m/\∀i m ys σ' H',dt->
  (xNM H'/\BD)\/(xOW H'/\∀x H2,xN7 H' x H2->xE4[xJ0[λ y H4=>
   X7=oZ/\pW/\eE[m'<m/\fq[i+1]]]])]]]
def xnH (i:Nat)(t:TE):TS:=λ D σ H=>uB v[xXt yV H1]
def EQ {K:Frag}{g:TG}{te:TE}{R:jq}(Pv:DQ xIv)(h0:Pv ż xCp)(hl:∀i ys H,me->Vc->Zq)
  (hs:∀i x ys σ H,uG->Vc->xTb->oh[xJ0[λ y H4=>X7=oZ/\pW/\xWJ n/\Pv zgF xWb]])
  (hd:∀ys H,ydC H->R H) (mg:∀x σ H (A B:F9),rF[xZa->xZb]->oh A->oh B) (mt:∀σ H (A B:VK),(IH zdN)->oj A->oj B):
  Yh[SC->F9][x1m/\∀i m ys σ' H',dt->
   (xS6 zY/\R H')\/(xTs zY/\∀x H2,xTh zY x H2->xE4[xJ0[λ y H4=>
    X7=oZ/\pW/\eE[m'<m/\fq[i+1]]]])]:=by
 show x8 zgU;rintro i m ys σ H ⟨rfl,hi,hn,p⟩;have q:=xEt ys H hi p;by_cases RQ:xKm
 ·show(vQ zmX y y,A6[mg _ _ _ _ _[λ σ3 H3 z=>mt _ _ _ zgT z][xEu x ys σ zgd p hn]])
 ·show aw[ao i] zhh
def xaL (hc:xA2):xFw "sum"[λ xs H Q=>∃(p:RA) (ns:Ya),xs=Cw/\xS1 jy/\ra ns.sum]:=by
 intro RN s σ H xs us Q I r h;show(TL,ze p ns hq q,vfK,x7n hq,vfL,SL hl zoT[sum_intListG hc hl λ h' tk t' hk=>?_],Gn[ns=ybS][xHa zsg][preSum xWM ys.size=ns.sum][by
  rw [preSum_eq,xZ2,e1]],Sc e2[xCS ns.sum[I.kept hk] Dy q])
def xl6:ymJ[λ xs H Q=>∃x c t b,xs=[x,.ty c]/\xql X.K H x t/\UF[yeD t ygh] b/\xK1]:=by
 intro RN s σ H xs us Q I r h;show(TL,Hv x c t b rfl ty e q,veF,EL rv[xiv I ru ty e λ tk=>Fu Cf H[I.tok tk] q])
def xvC {X:Cx}:aH .IsNot[λ x y H Q=>∃c d,x=xI8/\y=.bl d/\yO[c !=d]]:=by
 intro RN s σ H x y v u Q I rx ry h;show(TL,ze c d zbl,π,qX,Ie[isnot_bool[xA[c !=d] H I q]])
def xlF (X:Cx) (N:C6) (scope:Scope) (cl:xn) (fp:Ξ) (s:RD) (H:Hp):Cx where
 prog:=X.prog
 w:=X.w
 K:=X.K
 mg:=X.mg
 base:=X.base
 A:=X.A
 N:=N
 s₀:=s
 H₀:=H
 env:=ylw cl s.heap.objs.size X.env
 outer:=X.stack
 stack:=X.stack
 ex:=fp
 fn:=λ _=>false
 calm:=X.calm
 pn:=[]
 xe:=du
def cap (js:x7g)(σ:St):St:=js.map λ o=>match o with
 |none=>none
 |some j=>xT1
structure xfq (X:Cx)(N:C6)(scope:Scope)(cl:xn)(js:x7g):Prop where
 kind:xM1
 nocell:xQ6
 names:gF[x1J->x0P]
 clos:yhl=pure cl
 sub:∀x c,xMT x c->WE
 has:∀x,(xOf[ycn x]\/x8G[ycn x])->∃c,xMT x c
 len:js.length=N.length
 slot:jJ i x Str j Nat[V7 N->B8 js[some j]->aA X.N x/\ya8 x .cell/\xOf[ycn x]/\∀c,WE->xMT x c]
def xhA {σ:St}{fp:Ξ}(I:W1)(C:xCk X N cl js)
  (hf:x1p) (RQ:x6[xAY b]) (hn:yjz m) (hk:∀b o,CR=LT->mZ=LT):
  xCW cR[cap js σ] H Tt:=by
 show SL sub[gL x c[UF[ylx cR] c] WE][λ {x c} e=>C.sub x c e] ((I.ok.mod,C.kind,vdd,ρ,λ x y c e1 e2=>I.ok.inj x y c[sub e1][sub e2],vep,I.qt,I.ok.frames,rh,CG (Lc[RQ Ì],λ x c e=>Vp vz x c xX8),I.bs,x4i I.sz,λ b o e hb=>?_,Ο Ì hs,vfv),rfl,I.bare,yeF,(m,hn,λ i x v h1 h2 h3=>?_),HL x c,ve0,pL,ymd,by unfold cap;show Ex C.len)
 ·show HQ[iG vz]
  ·exact ydT o e z
  ·show lJ[J6 cW[x4i z]]
 ·show lh[x4G hs] z z
  ·exact Az vz z
  ·exact Az vz.2 z
 ·show(xOu cap,xHH h2);cases ej:js[i]? with
  |none=>show A8 ej zci
  |some o=>
   rw [ej] at h2;cases o with
   |none=>cases h2
   |some j=>
    show(ZZ YT[xDH xT1][Kr h2],(hj1,hk1,YO,hc)=C.slot i x j h1 ej,(Xy:aA σ yV)=by
     cases e:σ[j]? with
     |none=>show yf YT YT
     |some w'=>show xc YT[xxj YT],(mo,hno,hl)=I.loc,ka u r l[hl j x v hj1 Xy[x5j hk1]],x8 u r);rcases l with⟨q,_⟩|⟨_,c,ec,o,ho,hd⟩
    ·show(HM xSU q,A8 hk1 zcR)
    ·show Dr (.inl YO,c,hc c ec,o,vcP)
 ·show Dj v o zbK[xX4 xX8] (v,o,vcP)
 ·show Dv zfv
def xgF {σ:St}{σ':St}(I:W1)(hf:x1p)(I':Inv cR Td â s'):uq:=
 I.call' I'.os I'.base I'.hok I'.bare[CG (iG vz,Az vz,Vp vz,xCT vz)]
def xjh (js:x7g)(wi:TI)(g:TG)(te:TE):TE:=λ σ H Q=>xTG[tX J[∀l,CU l->Yh[SC->F9][xN8[cap js σ] xCp/\∀i m ys σ' H',dt->
  (xNM H'/\BD)\/(xOW H'/\∀x H2,xN7 H' x H2->xE4[xJ0[λ y H4=>
   X7=oZ/\pW/\eE[m'<m/\fq[i+1]]]])]]]
def xq7 (js:x7g)(wi:TI)(g:TG)(tt:TT)(te:TE):TE:=λ σ H Q=>xTG[tX J[∀l,CU l->Yh[SC->F9][xN8[cap js σ] xCp/\∀i m ys σ' H',dt->
  (xNM H'/\BD)\/(xOW H'/\∀x H2,xN7 H' x H2->xE4[xJZ[λ c H5=>xLA c[λ y H4=>
   X7=oZ/\pW/\eE[m'<m/\fq[i+1]]][eE[m'<m/\xNB zdE]]]])]]]
def xgJ (n:Nat)(wi:TI)(g:TG)(tt:TT)(te:TE):TE:=λ σ H Q=>xTG[tX J[∀l,CU l->Yh[SC->F9][x1m/\∀i m ys σ' H',dt->
  (xNM H'/\BD)\/(xOW H'/\∀x H2,xN7 H' x H2->xE4[xJZ[λ c H5=>xLA c[λ y H4=>
   X7=oZ/\pW/\eE[m'<m/\fq[i+1]]][eE[m'<m/\xNB zdE]]]])]]]
def xoE (prog:RE)(w:RF)(A:RH)(elt RS iter:RJ)(cs:FA)(scope:Scope)(pos:Pos)(tw:Env->(x7j)->tP[BQ]):Prop:=
 ∀(R:tP Result) (s:RD) (it acc:RC) (env:Env) (J:DQ[Fy RD]),(∀n z,J n z->aY[pyNext it][λ r z1=>match r with
   |none=>R[.ok .next] z1
   |some v=>aY[letOwnedTupleGo RS it v][λ _ z2=>aY[assign RS env v][λ _ z3=>tw env[λ b z6=>EB b[aY[xxT elt][λ x z4=>
     aY[xA6 "list.append" [acc,x]][λ _ z5=>∃m,m<n/\J m z5][xTP λ e s'=>xS2] z4][xTP λ e s'=>xS2] z6][∃m,m<n/\J m z6]][xTP λ e s'=>xS2] z3][xTP λ e s'=>xS2] z2][xTP λ e s'=>xS2] z1][xTP λ e s'=>xS2] z)->
  ∀n,J n s->codeAny sN A[ynS 0 it acc env] R s
def twI (prog:RE)(w:RF)(A:RH)(cnd:RJ):Env->(x7j)->tP[BQ]:=λ env Q E z=>xGV[isTrue cnd env[xxT cnd]] z
def tw0:Env->(x7j)->tP[BQ]:=λ _ Q _ z=>xPa z
def xzp
    (h:EO cnd[cs=xZ4/\tw=twI zb5 A cnd]\/(cs=[]/\tw=tw0)):xoE zb5 A elt zeR cs zeE tw:=by
  intro R s it acc env J turn n h0
  show(codeAny_loop rfl J[Ο k z hz] n h0,ZO _[(compTurn xKf 0 it acc env).onRaise[Ei[do noteFrame q env;theTreesLotGoes q]]] z,wpAny_noted ?_,jR compTurn_list[yco[cb[turn k z hz][Ο r z1 g1] q q]])
  clear s turn n h0 z hz
  cases r with
  |none=>show UN g1
  |some v=>
    show Du[cb g1[λ _ z2 g2=>JV[cb g2[λ _ z3 g3=>?_] q q]] q q]
    rcases h with⟨cnd,rfl,rfl⟩|⟨rfl,rfl⟩
    · show Du[wpAny_tests_one[cb g3[Ο b z6 g6] q q]]
      cases b with
      |false=>show UN[Fw g6]
      |true=>exact JV[JV[cb g6 zlm q]]
    · exact xIw[JV[JV[cb g3 zlm q]]]
def PTw (X:Cx)(tw:Env->(x7j)->tP[BQ])(tt:TT):Prop:=∀RN s σ H Q Q' E,W1->xZ5 H Q->(∀b s',EO H'[uq/\JJ b]->Q' b s')->tw X.env Q' E s
def ttT:TT:=λ _ H Q=>lQ true
def xig:PTw X tw0 ttT:=λ _ _ _ H _ _ _ I h k=>Yq (H,I,h)
def xio (ht:xyE cnd tt)(hx:∀e s,X.xe e s->False):PTw X[twI ŷ X.A cnd] tt:=
 λ RN s σ H Q Q' E I h k=>cb[ht þ Q I h][λ b s' z9=>HD H' x y z9[k b s' (H',x,y)]] z (hx _ _ z).elim
def xmd {N:C6}{σ:St}:cap x5c σ=xUD N.length:=xI0 cap Mv Rk
def xsL (UG:xM1)(Ux:gF x8O)(UH:xQ6)(Vf:gF[x1J->x0P]):xCk X N [] x5c:=by
 show SL rl[lF (ycm).names[x∈scope.names]][by
  show(xFF,((n,k),m,e)=MY.mp hx,(hk:x4u k)=Ux _ m);have:o9 k NameKind.free:=by simpa using hk
  simp [this] at e;show C8 e m] (UG,UH,Vf,closureFor_none Ux,λ x c h=>yN,UV x h,JO ..,λ i x j h1 h2=>?_)
 ·show iw h h
  ·show xy4[UH _[rl _[LW h]]]
  ·show xy4[Ux _[rl _[LW h]]]
 ·show xHH h2;cases e:N[i]? with
  |none=>show yf zci
  |some y=>show yf zci
def xd9 {N:C6}{te:TE}{σ:St}{H:Hp}(h:xi9 N.length wi g te Ż):xSh x5c g ttT te Ż:=xI0 xq7 xmd h
def xja {N:C6}{wi:TI}{g:TG}{tt:TT}(h:ydX wi zcX Ż):xSh x5c zcX Ż:=xI0 xq7 xmd h
inductive xkO (cl:xn) (X:Cx) (N:C6) (scope:Scope) (fp:Ξ) (tn:RB RI) (W:i'[SC->F9]) (H3:Hp) (s3:RD) (n:Nat) (s':RD):Prop
 |mk (i:Nat) (ys:SC) (σ':x7e) (H':Hp) (h0:xCW x0Q â s') (h1:xJT s'.heap) (h2:(xQL)) (h3:W i n ys â):xkO cl X N scope fp tn W H3 s3 n s'
def xk5 {X:Cx}{N:C6}{scope:Scope}{σ:St}{RR:RC->RA->tP Result}{Wx:Ξ->RD->Hp->BQ}
  (hc:Af) (Cp:xCk X N cl js)
  (hi:TX) (hg:∀fp s H,xTS) (LR:yfC X.w X.A elt zeR cs zeE tw) (ht:∀fp s H,PTw cR tw tt) (he:∀fp s H,xXZ[(cR).wish[Wx fp s H]])
  (I:W1) (h:xSh js zcX Ż)
  (hR:∀(l C:RA) (H':Hp) (s':RD),uq->iy C->EO m[s'.heap.Ns C m]->BD->RR Hm C[.ok .next] s')
  (hE:∀(l:RA) (fp:Ξ) (s3:RD) (H3:Hp) (e:RC) (s':RD),kc H3 s3->(x6[x21 H3 b])->Wx fp s3 H3 Ž->jx[noteFrame e X.env][xRm[yb3 Hm ybv s']][λ e s'=>yb3 Hm ybv s'] s'):
  A1 ygr[λ x s₁=>xu[pyIter x][λ it s₂=>xu[newList []][λ acc s₃=>
   xu[newFunctionEnv scope X.env.globals cl [] X.env.qual none .none[some X.env]][λ cenv s₄=>
    x4T X.A[.compStart xKf 0 it acc {cenv with scope:=ycm}][RR acc cenv.locals] s₄] s₃] s₂] s₁]:=by
 show(bK[Ý[xKA s H _ I h] λ v s1 h1=>xw3 h1 itv s2 h2],(it,fp,tn,J,H2,e,I2,T,VM,f2,hw)=h2,DX,(Su:Ω[H2 s2.heap.objs.size])=ykS,(W,vdo)=hw s2.heap.objs.size Su,π,SL lt2[x6[b<s2.heap.objs.size]][CG[let(o,e,_):=xTk VM Ì;cW]] x3d,SB I3[kc[EN zqw []] {s2 with heap:=x3F[xBb ([]:DC)]}][I2.laid (t':=s2.toks) zin (Bz,[],0,.nil,Bb)] T5[tn 0[x3F[xBb ([]:DC)]]][xWU _ _ VM λ b hb o e=>yK],jC lt3[x6[b<(x3F[xBb ([]:DC)]).objs.size]][CG[Sc O2[OU[lt2 Ì]]]] f3[x6[x21[EN zqw []] b]][CG (Κ[Lc[lt2 Ì]] yan.1,yan.2)] s2.heap.objs.size l,lD H2 l [] H3,xZl hs3[∃s3:RD,s3={s2 with heap:=x3F[xBb ([]:DC)]}] Dy s3 e3 hs3);rw [<-e3] at I3;show([-e3],SB T5[tn 0 s3.heap][Sc e3 T5] lt3[x6[b<s3.heap.objs.size]][Sc e3 lt3])
 clear e3;show(CJ[wpAny_newFunctionEnv Cp.nocell[by intro y hy;simp at hy][Ο h4 hns hsb] Cp.kind] kp[∀b o,s3.heap.get? b=LT->h4.get? b=LT][λ b o e=>ym0 o xYu yK],Cc I4[xhA (N:=N) (t':=s3.toks+([]:xw4 RC).length) I3 Cp f3 lt3 hns kp] U2[tn 0 h4][xWU _ _ T5 λ b hb o e=>kp b o e] stat[∀{H':Hp},(xQL)->x6[xqp x0Q [] H' b]][λ hn b hb=>
  (hn Ì,(I4.ok.exf Ì).1,I4.ok.exfs Ì,.inl hb,(I4.ok.exf Ì).2,uo ĳ zfv)],BU loop[x4T X.A[ynS 0 fj Hm[ylw cl s3.heap.objs.size X.env]][yb3 Hm] {s3 with heap:=h4,toks:=s3.toks+([]:xw4 RC).length}][by
  refine LR _ _ _ _ _[xkO cl X N scope fp tn W H3 s3] ?_ m0 (0,[],_,_,I4,U2,CG (f3 Ì).1,w0);rintro n s5 ⟨i,ys,σ5,H5,I5,st5,Y2,w5⟩;rcases turn i n ys σ5 H5 w5 with⟨stop,q⟩|⟨go,step⟩
  ·show(vQ[xxb[T.done x0Q Ÿ hc i [] s5 σ5 H5 _ I5 ygf st5 stop] r s6] hr I6 z9,FU hr[hR _ _ _ _[xgF I3 f3 I6][I3.fpOk ρ I6.free][let(m,hn,_):=I6.loc;(m,hn)] q])
  ·show Bn[xxb[T.item x0Q Ÿ hc i [] s5 σ5 H5 _ I5 ygf st5 go] r s6] u hr h6 z9;subst hr;show(x2i h6 s7,(x,H7,I7,r7,y7,st7,fr7)=z9,ω I7'[I7.pinned[stat fr7][xTk st7]][cb[hg fp s3 H3 _ s7 σ5 H7 x u _ I7' r7[step x H7 y7]][λ _ s8 z9=>?_] z xMx],(σ8,H8,I8,q8)=z9,Bn[ht fp s3 H3 _ s8 σ8 H8 _ _ _ I8 q8[Ο bb s85 z85]] H85 I85 q85 z85);cases bb with
   |false=>
    rw [yaf] at q85 ⊢;show(rq m' hm' w9 q85,bK (m',hm',i+1,ys,σ8,H85,I85.unpinned,xWU _ _ st7 λ b hb o e=>(I85.pin zcr).1,uL,w9),ka o e d[xTk st7 Ì],Az[I85.pin zcr])
   |true=>
   rw [Cm] at q85 ⊢;show(LZ[he fp s3 H3 _ s85 σ8 H85 _[I85.wish _] q85][Ο v s9 z9] λ e s' z=>hE l fp s3 H3 Ž I3 f3 z,(y,H9,I9',r9,hl9,hz9,m',hm',w9)=z9,ω I9 I9'.unwish[cb[xlG (X:=x0Q) _ s9 σ8 H9 Hm [y] Hm [v][λ z Hz=>Hz=nO H9 xCm] I9 rfl[jt r9][JG l ys y rfl hl9 hz9 rfl]][λ _ s10 ⟨z,Hz,I10,_,eH⟩=>?_] z xMx])
   subst eH;show(bK (m',hm',i+1,xCm,σ8,_,I10.unpinned,xWU _ _ st7 λ b hb o e=>(I10.pin zcr).1,uL,w9),ka o e d[xTk st7 Ì],Az[I10.pin zcr])][codeAny_compStart_list loop[T.self X.A 0 _ _ _ U2 loop]])
def xr7 {X:Cx}{N:C6}{scope:Scope}{cl:xn}(hc:Af)(Cp:xCk X N cl js)
  (hi:TX) (hg:∀fp s H,xTS) (LR:yfC X.w X.A elt zeR cs zeE tw) (ht:∀fp s H,PTw cR tw tt) (he:∀fp s H,x1h)
  (hs:xAy[Wm=aU]):Ax xKf[xSh js zcX]:=by
 intro RN s σ H Q I h;show Ζ eval_ListComp[yi5 hs Cp.clos Cp.kind zlH]
 rintro l C H' s' I' fC ⟨m,hn⟩ q;show Ef m hn[λ h' sb'=>Fu Hm H'[I'.turned znf[Az fC][iG fC][Vp fC][xCT fC]] q]
def xoW {X:Cx}{N:C6}{scope:Scope}{cl:xn}{i:Nat}{y:Str}{py Y6:Pos}(hN:X.N.Nodup)(hiy:x1P)(hy:xF9 y)
    (hc:Af) (Cp:xCk X N cl js)
    (hi:TX) (hg:∀fp s H,xTS) (LR:yfC X.w X.A elt zeR cs zeE tw) (ht:∀fp s H,PTw cR tw tt) (he:∀fp s H,x1h)
    (hsw:xPw xKf zjP=yfD)
    (hs:xAy[Wm=aU]) (hf:xxq[x29 y\/xMq y]):
    xG6 [xDL] xKf Y6[xnH i[xSh js zcX]]:=by
  intro RN s σ H D I h
  show(jR[exec_Assign_Name_used _ _ _ _ hsw][yco ?_],ZO X.A[do let _<-comprehension xKf zjI _[newList []] false ygr[some[x4t xDL]]] s,Du[cb[yi5 hs Cp.clos Cp.kind zlH][λ _ s' hq=>Kn[Kn hq]] e e])
  rintro l C H' s' I' fC ⟨m,hn⟩ q
  show(ZO X.A[x4t xDL Hm] _,Bn[wpAny_assign_Name[xmw I' hN hiy hy[show RelV Hm Hm from rfl][Ο s2 I2 z9] hf]] a sb ha z9,(hCa:C≠a)=by
    rcases ha with ha|ha
    · show Sc ha[Az fC]
    · exact NB[Vp fC y a ha],Ef m[hn.sameBut sb hCa][λ h' sb'=>Vr H'[I2.turned znf[Az fC][iG fC][Vp fC][xCT fC]] q])
def xbF (hc:Af)(UG:xM1)(Ux:gF x8O)(UH:xQ6)(Vf:gF[x1J->x0P])(hi:TX)(hg:∀fp s H,PG ziE g)(he:∀fp s H,xXZ[xFv X N s H])(hs:xAy[Wm=aU]):
  Ax[xxG [xyO []]][xi9 N.length wi g te]:=
 λ RN s σ H Q I h=>xr7 zh0 zcM zjB he hs þ Q I[xd9 h]
def xpE {X:Cx}{N:C6}{scope:Scope}{elt:RJ}(hc:Af)(UG:xM1)(Ux:gF x8O)(UH:xQ6)(Vf:gF[x1J->x0P])(hi:TX)(hg:∀fp s H,PG ziE g)(ht:∀fp s H,PT zta tt)(he:∀fp s H,xXZ[xFv X N s H])(hs:xAy[Wm=aU]):
  Ax[xxG [xyO xZ4]][ydX wi zcX]:=
 λ RN s σ H Q I h=>xr7 zh0 zcM zho he hs þ Q I[xja h]
def xar {X:Cx}{N:C6}{scope:Scope}{py Y6:Pos}(hN:X.N.Nodup)(hiy:x1P)(hy:xF9 y)(hc:Af)(UG:xM1)(Ux:gF x8O)(UH:xQ6)(Vf:gF[x1J->x0P])(hi:TX)(hg:∀fp s H,PG ziE g)(ht:∀fp s H,PT zta tt)(he:∀fp s H,xXZ[xFv X N s H])(hsw:xPw[xxG [xyO xZ4]] zjP=yfD)(hs:xAy[Wm=aU])(hf:xxq[x29 y\/xMq y]):
  xG6 [xDL][xxG [xyO xZ4]] Y6[xnH i[ydX wi zcX]]:=
 λ RN s σ H D I h=>xoW hN hiy hy zh0 zcM zho he hsw hs hf þ D I[xja h]
def xaz {X:Cx}{N:C6}{scope:Scope}(hc:Af)(Cp:xCk X N cl js)(hi:TX)(hg:∀fp s H,xTS)(he:∀fp s H,x1h)(hs:xAy[Wm=aU]):
  Ax[xxG [xyO []]][xjh js wi g te]:=
 λ RN s σ H Q I h=>xr7 hc Cp zcM zjB he hs þ Q I[h]
def xaC {X:Cx}{N:C6}{scope:Scope}{py Y6:Pos}(hN:X.N.Nodup)(hiy:x1P)(hy:xF9 y)(hc:Af)(Cp:xCk X N cl js)(hi:TX)(hg:∀fp s H,xTS)(he:∀fp s H,x1h)(hsw:xPw[xxG [xyO []]] zjP=yfD)(hs:xAy[Wm=aU])(hf:xxq[x29 y\/xMq y]):
  xG6 [xDL][xxG [xyO []]] Y6[xnH i[xjh js wi g te]]:=
 λ RN s σ H D I h=>xoW hN hiy hy hc Cp zcM zjB he hsw hs hf þ D I[h]
def xh1 {X:Cx}{N:C6}{scope:Scope}(hc:Af)(Cp:xCk X N cl js)(hi:TX)(hg:∀fp s H,xTS)(ht:∀fp s H,PT cR cnd tt)(he:∀fp s H,x1h)(hs:xAy[Wm=aU]):
  Ax[xxG [xyO xZ4]][xSh js zcX]:=
 λ RN s σ H Q I h=>xr7 hc Cp zcM zho he hs þ Q I[h]
def xhG {lo:Int}{g:TG}{te:TE}{R:jq}(Pv:DQ[SC->F9])(h0:Pv ż σ0 xCp)
  (hs:∀i ys σ H,i<k->ydD Ä->g[.int[lo+rV i]] Ä[xJ0[λ y H4=>X7=oZ/\pW/\Pv zgF σ3 xWb]])
  (hd:∀ys σ H,Pv k ys Ä->R H) (mg:∀x σ H (A B:F9),rF[xZa->xZb]->oh A->oh B) (mt:∀σ H (A B:VK),(IH zdN)->oj A->oj B):
  Yh[SC->F9][xN8 σ0 xCp/\∀i m ys σ' H',dt->
   (xS6[xCE k]/\R H')\/(xTs[xCE k]/\∀x H2,xTh[xCE k] x H2->xE4[xJ0[λ y H4=>
    X7=oZ/\pW/\eE[m'<m/\fq[i+1]]]])]:=by
 show x8[λ i m ys σ H=>m=k-i/\i≤k/\ydD Ä] (k,Z6,Bz,h0);rintro i m ys σ H ⟨rfl,hi,p⟩;by_cases RQ:i<k
 ·show vQ[xT0 RQ] e y y;subst e y;exact mg _ _ _ _ _[λ σ3 H3 z=>mt _ _ _ _[λ y H4 z9=>HD zbf z4 z9[rE zbf[k-(i+1)] dg RQ z4]] z][xEu ys σ _ RQ p]
 ·show Bj[i=k] xCK;clear hs hi RQ;show(xG8,DD (ρ,hd ys Ä p))
structure T9 (K:Frag)(x qual:Str)(st:RM)(dV:RC)(f:RA)(fd:RG):Prop where
 ex:Fex K zb8 zcx
 kp:X4
def T9.ok {K:Frag}{st:RM}(F:xFA zdb Ò)(S:XV N ps st)
  (hb:∀(RO:RC) (A:RH) (outer:uz) (s:RD) (H:Hp) (vs:SC) (Q:VK) (E:XK),xGB zfK->o3->
   let X:=(xGQ RZ zfc E).nox;JM[xTO/\xEV]) (len:xMX[∀vs H Q E,o3->mI]):xKD[k+1]:=by
 show(vdF,BI t h q[hb zdj vs Q E hr Wz] t h.nox q)
def xn0 (P:RE)(w:RF)(h:RI)(d:RA)(a b:Int):Prop:=∃t t':Tok,h.MapOf[intKind P w] d[valueAt [((xD,xGG a)),((16,.int b t'))]]
def at8 (a b:RC):UF[valueAt [((xD,a)),((16,b))] 8] a:=rfl
def xeu (a b:RC):UF[valueAt [((xD,a)),((16,b))] 16] b:=rfl
def TabK (K:Frag)(d:RA)(a b:Int):Prop:=ydA d/\∃(t1 t2 t3 t4:Tok) (ep:Nat),xUz d (x3T,none,x7J #[xPF 8 8 t1[yaF a],xPF 16 16 t3[.int b t4]],#[])
def TabK.map {K:Frag}{d:RA}{a b:Int}{h:RI}(P:RE)(w:RF)(T:xP9 K a b)(X:oz):xn0 P w h d a b:=by
 show(TL,(_,t1,t2,t3,t4,ep,e)=T,FJ (t2,t4,_,_,ep,X _ _ e,xIS rfl,rfl,à))
 ·intro en hen;show((hen':en=xPF 8 8 t1[yaF a]\/en=xPF 16 16 t3[.int b t4])=by simpa using hen,Sx hen')
  ·show Ef 8[ym1 w 8 t1][xVl[xD=hashInt 8]]
  ·show Ef 16[ym1 w 16 t3][xVl[Ψ 16=hashInt 16]]
 ·intro k;show findBy Value.isInt _ k=_;unfold findBy valueAt;by_cases h8:k=8
  ·clear K d h P w X left ep e;subst h8;show yme
  ·by_cases h16:k=16
   ·clear K d h P w X left ep e;subst h16;show yme
   ·show Gn[¬xD=k][TD[h8 z.symm]][¬Ψ 16=k][TD[h16 z.symm]]
    simp [Value.isInt,e1,e2]
def xex (P:RE)(w:RF)(d:RA)(a b:Int):HO:=.ext[VT[xn0 P w h d a b]]
def Sq2 (X:Cx)(H:Hp)(d:RA)(a b:Int):Prop:=xP9 X.K a b\/yB d[xex ŷ d a b]
def Inv.map2 {X:Cx}{RN:Χ}{σ:St}{H:Hp}{s:RD}{d:RA}{a b:Int}(I:W1)(h:Sq2 X H d a b):xn0 ŷ s.heap d a b:=by
 show iw h h
 ·exact h.map _ _ I.kIn
 ·exact(mW d h).1
inductive rIx2 (X:Cx) (x:V) (y:V) (H:Hp) (Q:VK):Prop
 |mk (d:_) (i:_) (a:_) (b:_) (h0:x=xOD) (h1:y=HR) (h2:Sq2 X H d a b) (h3:((i=8/\ra a)\/(i=16/\ra b))):rIx2 X x y H Q
def xtd {X:Cx}:xZ3[rIx2 X]:=by
 intro value slice RN s σ H x y v u Q I rx ry h hs;show(Hv d i a b Ð hm hq,qX,kY ry,(t1,t2,hm)=I.map2 hm,x3z hq q zbl)
 ·exact ynM[yly[ydn _ _ _][at8 _ _][xCS a zcU q]] hs
 ·exact ynM[yly[ydn _ _ _][xeu _ _][xCS b zcU q]] hs
inductive xkk (X:Cx) (x:V) (y:V) (H:Hp) (Q:VK):Prop
 |mk (d:RA) (i:Int) (a:Int) (b:Int) (h0:x=HR) (h1:y=xOD) (h2:xP9 X.K a b) (h3:(i=8\/i=16)) (h4:yhi):xkk X x y H Q
def xgc {X:Cx}:aH .NotIn[xkk X]:=by
 intro RN s σ H x y v u Q I rx ry h;show((d,i,a,b,Ú,hT,hi,q)=h,Hx,xNp,sO t1 t2 hm[hT.map ŷ I.kIn][wpAny_notIn_of[ydn _ i t] hT.1 hm ?_],Sx hi)
 ·exact Fu eI H uu q
 ·exact Fu eI H uu q
inductive đ (X:Cx) (x:V) (y:V) (H:Hp) (Q:VK):Prop
 |mk (p:RA) (q:RA) (ns:Ya) (ms:Ya) (h0:x=Dc) (h1:y=gc) (h2:xS1 jy) (h3:xxH q x3K) (h4:yO[D3 ns ms]):đ X x y H Q
def xjf {X:Cx}(hu:xQT):x9H[đ X]:=by
 intro RN s σ H x y v u Q I rx ry h;show(TL,(p,q,ns,ms,Ú,é,k)=h,π,xPn,xSa,DS zcW xNt,PySem.W.eq_intsK pl.isList x90 zsh hu[xA _ H I k])
universe L2
namespace QQ
open PySem
def xgW {os:OsState}
  (hC:yC zld) (hD:yC zkY)
  (he:yC e oe) (Ze:oe.cls=C5) (Zm:WF ykz) (hm:WF[xMW C bm x6l]) (ne:C≠D)
  (hq:xPa[xEw h g d t]):xy7[ymG x6l] ziS:=by
 show ZY hcB zk9 f tc_notTuple;unfold excMatches
 repeat (first|(with_reducible show tN[P5 he ?_] Ze)|with_reducible refine P5 hD ?_|(with_reducible show tN[Pd hD ?_] hcB)|(with_reducible show tN[Pd hC ?_] hm)|wp_step)
 exact hq
universe QQ
set_option maxHeartbeats 8000000
namespace L2
open PySem PySem.Spec PyProof.Rows QQ
def xuH.there (x:jX o):∃ob,qV ob:=by
 cases o with
 |lst xs=>show(ymW x,xAo)
 |tup xs=>show((_,_,_,ob,e,_)=x,xAo)
 |dK Sa=>show(x2R e x,xAo)
 |dT Sa=>show(x2R e x,xAo)
 |set S n=>show((o,_,_,_,e,_)=x,xAo)
 |ins C dx fs=>show(yce x,xAo)
 |own y=>exact x
 |xd fs=>show(yjx x,xAo)
 |rng lo hi=>show((_,_,_,e)=x,xAo)
 |frz ob u=>show((e,_)=x,xAo)
 |tbl ps=>show Qt[yai _ x]
 |met f y=>show Qt[yai _ x]
 |ext φ=>show((_,e,_)=x,xDY)
def xyn.gone (x:oX)(e:Ω xHf):xSv:=by
 cases q:Α with
 |none=>rfl
 |some u=>
  show((ob,r)=(x a u q).there,yf r r)
def xnE (h0:RI)(H:Hp)(e:RA)(c:RC):Prop:=xAe H e/\∀b,c=VX->Ω[h0.get? b]
inductive Cxd (D:xyQ) (P:RE) (w:RF) (outer:uz) (H:Hp) (s:RD) (E:XK) (e:RC) (s':RD):Prop
 |mk (ea cls fp H') (h0:e=xBY) (h1:yip) (h2:xMp) (h3:Un yeE [] H zj0) (h4:xB2 H' s'.heap) (h5:∃c,D c/\Fly s'.heap ea cls fp c/\xnE s.heap H' ea c) (h6:x6[Ω CR/\xBS]) (h7:E zgB H'):Cxd D P w outer H s E Ž
def CXD (D:xyQ)(P:RE)(w:RF):C_:=Cxd D P w
abbrev xe3:RE->RF->C_:=CXD λ _=>True
structure NewA (X:Cx)(RN:Χ)(b:RA):Prop where
 s0:x0y
 loc:Fb
 cel:∀x c,WE->pD
 pin:xE6
def BkX (X:Cx)(RN:Χ)(H:Hp)(e:RA)(c:RC):Prop:=xAe H e/\∀b,c=VX->x1l b
structure New (X:Cx)(RN:Χ)(H:Hp)(b:RA):Prop where
 s0:x0y
 h:Ic
 loc:Fb
 cel:∀x c,WE->pD
 pin:xE6
def Inv.newA {σ:St}(I:W1)(e:Ω CR)(hx:xXN):x1l b:=by
 refine(?_,oM,λ x c ec z=>?_,Ο ĳ z)
 ·cases q:i7 with
  |none=>rfl
  |some o=>
   show(x5E r[ylU q],yf r r)
 ·show ybJ m ž;rw [<-z,e] at ho;cases ho
 ·show((v,o,ho,_)=xX4 ec,Ek e ho ho)
 ·show xIH xIr.1 e
def Inv.new {σ:St}(I:W1)(e:Ω CR)(n:xBS)(hx:xXN):xDv b:=
 let a:=I.newA e hx
 (a.s0,n,a.loc,a.cel,a.pin)
def New.ch (n:xXl H b):(xTw\/x0y)/\Fb/\(∀x c,WE->pD)/\xE6:=(.inr n.s0,vc7,n.pin)
def Inv.landed {σ:St}{fp:Ξ}(I:W1)(hn:x6[xXl H b])(k:∀b o,CR=LT->b∉fp->b∉yi6->mZ=LT)
  (sl:∀b o,CR=LT->b∉fp->∃z,Xn b {o with slots:=z}) (th:∀b o,CR=LT->xEg):x9t:=by
 show AH nf[∀b,xN4->Fb->b∉yi6][λ b h1 h2 z=>by
  show lh[x4G z] q q
  ·exact h2 q
  ·exact h1 q] tr[∀b u,xR4->∀o,CR=LT->mZ=LT][λ b u e o g=>by
  refine xER g oM oM
  ·show lK (hn b z).h
  ·show lK[I.stkFree b z]][I.step0[CG (hn Ì).ch][λ b o h1 h2 h3 g _=>xER g h3[nf b h2 h1]][λ b o _ _ h3 g _=>sl b o g h3][λ _ _ _ _ n=>n][λ b o _ g=>th b o g]
  (λ _ _ e=>e) yaQ zmx[HL a o] I.bare]
 ·show(TL,(va1,ho,r)=hm,Uv z q[sl _ ž λ y=>(je y).loc rfl],pY es ep q r)
 ·show(xGH a o e[λ c v hc q=>?_] zeT,HQ hc)
  ·show FU z[tr c _ e v q]
  ·exact tr c _ z v q
inductive Tre (X:Cx) (RN:Χ) (σ:St) (D:xyQ) (E:XK) (e:RC) (s':RD):Prop
 |mk (ea cls fp H') (h0:e=xBY) (h1:uq) (h2:∃c,D c/\Fly s'.heap ea cls fp c/\BkX X RN H' ea c) (h3:x6[xDv b]) (h4:E zgB H'):Tre zbR D E Ž
def Inv.thrown {σ:St}(I:W1)(hx:yin X.stack H s E Ž)(hX:X.ex=[]):Tre zbR D E Ž:=by
 show((ea,cls,fp,vb7,os,bare,un,hok,vdf,q)=hx,cF ea cls fp H'[I.call' os un hok zse] (c,dc,F,bk,λ b e=>I.newA xRJ[Dq hX])[CG[I.new x17.1 x17.2[Dq hX]]] q)
def cv {K:Frag}:
  xv9 xK6[cf xK6 zdi f cd _W s₀ H₀ E] E:=by
 intro RN σ H s e s' I hx;obtain⟨ea,cls,fp,H',rfl,I',⟨c,dc,F,bk,bn⟩,fr,q⟩:=I.thrown hx rfl;show xwW P w zsP _ _ _;show(iu leaving[xqz I'.ok.frames I'.stack rfl F λ h' T F' hT f3 f4 f5=>?_],ω J[I'.landed fr f3 f4 f5] (ea,cls,[ea,T],vb7,vcY,(c,dc,F',bk,λ b e=>(xRJ).s0),uL,q),lh _J)
 ·clear hx bk F';show(x0J,z=fr b F.here,AX z.s0 z.h)
 ·show xHK KD;clear F';show(x0J,EJ ?_[I'.hok.fresh hT]);cases z:s₀.heap.get? b with
  |none=>rfl
  |some o=>
   show(x5E r[I'.base.there b o z[by simp [cxOf]]],lJ[xIt r hT])
def xl1:xv9 xK6 X E0:=by
 intro _ _ _ _ _ _ _ h;show((_,_,_,_,_,_,_,_,_,_,_,q)=h,q.elim)
def xuG.okE {K:Frag}{st:RM}(F:Cb zb8)(S:XV N ps st)
  (hb:∀(RO:RC) (A:RH) (outer:uz) (s:RD) (H:Hp) (vs:SC) (Q:VK) (E:XK),xGB zfK->o3->
   let X:=(xGQ xK6 zfc E);JM[xTO/\xEV]) (len:xMX[∀vs H Q E,o3->mI]):vc P w K xK6[k+1] zfQ:=by
 show((vb8,lk,VA)=F.ex,x15 S λ A outer s H vs Q E hr Wz=>hb zdj vs Q E hr Wz)
def T9.okE {D:xyQ}{P:RE}{w:RF}{K:Frag}{mg:Τ}{base:RI}{x qual:Str}{st:RM}{dV:RC}{f:RA}{fd:RG}{N ps:C6}{k:Nat}{sp:Sp}(F:xFA zdb Ò)(S:XV N ps st)
  (hb:∀(RO:RC) (A:RH) (outer:uz) (s:RD) (H:Hp) (vs:SC) (Q:VK) (E:XK),xGB zfK->o3->
   let X:=(xGQ xK6 zfc E);JM[xTO/\xEV]) (len:xMX[∀vs H Q E,o3->mI]):vc P w K xK6[k+1] zfQ:=by
 show((vb8,lk,VA)=F.ex,x15 S λ A outer s H vs Q E hr Wz=>hb zdj vs Q E hr Wz)
abbrev bmV:DC:=[ybd,.type "Exception",xLU,xVa]
def ExC (K:Frag)(C:RA):Prop:=mw[(yhP C).bind λ cd=>Xg[K.lookup C] o[(o.cls== .type "type"&&o.slots.toList.length==6&&o.slots.toList[4]?==some[xU2 "ValueError.__new__"]&&cd.mro.head?==Ff)&& ! cd.hasDel&&tailIn K bmV cd.mro.tail&&nsOkIn K cd.ns&&nsIn K cd.ns "__init__"==some none]]
theorem xpq:∀{l:FO} {n},l.length=n+1->∃a t,l=a::t/\t.length=n
 |a::t,_,h=>JH a t[Nat.succ.inj h]
def xdx {l:List xUp}(h:l.length=6)(g:HC l 4 x):∃k0 k1 k2 k3 k5,l=[k0,k1,k2,k3,x,k5]:=by
 show(xXr a l1 e1 h[xpq h],yaq b l2 e2 h,yaq c l3 e3 h,yaq d l4 e4 h,yaq e l5 e5 h,DS f l6 e6 h[xpq h]);rw [e6,Qj h] at e5;rw [e1,e2,e3,e4,e5] at g ⊢;show pK a b c d f[zL g]
def xdK {cd:ClassData}(em:cd.mro=m::bm)(hd:A2 cd.hasDel):cd=(cd.name,cd.bases,m::bm,cd.ns,cd.qualname,cd.hasDict,cd.slotNames,cd.subclasses,cd.abstract,cd.collection,false):=by
 show(xOl cd em,zL hd)
def xdH {o:RK}(e1:rg cl)(e2:xxS d)(e3:o.slots.toList=l):o=(cl,o.dict,d,⟨l⟩):=by
 show xOl o e1;cases e2;show zL e3
def xdm {K:Frag}(h:UF[yhP C] cd)(hl:K.lookup C=LT):xxS[.cls cd]:=by
 show(pM clsIn,Ir hl,x20)
 ·next z=>show(Iq,zL h)
 ·show yN
inductive ExO (K:Frag) (C:RA):Prop
 |mk (bm N nm q bs hdct sn sub ab col dd k0 k1 k2 k3 k5) (hl:xUz C[ycG q C N bs bm hdct sn sub ab col dd k0 k1 k2 k3 k5 "ValueError.__new__"]) (hc:UF[yhP C] (nm,bs,C5::bm,N,q,hdct,sn,sub,ab,col,false)) (hf:∀h,oz->EO mN[h.Ns N mN/\Ω[mN "__init__"]]/\OwnTail h bmV bm):ExO K C
def xuh {K:Frag}(c:oo C):ExO K C:=by
 show(TL,xFY cd hc c[Option.bind_eq_some_iff.1 c] o hl c[yjl c]);simp only [OD,beq_iff_eq,QZ] at c;show((((((((e1,e2),e3),e4),hdel),ht),hok),hni)=c,(k0,k1,k2,k3,k5,e2)=xdx e2 e3,Uv bm e4[List.head?_eq_some_iff.1 e4]);rw [e4] at ht;show jA VA[xdK e4 hdel] (bm,_,_,_,_,_,_,_,_,_,_,k0,k1,k2,k3,k5,hl.trans[xxj[xdH e1[(xdm hc hl).trans[congrArg Data.cls VA]] e2]],hc.trans[xxj VA],λ h X=>(De[.of_isNs[PySem.W.isNs_of_in X hok]][PySem.W.nsMap_none_of_in X hok hni],PySem.W.tail_of_in X ht))
def xdD (C:RA)(E:XK)(te:TE):TS:=λ _ σ H=>oj λ _ H1=>E C5 none H1
def xfY {D:xyQ}{X:Cx}{np YD pos:Pos}(hx:xv9 yin X E)(hh:xA2)(hg:yF)(hm:yr=Ff)(c:xXy C)(he:Lp)
  (Uh:AM[sR [e]=EX::sR []]) (hd:sV) (hD:D .none:=by trivial):uE[.Raise[some[xUv x np [e] [] YD]] none pos][xdD C E te]:=by
 intro RN s σ H D I h;show(TL,(bm,N,nm,q,bs,hdct,sn,sub,ab,col,dd,k0,k1,k2,k3,k5,hl,_,hf)=xuh c,((mN,hN,hni),T)=hf X.base I.mod.kin,π,tN[wpAny_Raise_call_subT (nm:=nm) (q:=q) (N:=N) (bs:=bs) (hdct:=hdct) (sn:=sn) (sub:=sub) (ab:=ab) (col:=col) (dd:=dd) (k0:=k0) (k1:=k1) (k2:=k2) (k3:=k3) (k5:=k5)
  PySem.F.excBase_ValueError (mN:=mN) (T.hasType Z8) hh[CM Uh] hni[yf7 Xq hd]] Uh,xAf[Calls.evalArgs_plain[Calls.spliced_cons[Ý[x4W I h] λ u s1 ⟨y,H1,I1,r1,q1⟩=>Calls.spliced_nil ?_]]] (rfl,E9,I1.kIn C _ hl,hN.keeps I1.bk,T.keeps I1.bk,xFr ea md)[hx RN ı s1 _ _ I1 (ea,_,[ea],H1,Ú,I1.bare,Un.kept md.keeps,I1.hok.kept md.keeps,pY hD[Fly.made md] rh[λ b e=>nomatch e],CG[by
  show(xHK KD,x0J,AX md.new[I1.hok.gone md.new])],q1)])
def xuV (X:Cx) (pn:Χ) (σ0:St) (E:XK) (D:xyQ:=λ _=>True):Cx:={X with
 pn:=pn
 xe:=Tre {X with pn:=pn} [] σ0 D E}
def cxHand (X:Cx) (e:RA) (G:Hp):Cx:={X with
 A:=yeV e
 H₀:=G
 xe:=du}
def xuw (CX:C_)(X:Cx)(E:XK)(σ0:St):Prop:=∀RN H s e s',wC σ0 H s->CX X.stack H s E Ž->X.xe Ž
def Cx.Ok.repn {X:Cx}(ok:X.Ok)(pn)(W):Cx.Ok[xGt pn W]:=
 (vcS,vcE,vcH,vcJ,vcD,vcK,vcT,vcF)
def Cx.Ok.unpn {X:Cx}{pn:Χ}(ok:Cx.Ok[xGt pn W]):X.Ok:=
 (vcS,vcE,vcH,vcJ,vcD,vcK,vcT,vcF)
def Inv.lift {σ:St}(I:W1)(W):Inv[xGt xxZ W] [] Ä s:=
 (I.ok.repn _ W,vbZ,rG[xGn xMV],vcl)
def Inv.unlift {σ:St}(I:Inv[xGt xxZ W] Td Ä s):W1:=
 (I.ok.unpn,vbZ,rG[xGn xZu],vcl)
theorem Inv.repn {X:Cx}{σ:St}(I:xAH[xGt pn W] H s):Inv[xGt pn W'] [] Ä s:=
 (I.ok.unpn.repn _ W',vbZ,rG[xGn[by simp at hp;exact xZu]],vcl)
theorem xyt.unlift (h:xyt[xGt xxZ W] [] D f s'):xLb s':=by
 cases f with
 |next=>show Dj zc2 q h[yii H']
 |brk=>show Dj zc2 q h[yii H']
 |cont=>show Dj zc2 q h[yii H']
 |ret u=>show(IG v zc2 r q,pK v â I.unlift r q)
def xic {X:Cx}{pn:Χ}{σ0:St}(hX:X.ex=[])(hD:∀c,D c->D' c:=by intros;trivial):xuw yin[xuV X pn σ0 E D'] E σ0:=by
 intro RN H s e s' I hx;show((ea,cls,fp,vb7,I',F,fr,q)=I.thrown hx hX,F7 c dc F bk bn F[cF ea cls fp H' I'.repn (c,hD c dc,F,bk,λ b e=>let n:=xRJ;(n.s0,vef))[CG[let n:=x17;(n.s0,n.h,vef)]] q])
def tAt (σ0:St)(t:TE):TE:=λ σ H Q=>σ=σ0/\xK3
def xtH (F:HS)(hr:pA)(hb:UM)(hd:VJ)(hx:xuw CX X E σ0)
  (I:wC σ0 H s) (r:xJp) (h:sp[vs++Uu] H Q E):A1[xVv us][xs9 X RN σ0 Q]:=by
 show AH r2 zoa hl zq4;cases r with
 |error e=>exact hx RN H s Ž I hq
 |ok fl=>
  cases fl with
  |ret u=>exact I.after hq
  |next=>show b9
  |brk=>show b9
  |cont=>show b9
def xay {p:Pos}{pos:Pos}(F:HS)(hr:pA)(hg:yF)(hm:yr=aM)(hk:xw5 X.K Xl)(hb:UM)(hd:VJ)(hx:xuw CX X E σ0)
  (ha:om) (YY:sV) (he:AM[w8=EX::Uy]) (T6:de):
  fk x p cD[yhQ[yhc Uu E t]]:=by
 intro RN s σ H Q I h;show(xBm rfl h,xAf xRA[yla hk zhS T6][xtH F zca I1 r q])
def xmg {pos:Pos}{apos:Pos}{pl:xBQ}(he:Y5)(c:Wq)(hm:xY5 m f)(F:HS)(hr:pA)(hb:UM)(hd:VJ)(hx:xuw CX X E σ0)(ha:om)
    (Uh:AM[w8=EX::Uy]) (T6:de)
    (ht:AM[va xDB=(do
      let ov<-qe
      xAO
      let((f,first))<-xAW zc5
      xES x8B)]):
    Ax xDB[yhQ[xT2 Uu E ta t]]:=by
  intro RN s σ H Q I h
  show(pd rfl h h[NC zdM],vcz,xAf xUm[yla zg2 Uh T6][xtH zjl zca I2[x5k r] q2])
def Inv.know {σ:St}(I:W1)(n:x1l b)(hb:HZ xHo):xAH[xM6 xEp] H s:=by
 show(SB neF[∀c∈X.fs,pD][λ c hc z=>by
  show(x2N ž hc,xRZ ho ho)] Xx[∀c o,ykd=LT->pD][λ c o q z=>xRZ q q],SL neB[∀c o,X.base.get? c=LT->pD][λ c o q=>xKM o (xGs c q).1] ((vfj,vdd,vfa,vfw,?_,veZ,I.ok.exf,λ c o q=>yb (xGs c q).1,I.ok.bsz,vfb,I.ok.funs,UV c hc),vck,(λ c o q z hc hx=>?_,λ c o q z hc hx=>?_,λ c o q z hx=>?_,ve1,λ c o u q=>?_,yh c ps),vcj,vbS,vcp))
 ·rcases I.ok.hd with q|⟨a,o,vs,c,e,f,d,z,k⟩
  ·show DD q
  ·show((up:∀x o u,UF[X.H₀ x] wA->UF[xEp x] wA)=λ x o u g=>by
    by_cases hx:x=b
    ·show(uJ[yl3 _ _ g] hx hb,Γ hx ae this)
    ·show Κ hx g,Dr (a,o,vs,c,e,up _ _ _ f,d,z,k.keep up))
 ·show dF b _ c;show Κ[neB c o q] (xGs c q).2
 ·show dF b _ c;show Κ[neF c hc][I.ok.frf c hc]
 ·show((z':dF b xHo c)=z,xAb zjQ[ymf o q z' hc hx])
 ·show((z':dF b xHo c)=z,xAb zjQ[xGk c q z' hc hx])
 ·show((z':dF b xHo c)=z,xAb zjQ[ymg o q z' hx])
 ·show HM[aZ[xEp c]] q;by_cases hc:c=b
  ·show cx hc ae zcR
  ·show xAb hc q'[xMC c q']
 ·show HM[UF[xEp c] wA] q;by_cases hc:c=b
  ·rw [hc] at q' ⊢;rw [ae] at q';show Sc hb q'
  ·show xAb hc q'[yc0 o u q']
 ·show HM[UF[xEp c] xxN] q;by_cases hc:c=b
  ·show cx hc ae zcR
  ·show xAb hc q'[xMD c q']
def Inv.unknow {σ:St}{σ1:St}(I0:W1)(n:x1l b)(hb:HZ xHo)(I:xAF[xM6 xEp] zdT):wC zdT:=by
 show AH Xx[∀c u,wX ykd->pD][λ c u q z=>xRZ q q] tr[∀c,pD->xEp c=X.H₀ c][λ c hc=>ak hc] (I0.ok,vck,(λ c u q z hc hx=>ymf u zhQ hc hx,λ c u q z hc hx=>I.base.slot c u zhQ hc hx,λ c u q z hx=>ymg u zhQ hx,ve1,λ c u v q=>?_,yh c ps),vcj,vbS,vcp)
 ·show(xMC c[xRG c oM],xIH[I0.base.tups c xs q] hb)
 ·by_cases hc:c=b
  ·show(uJ[I0.base.frzs c u v q] hc hb,yc0 u v ?_);show xEp c=_;show Γ hc ae this
  ·exact yc0 u v[xRG c hc]
 ·show(vQ[xMD c[xRG c oM]] m this[I0.base.tbls c ps q],ycy hb)
def Inv.ready {σ:St}(I:W1)(bk:BkX X RN H e c):∃G,xAH[xM6 G] H s/\xAe G e/\∀σ1 H1 s1,xAF[xM6 G] zdT->wC zdT:=by
 obtain⟨bk,bn⟩:=bk;rcases bk with bk|⟨b,ob,us,rfl,n,f,r⟩
 ·show Iv X.H₀ I[.inl bk][x6m z]
 ·exact Vr[I.know[bn b rfl] f][.inr[Io b ob us n ae r]][x6m[I.unknow[bn b rfl] f z]]
def Inv.hand {σ:St}(I:W1)(n:xXl H e)(g:IS e xIb)(h2:xFx 2 c/\xEH)(bk:xAe X.H₀ e):
  xAH[xGo e x09][vD e xWT] s:=by
 show(SB neF[Eg X.fs Zx][λ b hb z=>by
  show(x2N ž hb,xRZ ho ho)] Xx[∀b o,i7=LT->Zx][λ b o q z=>xRZ q q],AH neB[∀b o,xMB=LT->Zx][λ b o q=>xLe (xGs b q).1] bk'[xAe x09 e][by
  rcases bk with bk|⟨b,ob,us,e1,n1,f1,r⟩
  ·show DD bk
  ·show Dr (b,ob,us,e1,n1,Xm n1 f1,r)] ((vfj,vdd,vfa,vfw,.inr[cF e _ vs c ae rfl h2 bk'],veZ,I.ok.exf,λ b o q=>yb (xGs b q).1,I.ok.bsz,vfb,I.ok.funs,uL),vck,(λ b o q z hb hx=>?_,λ b o q z hb hx=>?_,λ b o q z hx=>?_,ve2,λ b o u q=>?_,yh b ps),vcj,?_,Ο x c ec,pL,yh a o,I.len))
 ·show dF e _ b;show Κ[neB b o q] (xGs b q).2
 ·show dF e _ b;show Κ[neF Ì][I.ok.frf Ì]
 ·show((z':dF e xWT b)=z,xAb[xLe q] z'[xSS q z' hb hx])
 ·show((z':dF e xWT b)=z,xAb[xLe q] z'[xGk b q z' hb hx])
 ·show((z':dF e xWT b)=z,pV[ak[xLe q]] z'[xUJ o q z' hx])
 ·show HM[aZ[x09 b]] q;by_cases hb:b=e
  ·show cx hb ae zcR
  ·show pV Yj q'[xMC b q']
 ·show HM[UF[x09 b] wA] q;by_cases hb:b=e
  ·rw [hb] at q' ⊢;show pV ae zcR
  ·show pV Yj q'[x3O o u q']
 ·show HM[UF[x09 b] xxN] q;by_cases hb:b=e
  ·show cx hb ae zcR
  ·show pV Yj q'[xMD b q']
 ·show Ω[vD e _ X.env.locals];show Κ[NB n.loc] I.free
 ·show Κ[n.cel x c ec][xX3 ec]
 ·show BI zd1 xIr a1[Κ[n.pin ĳ] a2] a3
 ·by_cases ha:a=e
  ·clear bk neF Xx neB bk';show(CN ha ae q q,Ef g _ g)
  ·rw [ak ha] at q;show BU nt[∀b u,xR4->Zx][λ b u r z=>Ek n.h r r][xGH a o q[λ b u _ r=>r][λ b r=>Κ[nt b _ r] r][λ b xs r=>Κ[nt b _ r] r]]
def Inv.unhand {σ:St}{σ1:St}(I0:W1)(n:xXl H e)(I:xAF[xGo zrx] zdT):wC zdT:=by
 show AH Xx[∀b u,wX i7->Zx][λ b u q z=>xRZ q q] tr[∀b,Zx->(xGo zrx).H₀ b=ygJ][CG Yj] (I0.ok,vck,(λ b u q z hb hx=>yiC u zhK hb hx,λ b u q z hb hx=>I.base.slot b u zhK hb hx,λ b u q z hx=>xUJ u zhK hx,ve2,λ b u v q=>?_,yh b ps),vcj,vbS,vcp)
 ·show(xMC b[xRG b oM],xIH[I0.base.tups b xs q] n.h)
 ·show(x3O u v[xRG b oM],xIH[I0.base.frzs b u v q] n.h)
 ·show(vQ[xMD b[xRG b oM]] m this[I0.base.tbls b ps q],ycy n.h)
def Inv.nameGoes {σ:St}(I:W1)(hN:X.N.Nodup)(hi:x1P)(hl:xMq y)
    (h:qF[wC ygF H s'->x0X]):xAx[do ylz y .none;yjd y pos]:=by
  show(SB hiσ zmJ Ze zkP,SL hk[x3L y .local] hl[JV[wpAny_bindName[xwq (v:=.non) I hN hi x5y rfl[UV s1 I1][.inr hl]]]])
  unfold unbindBehindTheSuite
  show(wpAny_onRaise ?_,iu unbindName[wpAny_point[JV ?_]])
  unfold deleteName
  simp only [hk,Ze]
  show(wG Z9,xBh m hn hm[id I1.loc],ka u ru lk[hm i y .non hi[by rw [x6S]] x5y],tB hmy[wX[m y]][by
    rcases lk with⟨_,q⟩|⟨q,_⟩
    · show Ii
    · rw [hk] at q
      rcases q with q|q<;>cases q][JV[wpAny_nsDel_keeps hn λ h2 v WA Vj=>?_]] hmy)
  simp only [if_true,Option.isSome_some,Bool.not_true,Mt,OR]
  show(bK[Kn[wpAny_point yaH]],(oL,_,_,hoL,_)=id hn,π,SL Xx[∀b o,i7=LT->Fb][λ b o e=>xZU I1.ok.above] (I1.ok,I1.os,I1.bare,(λ b o e n hb hx=>zV Vj b[xLe e][I1.base.keep b o zbQ],λ b o e n hb hx=>?_,I1.base.free,λ b o e hx=>?_,I1.base.tups,I1.base.frzs,I1.base.tbls),De WA[λ j z v' e1 e2 e3=>?_],HL z c,I1.free,I1.freeC,pL,HL b ob,ycZ))
  · show vI sl e1[I1.base.slot b o zbQ] sl[zV Vj b[xLe e] e1]
  · show vI o' e1[I1.base.there b o e hx] o'[zV Vj b[xLe e] e1]
  · show(yp hj[j≠i][Ei[cx q x6S e2 e2]] yal e2,sO zcS q[hm j z v' e1[Sc yal e2] e3][Dt zcS])
    rcases q with⟨kk,e⟩|⟨kk,c,e,zz⟩
    · refine jk kk ?_
      have:z≠y:=Ei[hj[xpI hN e1[q▸hi]]]
      simp [this,e]
    · show Dr (kk,c,e,zz.sameBut zs3)
  · show vI w' q[I1.cell z c e] w'[q.sameBut zs3]
  · show(TL,Xh e n ne nf d[I1.pin ĳ],AG[zV Vj Bt ne e] n ne nf d)
  · refine(I1.hok b ob e).stay[λ c w' hc q=>zV Vj c oM q] zeT
    rcases hc with hc|hc
    · rw [<-hc,z,I1.free] at e;show Hy
    · show Ek I1.free zcl
def xn7 (i:Nat)(D:Ends):Ends:=(λ σ H=>xXt none H,D.rt,λ σ H=>D.bk ygF H,λ σ H=>D.ct ygF H)
def xeV (K:Frag)(D0:RA)(i:Nat)(tb:St->XK->TS)(th:TS):TS:=λ D σ H=>
 tb σ[λ cls _ H'=>∃C,cls=C5/\oo C/\C≠D0/\mw[xCd C xWR]/\
  ∀e vs,Ω xKN->th zqE[WY H'[xXm e]]] ì
def xdw {s:RD}(Uh:xZW)(hfr:xVg)(hX:X.ex=[])
  (hb:xHw[xuV X xxZ σ W D'] tb) (I:W1) (h:tb ì)
  (k:∀(ea T:RA) (cls c:RC) (H':Hp) (s1:RD) (vs ts:ZR) (oT:RK),D' c->xAe H' ea->EG b[c=VX->x1l b]->W zgB H'->Fly s1.heap ea cls [ea,T] c->mV s1->xDv ea->xDv T->UF[s1.heap.get? ea] xIb->(xFx 2 c/\xEH)->vs[1]?=υ T->T≠ea->UF ycH oT->oT.data=x4F->xMZ ts 3->xu[handleBy xBY X.env[h₀::hs]] xOs s1):
  A1[yhs[xWC[h₀::hs] zdq]] xOs:=by
 refine ycC[hb [] s Ä D[I.lift _] h] zsi
 ·show HM zp5;cases f with
  |next=>exact Ou q'
  |brk=>show SF
  |cont=>show SF
  |ret u=>show SF
 ·show((ea,cls,fp,vb7,I1,vdf,q)=q,SB I1[mV s1][Inv.unlift I1] fr zkX,SL hf[yes yb2] zkU)
  obtain⟨vs,ge,z2,⟨_,r⟩|⟨T',oT,ts,v1,neT,gT,dT,zT,r⟩⟩:=id F'
  ·show xKe
  ·show EL r[k ea T cls c H' _ vs ts oT dc bk[λ b e=>let n:=xRJ;(n.s0,vdv)] q F'[ym2 zp6][fr ea F.here][I1.new[by
    cases z:ycH with
    |none=>rfl
    |some o=>show lJ[xIt z hT]] zrJ] ge z2 v1 neT zcQ zT]
def RU.hand (r:xTy)(h:j≤k)(h30:j<30):RU j[A.mark v]:=
 (ym z[Nat.not_le.mpr h30],by show xNJ;show xZA _+5<_;show DE znX zsd XL[JU 3 h] this,by show xG7;show xM0 _+200<_;show DE znw zrG XL[JU 16 h] this,r.gd)
structure ExI (K:Frag)(C:RA):Prop where
 ga:xAp "__getattribute__"[xU2 "BaseException.__getattribute__"]
 gt:ya4 "__getattr__"
 hd:WF yaO
 ha:xAp zpZ
 hn:UF zmS
 htk:mw[takesIn K xw2]
 hm:mw[xCd C xVa]
 be:mw[xCd C xLU]
def xax {os:OsState}(L:Looks M h[isInstance Dh xLU] true)
  (hq:xNF[xEw h g d t]):xy7[checkBuiltinCall "BaseException.__getattribute__"[BC [Dh,nv]]] ziS:=by
 show(SB hk[UF[builtinKind "BaseException.__getattribute__"] .slot] Z8 hsplit[UF[splitId "BaseException.__getattribute__"] (("BaseException","__getattribute__"))] Z8,ha=PySem.F.args_bexc_ga Dh nv);simp only [checkBuiltinCall,hk,hsplit];show Du[L.at ?_]
 repeat (first|exact hq|wp_step)
def xaI {os:OsState}{K:Frag}(Y:oz)(I:x7L h ox C none)
  (L3:Looks sN h[Builtin.ObjectAttr.find Dh C5 "__class__"][.bind xUB xw2]) (hm:mw[xCd C xVa])
  (hq:Q[yfd C5][xEw h g d t]):xGV[Builtin.«object.__getattribute__»[BC [Dh,.str "__class__" tk]]][xEw h g d t]:=by
 show(L0=I.type (M:=sN),vt[xIw yu][Kn[JV[L0.at[JV[L3.at ?_]]]]],ZO _[xXk[Value.builtin "object.__class__"][call xUB [xw2,Dh,C5]]>>= ret] _,xPC[P4[PySem.W.class_get Y I hm[Kn hq]]])
def xiV {K:Frag}(c:xS9)(Y:gR)(I:x7L s.heap ox C none)
  (h:Q Ff xYI):yk[getAttr? Dh "__class__"]:=by
 show((hf:UF[findObj K C none "__class__"][.bind xUB xw2])=by
  show yht hc yhR;unfold findObj;rw [hc,Option.bind_some,c.ha,Option.bind_some];simp [c.hn,c.htk],(hh,g,d,t,os)=s,Ew L0[I.type (M:=sN)] L1[OX zgI c.ga] L2[OX zgI c.gt] L3[PySem.W.looks_find zgI I hf],L4=PySem.W.looks_mroIn zgI c.be);unfold getAttr? getAttrBy? getAttrBy;show(Du[wpAny_mkText[JV[OA[L9[JV[L0.at[JV[L1.at ?_]]]]]]]],ZO _[getAttrByItsOwn _ _ _ _ _ _] _);unfold getAttrByItsOwn;show(vt[show wpAny _ _[typeLookup C5 "__getattr__"] _ _ _ from L2.at ?_][OA yap],ZO _[boundAndCalled _ _ _] _);unfold boundAndCalled;show(nz[ydG[PySem.F.attr_ValueError.ga.bind _]][P4[codeAny_call_builtin PySem.F.attr_ValueError.ga.plain PySem.F.entry_bexc_ga ?_]],xax[L0.andThen L4][xaI Y I L3 c.hm ?_],ZO _[handedOut C5] _,UN[Kn h])
def xbg {K:Frag}(c:xS9):KitX K Dh C5[VT[x7L h[exO C5 vs] C none]] where
 ty:=λ _ _ _ I=>I.type
 it:=λ M h Y _=>by
  show(TL,yht hc yhR,π);unfold clsIn at hc
  split at hc
  ·rename_i ho
   intro A' Q' E' s' k q;unfold isType loadHead;exact JV[wpAny_loadPart[Yq[Y _ _ ho]][Kn q]]
  ·cases hc
 ne:=λ h tp dd its n sl Y htp=>by
  show(TL,yht hc yhR,π,CJ[Bool.eq_false_iff.mpr[Gf q]] e[C=tp][Value.ref.inj[K6.mp q]],DX);unfold clsIn at hc
  split at hc
  ·rename_i ho
   show(xMR z[Y _ _ ho] htp,Iq)
  ·cases hc
 ca:=λ Y I k=>xiV c Y I k
def xkz:RC->V
 | .ref a=>Aj
 | .type n=>.ty n
 |_=>.non
def xns:ymJ[λ xs H Q=>∃a C vs c b,xs=sZ[xkz c]/\EO zn8/\dE[xXm a]/\ExI z_/\UF[yeD C5 c] b/\xK1]:=by
 intro RN s σ H xs us Q I r h;show(TL,(a,C,vs,c,q_,hc,hf,ci,e,q)=h,veF);clear r;cases ru;have ev:v=c:=by
  obtain⟨n,hc|⟨t,hc⟩⟩:=hc
  ·show FU hc rv
  ·clear n;show FU hc rv
 clear hc rv;subst ev;show((g,_)=mW a hf,xMv[xbg ci][JH g rfl trivial] e Jf λ tk=>Fu Cf H[I.tok tk] q)
def xty {K:Frag}{g:TG}{tt:TT}{te:TE}{R:jq}(Pv:DQ xIv)(h0:Pv ż xCp)(hl:∀i ys H,me->Vc->Zq)
  (hs:∀i x ys σ H,uG->Vc->xTb->oh[xJZ[λ c H5=>xLA c zk4]])
  (hd:∀ys H,ydC H->R H) (mg:∀x σ H (A B:F9),rF[xZa->xZb]->oh A->oh B) (mtt:∀σ H (A B:Pt),(IH zdN)->xZ5 H A->xZ5 H B) (mt:∀σ H (A B:VK),(IH zdN)->oj A->oj B):
  Yh[SC->F9][x1m/\∀i m ys σ' H',dt->
   (xS6 zY/\R H')\/(xTs zY/\∀x H2,xTh zY x H2->xE4[xJZ[λ c H5=>xLA c[λ y H4=>
    X7=oZ/\pW/\eE[m'<m/\fq[i+1]]][eE[m'<m/\xNB zdE]]]])]:=by
 show x8 zgU;rintro i m ys σ H ⟨rfl,hi,hn,p⟩;have q:=xEt ys H hi p;by_cases RQ:xKm
 ·show(vQ zmX y y,xG8,mg _ _ _ _ zml[xEu x ys σ zgd p hn]);cases c with
  |true=>
   show pV Cm zkJ
  |false=>
   show pV yaf znE
 ·show aw[ao i] zhh
def xmQ (A)(s)(a)(t)(c)(u):ydk s[.str a t][.str c u][a==c]:=by
 first|exact yjG t c u|exact(MeetsSeq.EqGives.str_str a t c u).at A s
universe L2
namespace L2
open PySem
def xc3 {dV kV doc pm RO ct oc:RC}
    (lk:x13[x7p dV kV doc pm an RO ct]) (VA:xZt RO) (S:xux N ps scope)
  (len:∀vs H Q E,o3->mI)
  (WV:∀(A:RH) (outer:uz) (s:RD) (H:Hp) (vs:SC) (Q:VK) (E:XK),o3->
   JM[xHw zmL/\xEV]):
  vc P w K CX 0 f znK sp:=by
 show(vet,xa zlp[λ⟨n,v⟩ hy=>by
  rcases S.par n (Pz hy).1 with q|q
  ·show DD q
  ·show Dr[x50[P1 _ _ _[.inl q]]]] zkL)
 subst he;show(EJ yji yk7,(t,ht,hq)=WV _W s H vs Q E Wz,vdC)
 cases fl with
 |ret u=>
  show xxx v â J rv q hs[fin J rv q]
 |next=>
  show Dj â J q zog
 |brk=>
  show(x28 q,lE q)
 |cont=>
  show(x28 q,lE q)
def xuG.ok0 (F:Cb zb8)(S:XV N ps st)
  (WV:∀(RO:RC) (A:RH) (outer:uz) (s:RD) (H:Hp) (vs:SC) (Q:VK) (E:XK),o3->
   let X:=(xGQ RZ zfc E).nox;JM[xTO/\xEV]) (len:xMX[∀vs H Q E,o3->mI]):xKD 0:=by
 show((vb8,lk,VA)=F.ex,xc3 lk VA S len λ A outer s H vs Q E Wz=>?_,BI t h q[WV zdj vs Q E Wz] t h.nox q)
universe L2
namespace L2
open PySem PySem.Spec PyProof.Rows QQ
def ar (h:∀R:F9,(∀σ H,u ì->R Ä)->xAv {D with nx:=R} H):xqH t u ì:=h[u D] xCb
def xtv {K:Frag}(hK:X.K=K):xZ3 xBq:=FU hK xqK
inductive rNeL (K:Frag) (x:V) (y:V) (H:Hp) (Q:VK):Prop
 |mk (p q:RA) (ns ms:Ya) (h0:x=Dc) (h1:y=gc) (h2:zR p jy) (h3:zR q x3K) (h4:yO[! D3 ns ms]):rNeL K x y H Q
def xgp {X:Cx}(hu:xQT):x5q[rNeL X.K]:=by
 intro RN s σ H x y v u Q I rx ry h;show((p,q,ns,ms,Ú,é,k)=h,xPn,xSa,DS zcW xNt,PySem.W.ne_intsK pl.isList x90 zsh hu[xA _ H I k])
def xzE (xs)(k:Nat):xXJ none[some zv]=xs.take k:=by
 show(xG9,[HT.xrq,HT.SY,MR,NQ]);by_cases h:xFQ k
 ·rw [KY h]
 ·rw [Mx[Qm h],K0,Kg[Qm h]]
def dW (xs)(k:Nat):x2c xs zv=xs.drop k:=by
 show yX û HT.xrq HT.SY;by_cases h:xFQ k
 ·rw [KY h,<-Kc,K0]
 ·rw [Mx[Qm h],Q8,P0[Qm h],List.take_nil]
def xum (xs:SC){m n:Nat}(hm:lG m)(hn:xFQ n):tI xs aP kK=uO[xs.drop m] n m:=by
 show(xG9,[HT.SY,HT.SY,KY[show xFQ m from JW hm hn],KY hn])
def xpv {a x:Str}{b c:RA}(h:UF[xMF [((a,b))]] c):x=a/\c=b:=by
 show Ir List.lookup_cons;cases hx:x==a with
 |true=>show A3 hx h (eq_of_beq hx,xHp h)
 |false=>show A8 hx h h
def none_of (s:AA)(h:Ω[H' q]):Bf q:=by
 cases e:H q with
 |none=>rfl
 |some o=>show A8[FV e] h h
def am (h:pF):qq[vD p o]:=λ b u e=>yY h e
def xik:∀x,WF[ķ x]->WF[eqV x x]:=by
 intro x h;cases x<;>simp [ķ,eqV] at h ⊢
def xus {X:Cx}:aH .Is[λ x y H Q=>∃c d,x=xI8/\y=.bl d/\yO[c==d]]:=by
 intro RN s σ H x y v u Q I rx ry h;show(TL,ze c d zbl,π,qX,Ie[PyProof.Rows.is_bool[xA[c==d] H I q]])
def xtR (hb:xHw X.nox tb):uE[xWC[h₀::hs] zdq] tb:=by
 intro RN s σ H D I h;show CJ[ycC[hb þ D[I.wish _] h][yh f s1][λ e s1 q=>q.elim]] q'[xLb s1][xyt.unwish q];cases f with
 |next=>exact Ou q'
 |brk=>show SF
 |cont=>show SF
 |ret u=>show SF
universe L2
namespace QQ
open PySem PyProof.Rows
def xgg {items}(hq:xEI)
  (hit:ybR l i) (hl:ycd l) (hx:Ω items[i]?)
  (hE:∀h' e,x1A->EO zo9->x2t e tV):
  yk[Builtin.SmallTypes.nextOf fj]:=by
 show(xXr ž hc hd x9b,(ol,hol,_,nl,hdl)=hl,π,iu Builtin.SmallTypes.nextOf[ycX zr5],veL,vd4,veQ,ω sb1[ybl zji][yfb[λ a o' us e d' z'=>ydg zhx e][λ h' e k he=>?_]],hE _ e[λ b ob hb e1=>xDq[ydh ob hb e1]] he)
universe QQ
namespace L2
open PySem PySem.Spec PyProof.Rows QQ
def xmj {σ:St}(I:W1){ns:Ya}(ha:xxH a jy)(hb:xxH b jy){A:RH}(hu:A.units<cLine):ydk s Aj VX true:=by
 by_cases e:a=b
 ·show A6[.same _]
 ·show(x7n ha,DS zcW[I.list hb],Ty l1 rv.length l2 XC.length);rw [JO] at l1 l2;show xDp[.of_refs e ?_] R[SeqAt.RcAt.lists (A:=A) zjR[by show([Ko,Ko],gH[zg zed ydI[JQ l2]] zj7 Ey ST[JQ l1][JQ l2.symm])] hu[Ο j Ç]]
  ·show(E7[WF[(List.range its.toArray.size).all xVZ]] Z6,A3 e2 R R)
  ·show(ZZ j1 zlJ,(u1,e1,r1)=xWq j znY,ka u2 e2 r2[XC.get (i:=j) znY],SB zpQ[by
    show(x3E z e1,jL)] zqu[by
    show(x3E z e2,jL)],(hh:WF[eqV[xSi ns j][xSi ns j]])=xik È,[g1,g2,-hh],xiH B_ Ð)
universe L2
namespace QQ
open PySem PyProof.Rows
universe QQ
namespace L2
open PySem PySem.Spec PyProof.Rows
def xuQ (lo c:Int)(n:Nat):It:=(λ i _=>i<n,λ i H x H'=>H'=H/\x=.int[lo+i*c],λ i _=>HE n)
def xf5 {K:Frag}(it)(lo c)(n):x9c w K tg[xuQ lo c n] [it] it[λ i h=>xVn h[lo+rV i*c][By-rV i] c] where
 mem:=Z6
 obj:=λ i h st b hb=>aw zfz[De st[λ v z=>by
   show((z':xW6 _ ydU)=z,xCQ)]]
 keep:=λ i h h' st k=>k it Z6 _ st
 item:=by
  intro X hP hw hK hc i RN s σ H E I hf st hg;subst hP hw hK;show(xHB zdY,yjb[by have:i<n:=hg;omega][xFr st1 sb],SB st'[xVn h'[lo+jT*c][By-jT] c][by
   show(Gn[lo+jT*c=lo+gy*c+c][xJ1[Js jT[gy+1]] Int.add_mul] zr8,Γ ğ st1)] I1 zlP,xR0[xsJ st' Ð Z9 (.int[lo+i*c],H,I1,dJ s.toks,jl,vdu)])
 done:=by
  intro X hP hw hK hc i RN s σ H E I hf st hg;subst hP hw hK;show xxx zjb zkH
 self:=x42 h[yjg h]
inductive ļ (R:xDg) (vs:SC) (H1:Hp):Prop
 |mk (i j c:Int) (n:Nat) (h0:vs=[HR,V6,.int c]) (h1:Eu 0) (h2:yb5 i j c) (h3:yjm j c=By) (h4:A2[Builtin.divisionGoesByPylong[j-i] c]) (h5:R[xuQ i c n] H1):ļ zcL
def IR (ta:TA):TI:=λ σ H R=>xX5 vs[ļ zcL]
def xmy {X:Cx}{tg:RJ}{p pos:Pos}(hg:ye0)(hm:ye2)(ha:oK [a,b,c] ta)(hs:AM[sR [a,b,c]=[nN a,nN b,nN c]])(Vj:AM[sR [b,c]=[nN b,nN c]]):
  PI X tg[xXu "range" p [a,b,c]][IR ta]:=by
 intro RN s σ H R I h;show(xU zln zep,(i,j,c,n,e,h0,vbi,q)=q1,DX);cases r1 with
 |cons r rr=>
  cases rr with
  |cons r' rr=>
   cases rr with
   |cons r'' rr=>
    cases rr;show(kY r,JK t' r',JK t'' r'',Υ[call_range_3 h0 ?_[.inl h3]][yi3 .. h1 ?_],SL I2[kc H1 {s1 with heap:=s1.heap.push[xWK #[vi,V6 t',x9R]],toks:=s1.toks}][I1.kept λ b o e=>yK] (ybE[xWK #[vi,V6 t',x9R]],[ybE[xWK #[vi,V6 t',x9R]]],_,_,H1,rfl,I2.kept λ b o e=>yK,xf5 _ i c n,?_,uL,q))
    ·show Gn[i+EP*c=i] Z6[By-EP=yjm j c][sr h2]
     show yl8 _[i+EP*c][By-EP] c;show Γ ğ Bb
    ·show aw[b=ybE[xWK #[vi,V6 t',x9R]]] iU[I2.fpOk ρ ykS]
def xnn {lo c:Int}{g:TG}{tb:TS}{D:Ends}(Pv:x0I)(h0:GX 0)
  (hs:∀i σ H,i<n->lV->g[.int[lo+i*c]] zns) (hd:∀σ H,GX n->lN):
  Yh F9[x07 H/\∀i m σ H,x06 H->
   (xVt[xuQ lo c n] H/\lN)\/((xuQ lo c n).go i H/\∃N,rF[xRd->eE[m'<m/\x1V zeU]]/\IH x[xWe[xuQ lo c n] H x H'->x00[ie D N N]])]:=by
 show x8 zlT;rintro i m σ H ⟨rfl,hi,p⟩;by_cases RQ:i<n
 ·show vQ zk7 y y;subst e y;exact xEu σ _ RQ p
 ·show Bj[i=n] xCK;clear hs hi RQ;show(xG8,DD (ρ,hd Ä p))
universe L2
namespace L2
open PySem PySem.Spec PyProof.Rows QQ
def xya {x:V}{us:DC}(r:xxc CI):∃u,us=Gz/\mf:=by
 cases r with
 |cons r rr=>show EL rr[AK r]
structure MkB (K:Frag)(C:RA):Prop where
 makes:xGO K C
 init:xGE K C5[some xUI]
 kp:xw5 K C5
def xdk (C:RA):TE:=λ _ H Q=>∀x dx,Bf x->Bf dx->dx≠x->Q Dh[kS zjN C []]
def xr1 (M:MkB z_)(hg:yF)(hm:yr=Ff)(YY:sV):fk x p [][xdk C]:=by
 intro RN s σ H Q I h;show(Υ xRA[ygP M.kp ?_],xFD zpX zoi[P4[xiX zjg M.init[λ self=>Looks.of_pure[PySem.W.oi_bind self]] ?_]],Cc Y[Rc (M:=xGF) zjg] e2[ZS xId Iy xWx][by
  have:=K1 xUu (o:=xWx) rfl
  rwa [O2] at this] t1[Looks xGF xId[typeOf xHl] C5][(Looks.ld e2).andThen .now],SL t2[Looks xGF xId[isInstance xHl xVa] true][t1.andThen[Y.top.keeps λ b o e=>tU yK]][codeAny_call_builtin PySem.W.oi_plain PySem.W.entry_oi[@PySem.W.check_slot xGF _ _ _ "object.__init__" "object" "__init__" xHl i_ _ PySem.W.oi_kind PySem.W.oi_split t2[PySem.W.oi_args xHl] ?_]],Sc oi_run[Kn[And.intro rfl[Fu xHl _ I2 hq]]])
universe L2
namespace L2
open PySem PyProof.Rows
theorem xgv (a f):ykn Dl xFj=(do
    let items<-Builtin.List.listItems[.ref a]
    Builtin.List.listUpdate[.ref a] λ _=>#[]
    let before<-seqEpoch a
    let held<-newTuple items.toList
    let keyStore<-newList []
    holding [held,keyStore] do
      rule "list.sort.key"
      for x in items do
        match<-(call[.ref f] [x]).attempt with
        | .ok k=>Builtin.List.listUpdate keyStore (·.push k)
        | .error e=>
          rule "list.sort.key-raised"
          let made<-Builtin.List.listItems keyStore
          Builtin.List.listUpdate keyStore λ _=>#[]
          letGo made.toList.reverse [e]
          Builtin.List.listUpdate[.ref a] λ _=>items;throw e
      let keys<-Builtin.List.listItems keyStore
      let kind<-if items.size<2 then pure general' else keyKind' keys
      let(((),s))<-(if items.size<2 then pure () else sortRuns').run[SortSt.mk' kind[keys.zip items] #[] 7 none]
      let sorted:=(arrOf s).map (·.2)
      Builtin.List.listUpdate keyStore λ _=>#[]
      letGo ((arrOf s).map (·.1)).toList (failedOf s).toList
      let touched:=(<-seqEpoch a) !=before
      Builtin.List.listUpdate[.ref a] λ _=>sorted
      if let some e:=failedOf s then rule "list.sort.comparison-raised";throw e
      if touched then rule "list.sort.modified";raiseError "ValueError" "list modified during sort"
      ret .none):=by
  first|rfl|(fail "not by rfl")
def xfF (a v):argsOk "list.sort" (t8,[ygu v]):=by unfold argsOk;kernel_rfl
def xgz (a v):argsOk "sorted" (t8,[ygu v]):=by unfold argsOk;kernel_rfl
def xid (h:xQK):IntsAre[vs++[Sf n]][ns++[n]]:=by
 induction h with
 |nil=>exact xXg n t
 |cons m u _ ih=>exact .cons m u ih
def xrA:∀v,(seqObj c xs n).data≠ xHx:=λ v h=>yN
def Inv.turn {σ:St}(I:W1)(fa:vp a):x0C[yiH g]:=
 I.turned[λ b o hb e=>xFf hb e] fa.1[Az fa][iG fa][Vp fa][xCT fa]
universe L2
namespace L2
open PySem PyProof.Rows QQ
def Inv.adopt {σ:St}(I:W1)(fa:vp a)(rv:xDj)(hz:nQ)
  (ho:IS a[xVf n]):kc[G9 ċ] s:=by
 show ω hn fa.1[yfe t8 uL[λ b o _ _ _ e _=>e][λ b o _ _ _ e _=>xGx e][λ b o hb e n=>?_][λ b o _ e=>x1Q e][HL b ys][λ b o u e=>?_][λ b ps e=>yb #[]][λ m hm=>hm] zi1]
 ·show xFo (iG fa,Az fa,Vp fa,xCT fa)
 ·show Κ[bF FN] n
 ·show yY hn e
 ·show yY hn e
 ·show V5[uS hn] e
 ·by_cases hb:b=a
  ·show(CN hb ae e e,AG hz its n rv ho)
  ·show A3 Yj e[xGH b u e[λ c v _ q=>q][λ c q=>uC q hn q][λ c xs q=>uC q hn q]]
inductive PR:dS xZy[rW Int V]
 |nil:PR i_
 |cons {k v:RC} {n:Int} {x:V} {l:xZy} {m:rW Int V}:EO t[k=Sf n]->qA->xT8->PR[((k,v))::l][((n,x))::m]
def xdT (h:x4J ks)(g:xDj):PR xBn[ks.zip xs]:=by
 induction h generalizing xs its with
 |nil=>show zG
 |cons n t _ ih=>cases g with
  |nil=>show zG
  |cons r rs=>exact .cons[dJ t] r[ih rs]
def xcN (h:xT8):Vals (m.map (·.2)) (l.map (·.2)):=by
 induction h with
 |nil=>show zG
 |cons _ r _ ih=>show xj r
def xdU (h:xT8):l.length=m.length:=by
 induction h with
 |nil=>rfl
 |cons _ _ _ ih=>exact xUW ih
def xeD (h:xT8):∀{i:Nat} {q},B8 m q->∃t v,B8 l ((Sf Dw,v)):=by
 induction h with
 |nil=>intro i q hq;cases hq
 |cons e _ _ ih=>
  intro i q hq;cases i with
  |zero=>show iR e e;cases hq;show A6[ZK t _]
  |succ i=>show xRN hq
def xjq (e1:ns=ybS)(h:xNN i):xWM i=ns[(i)]:=by
 show(uK,xCJ LO h);simp [numAt,h]
def xiR (hc:xA2):xFw "max"[λ xs H Q=>∃(p:RA) (ns:Ya),xs=Cw/\xS1 jy/\xNN 0/\∀n∈ns,mq m ns[lG m]->ra n]:=by
 intro RN s σ H xs us Q I r h;show(TL,IG p ns rfl hq T1 q,vfK,x7n hq,vfL,SB hl zoT e1[ns=ybS][xHa zsg],SL hsz[ns.length=ys.size][Dq e1][max_intList hc hl[Kk T1 hsz] λ v h' tk hv hk=>?_],kY[intItems_at hv],xWA h1[argBest_gt xWM[ys.size-1]]);generalize argBest[λ i j=>decide[xWM i>xWM j]][ys.size-1]=b at*;show((hb:xNN b)=(VZ zhM xYt ST xMJ h1[NL.K'[Dd [_,_][.a zcV] Δ AZ ST T1[JQ hsz]]]),ω eb[xjq e1 hb][xCS ns[(b)][I.kept hk] (t,by rw [eb])[q _[Ms hb][UV m hm]]],dR ÿ[List.getElem_of_mem hm],gD[h2 j[Nj[Kk hj hsz]]][xjq e1 hj] eb this)
universe L2
namespace L2
open PySem PySem.Spec PyProof.Rows QQ
universe L2
namespace W16
def Pc.size:qy Pc
 | .sg _=>1
 | .cp _ z=>z
def al (S:LE) (p b:Nat):Ea
 |0=>0
 |m+1=>if xI=m/\S[p+m]?=S[p+m-b]? then m+1 else xI
theorem xvp (S:LE)(p b:Nat):∀m,xI≤m
 |0=>ρ
 |m+1=>by
  unfold al;have:=xvp S p b m
  split<;>lia
theorem xwQ {S:LE}{p b:Nat}:∀{m:Nat},∀i<xI,S[p+i]?=S[p+i-b]?
 |0,i,h=>x9e al
 |m+1,i,h=>by
  show xJK al
  ·rename_i c
   by_cases e:i=m
   ·show A6 pH
   ·exact xwQ (m:=m) i[Sc sL[LD[LQ h] e]]
  ·exact xwQ (m:=m) i h
theorem xnB {S:LE}{p b:Nat}:∀{m:Nat},(∀i<m,S[p+i]?=S[p+i-b]?)->xI=m
 |0,_=>rfl
 |m+1,h=>xJV al (xnB λ i hi=>h i[Rg 1 hi],h m[P7 _])
theorem xjg {S:LE}{p b r:Nat}(h:∀i<r,S[p+i]?=S[p+i-b]?)(hn:S[p+r]?≠S[p+r-b]?):∀m,r≤m->xI=r
 |0,hm=>by
  show wB[r=0][xTq[Z1 Hg Hg hm]];rfl
 |m+1,hm=>by
  by_cases e:r=m+1
  ·show A6[xnB h]
  ·show(Zz[xjg h hn m Z5],Hf al ih)
   split
   ·rename_i c
    rw [<-sL] at c;show Dv pH hn
   ·rfl
def xcc {S:LE}{p b m:Nat}(h:xI<m):S[p+xI]?≠S[p+xI-b]?:=by
 induction m with
 |zero=>show x9e al
 |succ m ih=>
  by_cases c:xI=m/\S[p+m]?=S[p+m-b]?
  ·show(Bj[vY b[m+1]=m+1][xJV al c],JE[aX [_,_] xCB vO h dC])
  ·show(Bj[vY b[m+1]=xI][by rw [al,Kh c]],uf);by_cases q:xI=m
   ·show Sc q[TD[c[x50 z]]]
   ·show xRN[xMO[xvp S p b m]]
def lc (S:LE) (p m:Nat):DQ Jg
 |0=>((0,0))
 |n+1=>if xCV m n<vY[n+1] m then((n+1,vY[n+1] m)) else xRK
theorem xvt (S:LE)(p m:Nat):∀n,xCV m n≤m
 |0=>Bz
 |n+1=>by
  show xNC lc
  ·exact xvp ..
  ·exact xvt S p m n
theorem xo4 {S:LE}{p m k:Nat}(h:xCV m k=m):∀n,xEQ->xRK=yf8 k
 |0,hk=>by
  show wB[k=0][xTq[Z1 Hg Hg hk]];rfl
 |n+1,hk=>by
  by_cases e:k=n+1
  ·show DX;rfl
  ·show(Zz[xo4 h n Z5],[lc,ih,h,Kh],Jx[xvp S p[n+1] m][QX.mpr this])
def xb1 {S:LE}{p m n:Nat}(h:S[p+xCV m n]?≠S[p+xCV m n-(n+1)]?):yf8[n+1]=xRK:=by
 rw [lc,Kh];intro c;exact h[xwQ _ c]
theorem xoc {S:LE}{p m:Nat}:∀{n:Nat},0<xCV m n->AJ xRK.1/\lG xRK.1/\xCV m n=vY xRK.1 m
 |0,h=>x9e lc
 |n+1,h=>by
  show xBJ lc
  split
  ·show SQ[NM Bz] ρ
  ·rename_i c
   show(Ir[Kh c],BI a b e[xoc h] a[LU b] e)
def most (S:LE)(p:Nat):Nat:=min 18[xxU p]
def _O (p:Nat):Nat:=min 255 p
def b_ (S:LE)(p:Nat):Jg:=lc S p IV Yn
def ĩ (S:LE)(p:Nat):Pc:=if rJ WC then .cp xJM WC else .sg[S.getD p 0]
def Walk (S:LE):DQ[yW->cm]
 |p,[],q=>p=q
 |p,x::xs,q=>xK0/\x=Zg/\Walk S[p+x.size] xs q
theorem xt9 {S:LE}:∀{P:yW} {p q:Nat},xEK P q->pQ q->xEK[P++[xRP]][q+(xRP).size]
 | [],p,q,h,hq=>qw[ID hq rfl]
 |x::P,p,q,h,hq=>(Gl,xy9,xt9 xDw hq)
def xpc {S:LE}{p:Nat}(h:xK0):AJ xW3/\Yc[p+xW3]:=by
 show xNC ĩ
 ·rename_i c
  have:=xvt S p IV Yn;show AJ WC/\Yc[p+WC];unfold b_ at c ⊢;unfold most at this c ⊢;show AX[Wg Ġ zbU c][Hu [_,_,_,_,_][A7[Bu x8j]][Bu xYq] AO zdf HN[xLE h]]
 ·show gY[AJ 1/\Yc[p+1]] yjR
theorem xye {S:LE}:∀{P:yW} {p q:Nat},xEK P q->p+P.length≤q
 | [],p,q,h=>by show yN;simp
 |x::P,p,q,h=>by
  have:=xye xDw;show iY (xpc Gl).1;rw [<-xy9] at h1;simp;show DE zig Hb Ec zdf h1
def xck {S:LE}{p b z:Nat}(hp:xK0)(h:Zg=xJc z):G5/\b≤p/\WW/\xE0/\xE5/\Yc[p+z]/\(∀i<z,S[p+i]?=S[p+i-b]?)/\(z<18->pQ[p+z]->S[p+z]?≠S[p+z-b]?):=by
 show xJK ĩ
 ·rename_i c
  show Gn[xJM=b][by injection h][WC=z][by injection h]
  rw [e2] at c;show Ty g[xoc (S:=S) (p:=p) (m:=IV) (n:=Yn) (by show 0<WC;show DE [_,_] xyJ AO zcV c[JQ e2.symm])] l[xvt S p IV Yn];change AJ xJM/\xJM≤Yn/\WC=vY xJM IV at g;change WC≤IV at l;rw [e1,e2] at g;rw [e2] at l;show AH hf zlQ hm[IV≤18/\IV≤xxU p/\(IV=18\/IV=xxU p)] (DU,HN,(P9 18[xxU p]).imp KY Mx) (g.1,JW[Az g] hf.2,JW[Az g] hf.1,c,JW l hm.1,(Hu [_,_,_,_,_][AV[Bu[Il SZ]]][Bu xYq] _z l[Az hm][xLE hp]),λ i hi=>xwQ (m:=IV) i[J6 hi[JQ[Et g]]],UV Ç);have:=xcc (S:=S) (p:=p) (b:=b) (m:=IV) (by rw [<-Et g];lia);rw [<-Et g] at this;show xB4
 ·show yN
def xcv {S:LE}{p s:Nat}(hp:xK0)(h:Zg=xxO):HC S p s:=by
 show xJK ĩ
 ·show yN
 ·show(xWg h,[-h],x35 hp)
universe W16
namespace BP
def val (B:LE):Nat:=xZB a zda 0
def xng (B:LE):∀a,xZB a zda a=a*sW+eM:=by
 induction B with
 |nil=>intro a;simp [val]
 |cons b B ih=>
  intro a;have h0:val[b::B]=b*sW+eM:=EU[xZB a zda[0*256+b]=_] ih OK Lr
  show xZB a zda[a*256+b]=_;rw [ih,h0,Ki,LA,NI,Lh,Lx 256,Lm]
def xz:val []=0:=rfl
def xuv (b:Nat)(B:LE):val[b::B]=b*sW+eM:=EU[xZB a zda[0*256+b]=_] xng OK Lr
def xk2 (A B:LE):val[A++B]=xZ6*sW+eM:=HF[xSj[A++B] a zda 0=_] Nu xng
def xvb (A:LE)(b:Nat):val[A++tG]=xZ6*256+b:=gK[xSj[A++tG] a zda 0=_] Nu
def xzW {B:LE}(h:xS5):eM<sW:=by
 induction B with
 |nil=>simp [val]
 |cons b B ih=>
  show([xuv,Ki,LA],Cc h1[ih[DB[uA Ô]]] h2 xKa[eJ b] h3[b*sW≤255*sW][Qo _[LQ h2]],DE [_,_,_] vO[C7[CA 255]] uj[.w XL 256] h1 h3)
def xu5 (n:Nat):256^n=2^(8*n):=by rw [Nat.pow_mul]
def xqY (n:Nat):0<2^n:=yR
def xin {B:LE}(h:xS5)(n:Nat)(hn:pO n):val x5a=eM/256^(xUM n):=by
 show SB e[eM=val x5a*x18 x45+val x45][by rw [<-xk2,Ky]] hd[val x45<x18 x45][xzW[CG[h b[K8 hb]]]]
 rw [Kc] at e hd;rw [e,Lx,Qv yR,O6 hd,NA]
def xoB {B:LE}(h:xS5){m n:Nat}(hmn:lG m)(hn:pO n):val xKY=eM/256^(xUM n)%256^(n-m):=by
 show(SB e[val x5a=val[(x5a).take m]*x18 xKY+val xKY][by rw [<-xk2,Ky]] hl[BF xKY[n-m]][by rw [Kc,J7,KY hn]],(hd:val xKY<x18 xKY)=xzW[CG[h b[KA[K8 hb]]]])
 rw [hl] at e hd;rw [<-xin h n hn,e,Lx,Nat.mul_add_mod,Mr hd]
def bits_cut {B:LE}(h:xS5){p s:Nat}(hp:p+s≤aJ):
  val[xLV zfE]/2^(8*((p+s+7)/8)-(p+s))%2^s=eM/2^(aJ-(p+s))%2^s:=by
 show(SB zqZ[Fs zbY zp7 n_ ER zj] h2[pO[(p+s+7)/8]][Fs zbY zph n_ hp ER],[xoB h Ç,xu5,xu5],SB ha[8*(p/8)≤p][vX FK FK ER] hb[p+s≤8*((p+s+7)/8)][HJ[jF Δ 7] x8l Δ FG zj],xw0[p/8] a[(p+s+7)/8] b);generalize B.length=n at*;show JK c[M4 h1];clear hp;show(JK y[M4 ha],(x,hx)=M4 hb,JK z[M4 h2],[L6,L6,hx,L6,show 8*c=x+(s+y) by show Cn[dN [_,_,_,_,_][yI[Il SZ]][HY[HV[xRa Dk]]] FK xCx[JQ hx]][dN [_,_,_,_,_][HY[HV[xRa Dk]]][yI[Il SZ]] xCx FK[JQ hx.symm]],show 8*(a+c+z)-(8*a+y+s)=8*z+x by show gH[ET [_,_,_,_,_,_,_][xDO zq6][.a znZ][wy XL][JQ hx][DF [_,_,_,_,_][xCP[wy Dk]][yI Φ][xCP[wy Dk]][yI[uk SZ]] hb]] [_,_,_,_,_,_,_][.a znZ][xDO zq6][wy XL][JQ hx.symm] τ],[ML 2 x,QG,PU,-ML,ML 2 s,Nat.mod_mul_right_mod])
structure BR (N T:Nat)(B:LE)(r k:Nat):Prop where
 tot:T=aJ+k
 num:N=eM*2^k+r
 low:r<2^k
 byt:xS5
def BR.init:BR 0 ż 0 0:=Kd rfl Z9[xGR h h]
def BR.put {N T:Nat}{B:LE}{r k:Nat}(h:BR N T B r k){n s:Nat}(hn:n<2^s):BR[N*2^s+n][T+s] B zjo:=by
 refine(Sc h.tot[Lm _ _ _],à,h.byt)
 ·rw [h.num,ML,NI,Lh,Lm]
 ·show SB h1[r+1≤2^k] h.low h2[(r+1)*2^s≤2^k*2^s][Qo _ h1];rw [NI,Nat.one_mul] at h2;show Sc ML[J6[Nq hn _] h2]
def BR.move {N T:Nat}{B:LE}{r k:Nat}(h:BR N T B r[k+8]):BR N T[B++[r/2^k]][r%2^k] k:=by
 show ω e[Lu r[2^k]] (by show(az h.tot N9,xG[Xe xPT][xDO _Z][xDO _Z][Xe xPT]),?_,xxr[xqY k],uL)
 ·show([h.num,xvb,NI,ML],DA[eM*(2^k*2^8)][eM*256*2^k][by rw [Lx[2^k],<-Lh]],[this,Lm],[Lx[r/2^k],e])
 ·show gU _J
  ·exact h.byt Ì
  ·show([xGa],rO h.low ML[OW this])
structure xzU (N T:Nat)(R:LE):Prop where
 len:xOP[(T+7)/8]
 byt:qB
 num:xJd=N*2^(D1-T)
def BR.row0 {N T:Nat}{B:LE}{r:Nat}(h:BR N T B r 0):xzU N T B:=by
 show(ω h1 h.low[Dt[Bx h.tot[JS[xAI zct[jF[ir FK] 7] x8m n_ zj][xAI zct BV[D8[ir FK] 7] Ę ER]]] h.byt],[h.num,h.tot],DA r 0 xBg)
 clear h h1;show xFX;simp
def BR.row1 {N T:Nat}{B:LE}{r k:Nat}(h:BR N T B r k)(h0:0<k)(h8:k<8):xzU N T[B++[r*2^(8-k)]]:=by
 show x8[by show(az h.tot N9,Cn[Fs zgg[.a Ep[jF[Xe XL] 7]][C7 x8m] _Z h0 zj][Fs zgg[G8 BV][xKW[D8[Xe XL] 7]] ST Tm h8 ER])] uL
 ·show gU _J
  ·exact h.byt Ì
  ·show([xGa],(h2:r*2^(8-k)<2^k*2^(8-k))=xXo[xqY _] h.low);rw [<-ML] at h2;show(DA[k+(8-k)] 8[xZC h8],A3 this zci)
 ·show(SB e[8*CZ B [r*2^(8-k)]-T=8-k][by show(az h.tot N9,gH[zg [_,_,_,_][xKW[A7[Hi XL]]][uk[yI CE]] τ[DF zb0 FE[wy SZ][yI Η] h8]] [_,_,_,_][xDO CE Φ][nA[A7[Hi XL]]] zcI[DF m_ FE SZ FE h8])] e2[256=2^k*2^(8-k)][by
   show([-ML],xD1[k+(8-k)=8][JS[El AO FE Δ FE[DF m_ FE SZ FE h8]][El FE AO FE Δ τ]])],[e,xvb,h.num,NI,Lh,-e2])
def d4:Dn->Ea
 | [],N=>N
 |p::ps,N=>xv[N*2^Bm+Bt]
def É (ps:Dn):Nat:=(ps.map (·.2)).sum
def xzK (a b:Dn)(N:Nat):qj[a++b]=d4 b[qj a]:=by
 induction a generalizing N with
 |nil=>rfl
 |cons p a ih=>show xRN _
def bq (a b:Dn):É[a++b]=É a+É b:=by simp [É,J8,NZ]
def dn (p:Jg)(b:Dn):É[p::b]=Bm+É b:=by simp [É]
def Good (ps:Dn):Prop:=jH ps[Bt<2^Bm]
def num (bs:D7):Nat:=bs.foldl[λ a b=>xyF[2*a]] 0
def xhJ (bs:D7):∀a,bs.foldl[λ a b=>xyF[2*a]] a=a*xW7 2+x9f:=by
 induction bs with
 |nil=>intro a;simp [num]
 |cons b bs ih=>
  intro a;have h0:num[b::bs]=b.toNat*xW7 2+x9f:=EU[bs.foldl[λ a b=>xyF[2*a]][xyF[2*0]]=_] ih QM Lr
  show bs.foldl[λ a b=>xyF[2*a]][xyF[2*a]]=_;rw [ih,h0,Ki,LA,NI,Lx 2 a,Lh a 2,Lx 2[xW7 2],Lm]
def xv1 (a b:D7):num[a++b]=num a*2^b.length+num b:=HF[xSj[a++b] a b[xyF[2*a]] 0=_] Nu xhJ
def num_snoc (a:D7)(b:Bool):num[a++tG]=xyF[2*num a]:=gK[xSj[a++tG] a b[xyF[2*a]] 0=_] Nu
def xws (b:Bool)(bs:D7):num[b::bs]=b.toNat*xW7 2+x9f:=by
 have:=xv1 tG bs;simpa [num] using this
def xzV (bs:D7):x9f<xW7 2:=by
 induction bs with
 |nil=>decide
 |cons b bs ih=>
  rw [xws,Ki,LA];cases b<;>simp<;>omega
def dig (n:Nat):DQ D7
 |0=>[]
 |k+1=>D3[n/2^k%2] 1::xC1 k
def Sj (n k:Nat):BF[xC1 k] k:=by
 induction k with
 |zero=>rfl
 |succ k ih=>show yM[aO[xC1 k] 1=k+1] ih
def xzx (n k:Nat):num[xC1 k]=n%2^k:=by
 induction k with
 |zero=>simp [dig,num,Rw]
 |succ k ih=>
  show num[D3[n/2^k%2] 1::xC1 k]=_;show([xws,Sj,ih,LA,Nat.mod_mul],(h2:n/2^k%2<2)=Jl);by_cases h:n/2^k%2=1
  ·show(V5[JY h] h,Cn[ya Δ AO][ya AO Δ])
  ·show((h0:n/2^k%2=0)=Z4,V5[LL h] h0)
theorem wr:∀{A B:LE},wO A->xEG->A.length=B.length->xZ6=eM->A=B
 | [],[],_,_,_,_=>rfl
 | [],_::_,_,_,h,_=>yN
 |_::_,[],_,_,h,_=>yN
 |a::A,b::B,hA,hB,hl,hv=>by
  have hl':A.length=B.length:=yeJ
  rw [xuv,xuv,hl'] at hv;show(SB h1[xZ6<sW][C8 hl'[xzW[DB[hA x xON]]]] h2[eM<sW][xzW[DB[hB x xON]]],SB p[0<sW] yR e1[a=b][by
   show(SB q1[(a*sW+xZ6)/sW=a][by rw [Lx,Qv p,O6 h1,NA]] q2[(b*sW+eM)/sW=b][by rw [Lx,Qv p,O6 h2,NA]],[-q1,hv,q2])],uK,[wr[DB[hA x xON]][DB[hB x xON]] hl'[Nat.add_left_cancel hv]])
universe BP
namespace W13
def run (a:Nat):qy LE
 | []=>0
 |x::xs=>DM x a[xAV xs+1] 0
theorem xuY (a:Nat):∀L:LE,bB Xa
 | []=>ρ
 |x::xs=>by
  unfold run;have:=xuY ċ
  split<;>simp<;>assumption
theorem xsr {a:Nat}:∀{L:LE} {i:Nat},i<Xa->B8 L a
 | [],i,h=>x9e run
 |x::xs,0,h=>by
  show xJK run
  ·rename_i c;simp [c]
  ·show JE[rK [] Ep Hg h]
 |x::xs,i+1,h=>by
  show xJK run
  ·simpa using xsr (L:=xs) (i:=i) (Nat.succ_lt_succ_iff.mp h)
  ·show JE[rK C4 Iu Hg h]
theorem xsm {a:Nat}:∀{L:LE} {n:Nat},(∀i<n,B8 L a)->n≤Xa
 | [],0,_=>Bz
 | [],n+1,h=>by simpa using h 0[xxA Ep]
 |x::xs,0,_=>Bz
 |x::xs,n+1,h=>by
  show((h0:x=a)=by simpa using h 0[xxA Ep],qC run h0,Jx[xsm (L:=xs) (n:=n) (λ i hi=>by simpa using h[i+1][Nat.add_lt_add_right hi 1])][LY this 1])
def xnv {a:Nat}{L:LE}{n:Nat}(h:∀i<n,B8 L a)(hn:xDQ L[n]? a):Xa=n:=by
 show(iY[xsm h],gJ n Xa zci)
 ·show Dv[xsr h2] hn
 ·exact JS h2 h1
inductive Itm where
 |one (x:Nat)
 |rep (r:Nat)
def Itm.size:qy Itm
 | .one _=>1
 | .rep r=>r
def Itm.cost:qy Itm
 | .one _=>3
 | .rep _=>9
def Itm.next (a:Nat):qy Itm
 | .one x=>x
 | .rep _=>a
def Itm.Ë:Itm->Dn
 | .one x=>[((x,3))]
 | .rep r=>[((7,3)),((r-3,6))]
def _n (L:LE)(p a:Nat):Itm:=if rJ x9U then .rep x9U else .one[xwY p]
def Walk (L:LE):i'[mO->DQ cm]
 |p,a,[],q,b=>p=q/\a=b
 |p,a,x::xs,q,b=>jG p/\x=oy p a/\x9B[p+x.size][x.next a] xs q b
theorem xt9 {L:LE}:∀{P:mO} {p a q b:Nat},xM3 L a P q b->eh->xM3 L a[P++[oy q b]][q+(oy q b).size][(oy q b).next b]
 | [],p,a,q,b,h,hq=>ja h[zP hq rfl]
 |x::P,p,a,q,b,h,hq=>(Gl,xy9,xt9 xDw hq)
def xmt {L:LE}{p a:Nat}(h:jG p):AJ (oy p a).size/\bB[p+(oy p a).size]:=by
 show xNC _n
 ·rename_i c
  show ZE[xuY a kH] Kc;show AJ x9U/\bB[p+x9U];show AX[Wg Ġ zbU c][Hu [_,_,_,_,_][Bu[A7 x8j]][Il Xs] AO zdf HN[xLE h]]
 ·show gY[AJ 1/\bB[p+1]] yjR
theorem xye {L:LE}:∀{P:mO} {p a q b:Nat},xM3 L a P q b->p+P.length≤q
 | [],p,a,q,b,h=>by show xDI h;simp
 |x::P,p,a,q,b,h=>by
  show oO[xye xDw] (xmt (a:=a) Gl).1;rw [<-xy9] at h2;simp;show DE zig Hb Ec XL Ç
def nxtS (a:Nat):qy mO
 | []=>a
 |x::xs=>nxtS[x.next a] xs
def xoF {L:LE}{p a:Nat}(hp:jG p):EG x[oy p a=.one x->xPS p 1=xW1++CI/\B7 p x]/\EG r[oy p a=.rep r->rJ r/\r≤66/\bB[p+r]/\xPS p r=xW1++xxf r]:=by
 show(FR hle[xuY a kH] Kc hle,xNC _n)
 ·rename_i c
  show(EJ[λ x h=>yN][UV r h],xWg h,tB hr[r≤xAV kH][zg zed xGI HN] (le_of_le_of_eq c h,(ET zbh[yy 66][.n 66] xGI DU),Qe[Ks hp][JW hr hle],?_) Q4);congr 1;show(xAa i,[Ob,Oy])
  split
  ·rename_i hi
   exact xsr[J6 hi hr]
  ·rfl
 ·show(EJ[UV x h][λ r h=>yN],xWg h,Bj[B7 p x][by show([-h],x35 hp)],AX[BH Lk e] e)
def TJ (a:Nat):mO->LE
 | []=>[]
 | .one x::P=>x::TJ x P
 | .rep r::P=>xxf r++TJ a P
def StOk:Fy Itm
 | .one x=>x≤6
 | .rep r=>rJ r/\r≤66
theorem xqT {L:LE}:∀{P:mO} {p a q b:Nat},xM3 L a P q b->L.take q=xW1++TJ a P
 | [],p,a,q,b,h=>by show xDI h;simp [TJ]
 |x::P,p,a,q,b,h=>by
  show(x7b hp hw h,Ty ih[xqT hw] ht[xoF (a:=a) hp],[ih]);cases x with
  |one y=>
   show iY (ht.1 y hx.symm).1;show xPS p 1++TJ y P=xW1++y::TJ y P;show Dq h1
  |rep r=>
   show(iY[xWm[ht.2 r hx.symm]],et[xPS p r++TJ a P=xW1++(xxf r++TJ a P)] h1 JT)
theorem xqX {L:LE}(hL:Eg zdh):∀{P:mO} {p a q b:Nat},xM3 L a P q b->lF P[StOk x]
 | [],p,a,q,b,h,x,hx=>x7r
 |y::P,p,a,q,b,h,x,hx=>by
  show yZ zcN
  ·have ht:=xoF (a:=a) Gl;cases x with
   |one y=>exact hL _[Lq (ht.1 y (xy9).symm).2]
   |rep r=>show xDX[ht.2 r (xy9).symm] xXz ygs
  ·exact xqX hL xDw Ô
def Ë (P:mO):Dn:=P.flatMap Itm.Ë
def xkU (P Q:mO):Ë[P++Q]=Ë P++Ë Q:=by simp [Ë]
theorem xpg:∀P:mO,((Ë P).map (·.2)).sum=yff Itm.cost
 | []=>rfl
 | .one x::P=>by
  show EU (((Itm.Ë[.one x]++Ë P).map (·.2)).sum=_) J8 NZ[xpg P];simp [Itm.Ë,Itm.cost]
 | .rep r::P=>by
  show EU (((Itm.Ë[.rep r]++Ë P).map (·.2)).sum=_) J8 NZ[xpg P];simp [Itm.Ë,Itm.cost]
def puts_good {P:mO}(h:lF P[StOk x]):oN[Ë P][Dw<2^IL]:=by
 intro q hq;show(x7b x hq[Q9.mp hq],ok=h Ô);cases x with
 |one y=>
  have:y≤6:=ok;show x6X Itm.Ë;subst hq;show gY[y<2^3][AI this]
 |rep r=>
  obtain⟨h1,h2⟩:rJ r/\r≤66:=ok;show(x6X Itm.Ë,Sx hq)
  ·decide
  ·show r-3<2^6;omega
universe W13
namespace W17
open BP W13
def Ñ (ps:Dn):D7:=ps.flatMap[Ei[dig Dw IL]]
def cS (q:Jg)(ps:Dn):Ñ[q::ps]=dig Dw IL++xBK:=by simp [Ñ]
def xq2 (a b:Dn):Ñ[a++b]=SO a[Ñ b]:=by simp [Ñ]
theorem xrK:∀ps:Dn,BF xBK Jz
 | []=>rfl
 |q::ps=>by rw [cS,JP,Sj,xrK ps,dn]
theorem xmu:∀{ps:Dn},x6Y->∀N,xv N=N*2^Jz+num xBK
 | [],_,N=>by simp [d4,É,Ñ,num]
 |q::ps,h,N=>by
  show ZY h1[Dw<2^IL][eJ q] ih[xmu (ps:=ps) λ z hz=>uA z hz]
  show xv[N*2^IL+Dw]=_;rw [ih,cS,xv1,xrK,xzx,Mr h1,dn,ML,NI,Lh,Lm]
def xiU {ps:Dn}(h:x6Y):num xBK=xv 0:=Dq[xmu h 0]
def rlF:DQ[LE->Dn]
 |0,_=>[]
 |_+1,[]=>[]
 |n+1,a::L=>((a,1+Xa))::yaS
theorem xnp:∀{n m:Nat} {L:LE},jf n->jf m->x5O L=rlF m L
 |0,0,_,_,_=>rfl
 |0,m+1,[],_,_=>rfl
 |0,_+1,_::_,h,_=>Ed
 |n+1,0,[],_,_=>rfl
 |_+1,0,_::_,_,h=>Ed
 |n+1,m+1,[],_,_=>rfl
 |n+1,m+1,a::L,h1,h2=>by
  show(SB UR[jf n] xBg YT[jf m] x4q,yM[((a,1+Xa))::yaS=((a,1+Xa))::rlF m xOj][xnp (n:=n) (m:=m) (Sc Kc[x0H UR])[Bx Kc[zg zdB YT IJ]]])
def rl (L:LE):Dn:=ym3 L
def xcV:rl []=[]:=rfl
def xcu (a:Nat)(L:LE):rl[a::L]=((a,1+Xa))::rl xOj:=gK[((a,1+Xa))::ym3 xOj=_][xnp (n:=L.length) (m:=(xOj).length) (Sc Kc IJ) ρ]
def xbY {T:LE}{b e a:Nat}(hbe:b<e)(heT:xWN e)(YR:∀j,Z2 b->j<e->aA T a)(hend:xDQ T[e]? a):rl[T.drop b]=((a,e-b))::rl[T.drop e]:=by
 show(SB hb[xHM b][J6 hbe heT] e1[T.drop b=a::T.drop[b+1]][by
  show(ZE[YR b ρ hbe][JX hb],[Ll hb,Kr this])],E7[xAV[T.drop[b+1]]=e-(b+1)][by
  refine xnv[UV Ď] ?_
  ·show Sc NE[YR _ Z5[Mn hi]]
  ·show Γ NE[BL ztb[Lj hbe]] hend],[e1,xcu,e2,MC,BL ztb[Lj hbe],show 1+(e-(b+1))=e-b by show Cn[Dd [_,_,_,_][Bu xYm] x8r zB zcI[mn Tm hbe]][Dd [_,_,_,_] xYh[tF xYm] ST zB τ[xLE hbe]]])
def exp (rs:Dn):LE:=rs.flatMap[Ei[x3c Dw]]
theorem xom {a:Nat}:∀L:LE,L=xxf Xa++xOj
 | []=>rfl
 |x::L=>by
  by_cases h:x=a
  ·show(Bj[xAV[x::L]=Xa+1][qC run h],[e,LF,List.drop_succ_cons,NN,-xom L,h])
  ·show(Bj[xAV[x::L]=0][by rw [run,Kh h]],xAm)
theorem xoq:∀{n:Nat} {L:LE},jf n->exp[x5O L]=L
 |0,[],_=>rfl
 |0,_::_,h=>Ed
 |n+1,[],_=>rfl
 |n+1,a::L,h=>by
  have h':jf n:=xBs
  show xxf[1+Xa]++exp yaS=_;rw [xoq[Sc Kc[x0H h']],MM,LF,NN,<-xom]
def xwJ (L:LE):exp[rl L]=L:=xoq ρ
theorem xoS:∀{n:Nat} {L:LE},oN[x5O L][xQA/\bB IL/\Dw∈L]
 |0,_,q,h=>yN
 |n+1,[],q,h=>yN
 |n+1,a::L,q,h=>by
  show(hr=xuY a L,yZ[kZ q[((a,1+Xa))::yaS] h] h)
  ·show Ef[gY[AJ[1+Xa]][KL 1 _]][by show xOr[1+Xa][a::L];show Bx Ki[El n_ zB Η hr]] Kj
  ·show(x7z zbT[xoS q h],A3 Kc h2[xS7[Bx Ki[ET zed Η h2 IJ]][AU[K8 h3]]])
def xsP {L:LE}{q:Jg}(h:q∈rl L):xQA/\bB IL/\Dw∈L:=xoS q h
def xaJ (q:Jg)(b:Dn):exp[q::b]=x3c Dw++exp b:=by simp [exp]
def pR (rs:Dn):Dn:=rs.flatMap[Ei [((IL-1,6)),((Dw,8))]]
def xhH (a b:Dn):pR[a++b]=pR a++pR b:=by simp [pR]
def xwj (q:Jg)(b:Dn):pR[q::b]=((IL-1,6))::((Dw,8))::pR b:=by simp [pR]
def xz1:Bool->LE->Dn
 |false,T=>xNY s ((s,8))
 |true,T=>pR oJ
theorem xpn:∀{rs:Dn},(oN rs xQA)->xOr rs.length x7s
 | [],_=>ρ
 |q::rs,h=>by
  show(Ty h1[eJ q] ih[xpn (rs:=rs) λ z hz=>uA z hz],[xaJ,JP,K2,Ki],x3 [_,_,_] zB Φ Φ h1 ih)
theorem xwi:∀rs:Dn,j7 rs=14*rs.length
 | []=>rfl
 |q::rs=>by rw [xwj,dn,dn,xwi rs,Ki];show 6+(8+14*rs.length)=_;show pI[EM 6[xKW[vR 14]]][xKt 14][xKt 14][EM 6[xKW[vR 14]]]
theorem xzG:∀T:LE,É fE=x7N 8
 | []=>rfl
 |s::T=>by
  show EU[É[((s,8))::fE]=_] dn[xzG T] Ki;show 8+x7N 8=_;show pI[xKW FK] x8A x8A[xKW FK]
def xo5 (u:Bool)(T:LE):É[xz1 u T]≤x7N 14:=by
 cases u with
 |false=>show Bx xzG[Hj FK[vR 14]]
 |true=>
  show(yM[j7 oJ≤_] xwi,rO zmP[W4 this])
def xcl {rs:Dn}(h:oN zpU):Good[pR rs]:=by
 intro z hz;show(xFY ġ hz[Q9.mp hz] h_[h ġ],x7t,Sx hz)
 ·show IL-1<2^6;omega
 ·show Dw<2^8;assumption
def xnS {T:LE}(hT:dU)(hb:E3 T):oN oJ[xQA/\YG IL/\D4 Dw]:=λ q hq=>BI h_[xsP hq] h1[JW h2 hT][xJb h3]
def xoP (u:Bool){T:LE}(hT:dU)(hb:E3 T):Good[xz1 u T]:=by
 cases u with
 |false=>
  intro z hz;show HD s hs rfl[MY.mp hz][hb s hs]
 |true=>exact xcl[xnS hT hb]
universe W17
namespace K26
open PySem L2 QQ W17 W16
seal PE PA PS Ó PT PW PG PI
def top (i:Nat):RM:=PySem.Challenge.pw_balepress_k26_openers_refused.main.body.getD i[.Pass (0,0,0,0)]
abbrev xtr:RM:=top 22
abbrev xrM:RM:=top 23
abbrev xyg:RM:=top 24
abbrev xuc:RM:=top 25
abbrev xzJ:RM:=top 26
abbrev xzM:RM:=top 29
abbrev xzt:RM:=top 30
abbrev xt6:RM:=top 73
abbrev xwE:RM:=top 74
abbrev xp8:RM:=top 75
abbrev xpf:RM:=top 76
abbrev xtx:RM:=top 77
abbrev xv6:RM:=top 82
abbrev xps:RM:=top 83
abbrev xp6:RM:=top 87
abbrev xrD:RM:=top 88
abbrev xwt:RM:=top 89
abbrev xzw:RM:=top 48
abbrev xvx:RM:=top 49
abbrev xuo:RM:=top 50
abbrev xub:RM:=top 51
abbrev xwP:RM:=top 52
abbrev xpA:RM:=top 53
abbrev xnK:RM:=top 55
abbrev xup:RM:=top 56
abbrev xwx:RM:=top 57
abbrev xr8:RM:=top 64
abbrev xwN:RM:=top 65
abbrev xpa:RM:=top 66
abbrev xsh:RM:=top 67
abbrev xpt:RM:=top 68
abbrev xtu:RM:=top 85
abbrev xpY:RM:=top 86
abbrev xpR:RM:=top 90
abbrev xp1:RM:=top 91
abbrev xsO:RM:=qL 32
abbrev xqw:RM:=qK 32
abbrev xvy:RM:=xAz 32
abbrev xsK:RM:=zC 32 3
abbrev xti:RM:=zC 32 4
abbrev á:RM:=qL 58
abbrev xnP:RM:=qK 58
abbrev xsV:RM:=xAz 58
abbrev xnN:RM:=zC 92 3
abbrev xtc:RM:=xAz 96
abbrev xtQ:RM:=qK 96
abbrev lf:RM:=qL 96
abbrev xui:RM:=top 84
abbrev xpp:RM:=qL 93
abbrev xpG:RM:=qK 93
abbrev xpL:RM:=xAz 93
abbrev xpi:RM:=qL 94
abbrev xpD:RM:=qK 94
abbrev xp4:RM:=xAz 94
abbrev xpy:RM:=qL 95
abbrev xpZ:RM:=qK 95
abbrev xrE:RM:=xAz 95
abbrev xnA:RM:=top 97
abbrev xpJ:RM:=top 98
abbrev vN (n:Nat):V:=.int kK
structure Txt (K:Frag)(mg:Τ):Prop where
 isi:Fq "isinstance"
 bool:Fq "bool"
 int:Fq "int"
 list:Fq "list"
 len:Fq "len"
 range:Fq "range"
 max:Fq "max"
 min:yhg
 great:Vy "GREATEST" 255
 most:Vy "MOST_SIZE" 24
 signs:Vy "MOST_SIGNS" 64
 ahead:Vy "MOST_AHEAD" 192
 _O:Vy "FARTHEST" 255
 least:Vy "LEAST_COPIED" 3
 mostC:Vy "MOST_COPIED" 18
 sum:Fq "sum"
 enum:Fq "enumerate"
 sort:Fq "sorted"
 bits:Vy "MOST_BITS" 6
 mlen:Vy "MOST_LENGTH" 12
 things:Vy "MOST_THINGS" 300
 count:Vy "MOST_COUNT" 1000000
 many:Vy "MANY" 272
 again:Vy "AGAIN" 7
 leastA:Vy "LEAST_AGAIN" 3
 mostA:Vy "MOST_AGAIN" 66
 first:Vy "FIRST_COPY" 256
 isnumb:∃(f:RA) (fd:RG),Cb zpi xtr/\mg "is_number"=aM/\Ha Jah
structure xn1 (K:Frag)(mg:Τ)(x:Str)(st:RM)(ps:C6)(f:RA)(fd:RG):Prop where
 F:Cb x x st
 m:cY=aM
 b:eB
structure Me (K:Frag)(C:RA)(x qual:Str)(st:RM)(ps:C6)(f:RA)(fd:RG):Prop where
 F:Cb zb8
 m:xTd x f
 b:eB
def aB {X:Cx}{pos:Pos}(F:xU7 RZ zcK)(hr:pA)(M:xn1 X.K X.mg x zb6)(ha:om)(hg:AM yF)(YY:sV)(he:AM[w8=EX::Uy])(T6:de):fk x p cD[xxE sp t]:=xrR F hr hg M.m M.F.kp M.b _F ha YY he T6
def xyi {X:Cx}{pos:Pos}{pl:xBQ}(he:Y5)(c:Wq)(M:Me z_ m qu zb6)(F:xU7 RZ zcK)(hr:pA)(ha:om)(Uh:AM[w8=EX::Uy])(T6:de)(ht:AM[va xDB=(do
      let ov<-qe
      xAO
      let((f,first))<-xAW zc5
      xES x8B)]):Ax xDB[xT2 [] E0 ta t]:=xzO he c M.m F hr M.b _F ha Uh T6 ht
def cu {X:Cx}{pos:Pos}{pl:xBQ}(he:Y5)(c:Wq)(M:Me z_ m qu zb6)(F:xU7 RZ zcK)(hr:pA)(ht:AM[va xDC=(do
      let ov<-qe
      xAO
      let((f,first))<-xAW zc5
      xES xPh)]):Ax xDC[xT2 [] E0 ta è]:=xtZ he c M.m F hr M.b _F ht
def xqL {X:Cx}{e:RJ}{te:TE}{p pos:Pos}(hm:xNh "len")(he:Lp)(hg:AM[xGA "len"])(h1:AM[sR [e]=EX::sR []]):=xqI (p:=p) (pos:=pos) (he:=h1) xtX hg hm O0[ac (hs:=h1) he xrU]
section
variable (K:Frag)
def xdl:x7Z[xUA xVs[.type "bool"]]:=xVl (x7Z (if(Value.type "int"==Value.type "bool")=true then some true else if kitMeta "bool"=true then(fastBuiltinMro "int").map (·.contains[.type "bool"]) else none))
def xdp:mw[xUA xVs xVs]:=xVl (mw (if(Value.type "int"==Value.type "int")=true then some true else if kitMeta "int"=true then(fastBuiltinMro "int").map (·.contains[.type "int"]) else none))
def xc2:mw[xUA xGh xGh]:=xVl (mw (if(Value.type "list"==Value.type "list")=true then some true else if kitMeta "list"=true then(fastBuiltinMro "list").map (·.contains[.type "list"]) else none))
universe s
def xve:xKV=xSr<->x=y:=by
 constructor
 ·intro h;show(xWg h,Qr.mp h)
 ·show mD;rfl
def xfU {S:LE}(h:pQ i):B8[xFL][vN S[(i)]]:=x91
def xfZ {B:LE}{i:Nat}(h:B8[vU] y):∃b,B8 B b/\y=yP:=by
 show Ir KS;cases e:B[i]? with
 |none=>show yf h h
 |some z=>show xc h[ID z[xHp h]]
def xvD {B:LE}(h:B8 B b):B.take[i+1]=xBH++tG:=BH Lk h
def bQ (h:nP n):sS n:=Ga h
def cz (h:nP n):xUH n:=AI h
inductive xuD (vs:SC) (H:Hp) (Q:VK) (RW:XK):Prop
 |mk (i lo hi:Int) (h0:vs=[HR,.int lo,ybT]) (h1:yO[Fm lo i&&Fm Ď]):xuD Ã
def xcD:XV Jab Jab xrM:=Uf
inductive _g (vs:SC) (H:Hp) (Q:VK) (RW:XK):Prop
 |mk (x:V) (b:Bool) (h0:vs=CI) (h1:(EO i[x=HR]/\WF b)) (h2:xK1):_g Ã
def xc8:XV Jah Jah xtr:=Uf
def xcJ (F:Cb zpi xtr)(T:FW):BY 0 Jah _g:=by
 show(fH[F.ok0 xc8 λ RO A outer s H vs Q E h=>?_] _,ze x b hw k,CY[xDE[yhp L7[AL 0[xKB[.ty "int"] T.int PyProof.Rows.boot_int rfl]]][xdS[yhp L7[AL 0[xKB[.ty "bool"] T.bool PyProof.Rows.boot_bool rfl]]]]],((i,rfl),rfl)=hw,EC (Á,vbm,.int _,xdp K,Á,VU) (Á,vbm,.int _,xdl K,Á,k))
def xuq (F:Ρ ziV Jab)(T:FW):f7 zeQ:=by
 show((fN,fdN,NF,Nm,Nb)=T.isnumb,BA xcD[λ RO A outer s H vs Q E hr h=>?_],(i,lo,hi,rfl,k)=h,DR[xDE[gz[xcJ NF T] Nm NF.kp Nb bo vk][xmD xvz xvz χ AB Ε]][cF ĝ true[dJ[dJ i]] È VU],Υ (Ï,vcf) Hd)
 ·show(xEo,vH h1 Bool.true_and k k)
 ·show((h2:A2[Fm lo i])=xBg,vH h2 Rr k k)
inductive xjW (vs:SC) (H:Hp) (Q:VK) (RW:XK):Prop
 |mk (a:RA) (B:LE) (lo hi:Int) (h0:vs=[Aj,.int lo,ybT]) (h1:Α=ve) (h2:xAw[lo≤qI/\qI≤hi]) (h3:x7m):xjW Ã
def xjS:XV ["thing","least","most","number"] Jab xyg:=Uf
def xpx (F:Ρ "are_whole" zdn)(W:xRc)(T:FW):xKZ Jab xjW:=by
 show(SL GW[kI zcj zeQ][xuq W T][F.F.ok xjS λ RO A outer s H vs Q E hr h=>?_],Lv,Hv a B ú rfl hB hb k,ZH[xHm[yhp L7[AL 0[xKB x4v T.list Ly rfl]]] ZD[ad[vn AB 3 xjS.nd[ig[iq[Je GW W 3[jZ 1 2]]] ZD]]
  ZD]] (Á,vbm,.lst hB,xc2 K,Á,Br)[gX a hB[mr K a vU[λ i σ H2=>∃v,σ=[Cs,xBB lo,xBB hi,v]/\H2=H] yaa[λ i σ H2 _ z9=>by show xMb e;exact Vz xWQ] Î]])
 ·rintro i y σ H2 hi ⟨v,rfl,rfl⟩;show(Mk b SH hi,pd zbT[qW x7O] (ô,_,_,Ï,?_),Γ[JY h2][JY h3][xIC rfl])
 ·show(xHi ë v rfl,k)
inductive Œ (vs:SC) (H:Hp) (Q:VK) (RW:XK):Prop
 |mk (a:RA) (B:LE) (h0:vs=Dl) (h1:Α=ve) (h2:xEG) (h3:x7m):Œ Ã
def xbx:XV Jah Jah xuc:=Uf
structure Rows (K:Frag)(mg:Τ):Prop where
 X:FW
 whole:x1U
 arewhole:yfP zdn
 isrow:Ι zfT Jah
def xii (F:Ρ zfT Jah)(Y:WZ):BY 3 Jah Œ:=by
 show(yko T W Y,xxp tg hg T.great xbx[λ RO A outer s H vs Q E hr h=>?_],IG a B rfl hB hb k,xLz[Je[xpx AW W T] AW 0[WX[Ft 255 hg tg]]] (_t,B,0,255,vbz,λ b z=>xDX[qW z] xK4[IE[iO C4 HW xxX this]],k))
inductive ā (vs:SC) (H:Hp) (Q:VK) (RW:XK):Prop
 |mk (a:RA) (B:LE) (h0:vs=Dl) (h1:Α=ve) (h2:xEG) (h3:∀l,DP->qM[o5 vU]):ā Ã
def xhX:XV Jah Jah xzJ:=Uf
def xu0 (F:Ρ "need_row" zdS)(Y:WZ):BY 4 zjh:=by
 show((fR,fdR,R)=Y.isrow,lX Y.X,BA xhX[λ RO A outer s H vs Q E hr h=>?_],IG a B rfl hB hb k,DR[xTe[jO[xii R Y] R 0][Cj[x6J xvH Ly vk]]] (_t,B,vbp,Á,Br),Hn a[BZ hB] k)
inductive ó (vs:SC) (H:Hp) (Q:VK) (RW:XK):Prop
 |mk (s:Nat) (h0:vs=xED) (h1:s≤24) (h2:xEE):ó Ã
def xhf:XV Jal Jal xzM:=Uf
def xk9 (F:Ρ "need_size" zdU)(W:xRc)(T:FW):xKZ zi0:=by
 show((GW:kI zcj zeQ)=xuq W T,xxp tg hg T.most xhf[λ RO A outer s H vs Q E hr h=>?_],xxv z rfl hz k,DR[ig[iq[Je GW W 0[WX[Ft 24 hg tg]]]] pX][qr zc3 x_],HI[JL[Fm IF[Ψ z]&&Fm[Ψ z] 24]][BH xIK[JY[by exact yjS rfl hz]]],xFk[bD k])
inductive _i (vs:SC) (H:Hp) (Q:VK) (RW:XK):Prop
 |mk (s:Nat) (h0:vs=xED) (h1:Hc s) (h2:zw[2^s-1]):_i Ã
def xcW:XV Jal Jal xzt:=Uf
def xtp (F:Ρ ze7):f7 zf6:=by
 show(BA xcW[λ RO A outer s H vs Q E hr h=>?_],xxv z rfl hz k,kL[uW[xDk AB]] (Ø,xIx[IE[Z1 D5 BB hz]] Z9,ø),HI[Ih*2^iE z-1=Tl[2^z-1]][by
  have:=BP.xqY z;show([KG,Rx],BU e2[Tl[2^z]=Ψ 2^z] Z6[mE this])])
 try dsimp only
 show xFk k
def xf0 (a b k)(h:b<2^k):(a*2^k)&&& b=0:=by
 show(Gn[b&&& (2^k-1)=b][by rw [Ox,Mr h]][(a*2^k)&&& (2^k-1)=0][by rw [Ox,Nat.mul_mod_left]],(e3:(a*2^k)&&& (b&&& (2^k-1))=((a*2^k)&&& (2^k-1))&&& b)=by rw [Nat.and_comm b,Nat.and_assoc])
 rw [e1,e2,Nat.zero_and] at e3;exact e3
def xp2 (k):Tl[2^k]=Ψ 2^k:=Z6
def xsu (a b k:Nat)(h:b<2^k):Builtin.bitOr[Ψ a*2^iE k] Wd=Tl[a*2^k+b]:=by
 show((e0:Ψ a*2^iE k=Tl[a*2^k])=by rw [KG,Int.natCast_mul,xp2],[e0,PyProof.Rows.bitOr_and,PX[K5[_*2^_]] wM,KG,KG,xf0 a b k h],NJ[(λ {a b}=>Int.neg_inj.mp) rfl])
def xt5 (x k:Nat):Builtin.bitAnd[Ψ x][Tl[2^k-1]]=Tl[x%2^k]:=by
 rw [PX wM Z5,KG,KG,Ox]
def xwl (x k:Nat):Ψ x/2^iE k=Tl[x/2^k]:=xYR KG xp2
def xz9 (x k:Nat):Ψ x*2^iE k=Tl[x*2^k]:=by
 rw [KG,Int.natCast_mul,xp2]
def xbS {B:LE}(hm:lG m)(hn:pO n):tI vU X9 By=AY xKY:=by
 show(xG9,[HT.SY,HT.SY,JO,KY hn,KY[JW hm hn],ME,MF,List.drop_take])
inductive xrt (vs:SC) (H:Hp) (Q:VK) (RW:XK):Prop
 |mk (a:RA) (B:LE) (p s:Nat) (h0:vs=[Aj,xEr,Jn]) (h1:Α=ve) (h2:xEG) (h3:p+s≤aJ) (h4:s≤24) (h5:Ja[WD[ygi/2^(aJ-(p+s))%2^s]]):xrt Ã
def xnZ:¬(Vs="rest"):=Z8
def xmK:¬(yhe Vs):=Z8
def xsB:¬(yhe xWF):=Z8
def fW (d:RA) (r k:Nat):yn:=[(("whole_bytes",xOD)),Yi zeM,x4K xDU]
def xjL (d):ykT xxa[Þ "rest" xxa[ycU d []]]=Tr 0 0:=by
 show(ykT xxa[DM zgi zo6])=_;show(E1 x9g[(DM ziX _[xE1::yfV "rest"[((xWF,xGy)):: [x4K xGy]]])=_],BH zjS)
def xoH (d)(r k r'):vK "rest" r' Fg=Tr r' k:=HF[(DM zgi _[xE1::(DM[Iw "rest"] "rest"[Yi xWF r':: [x4K xDU]] _)])=_] x9g Cm
def xoi (d)(r k k'):vK "rest_size" k' Fg=Tr r k':=by
 show(DM ziX _[xE1::yfV "rest"[Yi xWF r::(DM[Iw "rest_size"] "rest_size" [Yi[Iw "rest_size"] k'] _)]])=_;show Jm zjS Cm
def xvw (d)(r k):Fg=vK "rest_size" k[vK zeM[ycU d []]]:=by
 show(Θ h[xjL d] h2[vK zeM[ycU d []]=[xE1,Yi zeM]][yM[(DM zgi _[xE1:: [Yi zeM]])=_] x9g],E1 h2[_=(DM ziX _[xE1::yfV "rest"[Yi xWF r:: [x4K xDU]]])],BH zjS)
def xpB (d)(r k):(Fg).lookup Vs=ES:=by
 rw [xvw,ay,xJe,ay,x9g,ay,Cm]
def xwz (d)(r k):S9 Fg "rest"[vN r]:=by
 rw [xvw,ay,Kh xsB,ay,Cm]
def xfW (d)(r k):S9 Fg "rest_size" xDU:=by
 rw [xvw,ay,Cm]
def xfV (d)(r k){m:Str}(h1:o1[yhe m])(h2:o1[m="rest"])(h3:o1[m="whole_bytes"]):eN Fg m:=by
 rw [xvw,ay,xyG,ay,xyH,ay,Kh h3];rfl
def xwM (d)(r k):xNz Fg:=xBt 3
def xs3 (C:RA)(H:Hp)(p d:RA)(N T:Nat):Prop:=∃dx B r k,Xb Fg/\H d=ve/\BP.BR N T B r k/\k<8
structure xuO (K:Frag)(mg:Τ)(C:RA):Prop where
 cl:X5
 nW:gM "whole_bytes"
 nR:gM "rest"
 nS:gM "rest_size"
inductive Ŋ (C:RA) (vs:SC) (H:Hp) (Q:VK) (RW:XK):Prop
 |mk (p dx:RA) (h0:vs=Cw) (h1:xQS) (h2:∀(d:RA) (H':Hp),Bf d->Vn C 0 0->rj zcn):Ŋ ä
def xb4:jB xsO:=Uf
def xmL (F:yls xsO)(T:xT9):Zr[Ŋ C]:=by
 show(DW xb4[λ RO A outer s H vs Q E hr h=>?_],ze p zce k,DR[bO yw[xDJ aj aj]][uY Bz d hd],xa V9[p≠d][xOn hd] (va3,vbn,(Κ V9 hp),_s,xFC,vbN,T.cl,T.nR,vbx) (vbN,va5,à))
 ·show xNz[DM zgi zo6]
  try dsimp only
  show(wG xnZ,xBt 2)
 show(Fl d hd (dx,[],0,0,Ry ae[x5o zj3[xjL d]],zm iz iz iz ae,BP.BR.init,Z9) λ b o e hb=>?_,[Yj,Yj,Yj,uS hd],xDY)
inductive spMove (C:RA) (vs:SC) (H:Hp) (Q:VK) (RW:XK):Prop
 |mk (p d dx:RA) (B:LE) (r k:Nat) (h0:vs=Cw) (h1:Xb[Tr r[k+8]]) (h2:H d=ve) (h3:xGz) (h4:dI k) (h5:ZX[eC xEx[Tr[r%2^k] k]][H' d=xf B [r/2^k]->o8[Μ=LT->A9->EY->Bo=LT]]):yfE Ã
def xc5:jB xvy:=Uf
def xb6 (F:Cb zhk xvy)(O:x1E)(T:xT9):pS 2 yfE:=by
 show(SL GO zhp[F.ok xc5 λ RO A outer s H vs Q E hr h=>?_],Lv,(p,d,dx,B,r,k,_R,hd,hB,hk,q)=h,rU V9[p≠d][xZ7 ziW][bO[uW B4][Iz[xHk B4[B9[x0u B4 B4]]][xBC[ap xzr B4[fZ GO O B4]]]]],SL e1[Ψ[rV[k+8]]-8=zv][Int.sub_eq_iff_eq_add.mpr rfl] (Ě,T.nS,xFd,Å,p_,va4,T.nS,vcL))
 try dsimp only
 show(xJ3 xoi,SB SI[eC[(ZW H Fg) p] Fg] ae hd1[(ZW H Fg) d=ve][Κ V9.symm hd],xJL (vbL,_s,xpB _ _ _,Zy hd1,?_) (vbL,T.cl,vcG,vbL,vbV,Å,xK4,?_)[JG d ă hd1[xmx[Ex hB]] ?_])
 try dsimp only
 rw [xwl];generalize hH2:EN[ZW H Fg] d[vU++[vN[r/2^k]]]=H2;show(SB Sw[eC[H2 p] Fg][xCl hH2[ak V9] SI] hd2[H2 d=xf B [r/2^k]][by rw [<-hH2,ae,J8];rfl],SL U6[∀c o,Μ=LT->A9->EY->Zt=LT][λ c o e n1 n2=>by show([-hH2,ak n2,ak n1],xDY)] (vce,T.cl,vcG,vce,vbV,k,rfl,Ga hk,ø))
 try dsimp only
 show Ζ xt5 (p_,Sw,T.cl,T.nR,vcL)
 try dsimp only
 show(Ζ xoH[q _ ae[Κ V9.symm hd2] λ c o e n1 n2=>?_],Κ n1[U6 c o e ï])
inductive spPut (C:RA) (vs:SC) (H:Hp) (Q:VK) (RW:XK):Prop
 |mk (p d:RA) (N T n s:Nat) (h0:vs=[Dc,FY,Jn]) (h1:xUh) (h2:T≤4000) (h3:s≤24) (h4:n<2^s) (h5:ZX[Vn C[N*2^s+n][T+s]][o8[Μ=LT->A9->EY->Bo=LT]]):spPut ä
def xeE:XV x5b x5b xqw:=Uf
inductive E_ (C:RA) (H:Hp) (p:RA) (d:RA) (N:Nat) (T':Nat) (n:Nat) (s:Nat) (dx:RA) (m:Nat) (σ:St) (H2:Hp):Prop
 |mk (h0:σ=[Bh,Xt,xSs]) (B2:LE) (r2:Nat) (h1:eC[H2 p][Tr r2 m]) (h2:H2 d=Ak[B2.map vN]) (h3:BP.BR[N*2^s+n][T'+s] B2 r2 m) (h4:m≤40) (h5:(∀c o,Μ=LT->A9->EY->Zt=LT)):E_ C H p d N T' n s dx m ë
def xgw (F:Cb zrL xqw)(S:ylP zdU fS fdS)(W:x4U fW' XX)
  (O:x1E) (M:Me K C zhk xvy Jaa fM fdM) (T:xT9) (X:FW):BY 3 x5b[spPut C]:=by
 show(SB GO zhp GW[kI fW' XX zeQ][xuq W X],AH GS zmM GM[Y7 2 fM fdM Jaa yfE][xb6 M.F O T][F.ok xeE λ RO A outer st H vs Q E hr h=>?_],Lv,(p,d,N,T',n,s,vc5,hT,hs,hn,q)=h,Df V9 p zps _X,DR[Iz[jO GS S 2][xTe[IX GW Si W 1[WX[wZ GO O 2]]][bO[ap xnC[x0N B4 Ε] χ][bO[Ee B4 Ε][ag[xHq[Bv xuS B4 aj][qh[xZc AB M GM hr]]]]]]]][Zv s hs ?_],CJ (Ï,u_,(Z1 xCu D5 hs),_,_,Ï,?_) e1[JL[Fm IF By&&Fm By[Tl[2^s-1]]]][BH[JY wM] xIK])
 try dsimp only
 show(xFl Br,SL hr128 zl6 (Ě,vcG,Ø,xIx[IE[Z1 xCu BB hs]] Z4,e_))
 try dsimp only
 show Ζ[xsu r n s hn] (p_,va4,T.nR,vcL)
 try dsimp only
 show([xoH],SL SI[∀o,(vD p o) p=LT][λ _=>ae] (vbh,SI _,vbV,Ø,p_,SI _,va5,vcL),E7[zv+Ψ s=Tl[k+s]][xKs])
 try dsimp only
 show([e2,xoi],br1=br.put hn);generalize hH1:ZW[ZW H[Tr[r*2^s+n] k]][Tr zjo]=H1;show(SB hpA[eC[H1 p][Tr zjo]][C8 hH1 ae] hdA[H1 d=ve][by show([-hH1,iz,iz],hd)],SL U6[∀c o,Μ=LT->A9->EY->xKq=LT][λ c o e n1 _=>by show([-hH1,ak n1,ak n1],xDY)][Dt[E_ C H p d N T' n s dx] (k+s,rfl,B,_,hpA,hdA,br1,(Dd [_,_] x70[nA xCu] Δ xHV hs hk8),U6)])
 rintro m σ H2 ⟨rfl,B2,r2,Sw,hd2,br2,hm,oth2⟩;show Υ (vce,vbV,vcf) Hd
 ·show((h8:8≤m)=by have:=xBL;show Gm FE FE[ycw this],B5 m' m'[m=m'+8] (m-8,qQ[lu [_,_] xPT xPT τ] xPT xPT[YF C4 FE FE h8]),SL hBl[Hc B2.length][xMO br2.tot] (_,λ σ' H' h=>h,vbo,oQ,p,d,dx,B2,r2,m',rfl,Sw,hd2,hBl,(px C4[rM 8] xHV FZ hm),λ H3 SW hd3 oth3=>?_),(m',(Hj Tm[rM 8]),rfl,_,_,SW,hd3,br2.move,(px C4[rM 8] xHV xHV hm),λ c o e n1 n2=>oth3 c o[oth2 c o e ï] ï))
 ·show BU h8[m<8][by
   have UR:Fm xD X9≠true:=h1;by_cases h:xD≤X9
   ·show Yl h UR
   ·lia][q H2 (dx,B2,r2,m,Sw,hd2,br2,h8) oth2]
inductive _b (C:RA) (vs:SC) (H:Hp) (Q:VK) (RW:XK):Prop
 |mk (p d:RA) (N T:Nat) (h0:vs=Cw) (h1:xUh) (h2:zw T):_b ä
def xdu:jB xsK:=Uf
def xbN (F:Cb zqF xsK)(T:xT9)(X:FW):Zr[_b C]:=by
 show(DW xdu[λ RO A outer st H vs Q E hr h=>?_],(p,d,N,T',vc5,q)=h,kL[Ee[wx x74] B4] (vcZ,xpB _ _ _,vbs,BZ hd,Å,xEa,?_),CJ (Ě,T.nS,xFd,ø) e[xD*BN vU+zv=Ψ T'][by show(Fn br.tot,ua[ya x8E x8E][ya x8E x8E])])
 try dsimp only
 show Vz q
inductive xlr (C:RA) (vs:SC) (H:Hp) (Q:VK) (RW:XK):Prop
 |mk (p d:RA) (N T:Nat) (h0:vs=Cw) (h1:xUh) (h2:T≤4000) (h3:bL l RA R LE Hp[DP->B1=ur->BP.xzU N T R->AA->BD]):xlr ä
def xld:xAT[k7 "told"] xti:=Uf
def xg1 (F:Cb zrM xti)(T:xT9)(X:FW):Zr[xlr C]:=by
 show(DW xld[λ RO A outer st H vs Q E hr h=>?_],(p,d,N,T',vc5,hT,q)=h,DR[gO xld.nd[xRf xOC][vB cZ B4 aj[xJ5 χ[x0N B4[yQ aj B4]]] xOy]] (vcZ,xpB _ _ _,vbs,BZ hd,UV l hl),Df npl p l[xOn hl] SI[eC[(o5 vU) p] Fg][Κ npl hp],Υ (vbL,vbV,vcf) Hd)
 ·show(SB h0[0<k][by have:=xBL;show Gm Ep Ep Ua] hr128 zl6,AH hBl xGz[xMO br.tot] e1[xD-zv=Tl[8-k]][mE[Ks hk8]] (Á,Zy ae,vbL,T.cl,vcG,vbL,vbV,ø))
  try dsimp only
  show xFl (Å,xIx[IE[Z1 FE BB IJ]] Z4,vbd,ae,xmx[Ex hBl],r_)
  try dsimp only
  show(Ζ xz9[q l[B++[r*2^(8-k)]] _ hl Zn[br.row1 h0 hk8][HL b o]],Γ[uS hl][uS hl] e)
 ·have h0:k=0:=by
   have UR:vo IF zv≠true:=h1;by_cases h:IF<zv
   ·show Yl h UR
   ·lia
  clear hp hk8 SI h1;subst h0;show(DR rfl[q l B _ hl ae br.row0[HL b o]],yY hl e)
def xrg:¬(ye3="taken"):=Z8
def fR (d:RA) (t:Nat):yn:=[(("held",xOD)),Yi "taken" t]
def xvn (d)(t):vK "taken" t[kO "held" d []]=TZ:=gK[AQ "held" "taken"[Yd ye3 d:: [Yi "taken" t]]=_][Kh xrg]
def xdv (d)(t t'):vK "taken" t' TZ=fR d t':=HF[AQ "held" "taken"[Yd ye3 d::(DM[Iw "taken"] "taken" [Yi[Iw "taken"] t'] _)]=_][Kh xrg] Cm
def xo9 (d)(t):Vq TZ "held"=ES:=by
 rw [<-xvn,ay,Kh xrg,ay,Cm]
def xut (d)(t):S9 TZ "taken"[vN t]:=xIp xvn ay
def xfS (d)(t){m:Str}(h1:o1[m="taken"])(h2:o1[m="held"]):eN TZ m:=by
 rw [<-xvn,ay,xyG,ay,xyH];rfl
def xdr (d)(t):xNz TZ:=xBt 2
universe K26
namespace K26
open PySem L2 QQ W17 W16 BP
seal PE PA PS Ó PT PW PG PI
def xvc (H:Hp)(x:V)(W:LE):Prop:=(xAr x/\W=[])\/∃a,x=Aj/\Α=cj
def xvc.same {H H':Hp}{x:V}(h:oP)(s:AA):xvc H' x W:=by
 rcases h with h|⟨a,e,h⟩
 ·show DD h
 ·show Dr (a,e,FV h)
inductive XZ (H:Hp):dS Ξ Dn
 |nil:XZ H i_
 |cons {t:RA} {q:Jg} {ts:Ξ} {ps:Dn}:rk [vN Dw,vN IL]->xTD->XZ H[t::ts][q::ps]
def XZ.keep (h:xTD)(s:∀c xs,aZ Μ->aZ Bo):XZ H' ts ps:=by
 induction h with
 |nil=>show zG
 |cons a _ ih=>show xj[FV a]
def XZ.mono (h:xTD)(s:AA):XZ H' ts ps:=h.keep λ c xs e=>FV e
def XZ.app (h:xTD)(g:XZ H us qs):XZ H[ts++us][ps++qs]:=by
 induction h with
 |nil=>exact g
 |cons a _ ih=>show xj a
def XZ.len (h:xTD):xF2 ts.length:=by
 induction h with
 |nil=>rfl
 |cons a _ ih=>rw [Ki,Ki,ih]
theorem XZ.at (h:xTD):∀{i:Nat} {t},B8 ts t->∃q,B8 ps q/\rk [vN Dw,vN IL]:=by
 induction h with
 |nil=>intro i t h;show Ed
 |cons a _ ih=>
  intro i t h;cases i with
  |zero=>show(Ed,FU h[AK a])
  |succ i=>show(Ed,xRN h)
def xwn {ts:Ξ}{i:Nat}(h:B8[cq] y):JM[B8 ts t/\y=yd]:=by
 show Ir KS;cases e:ts[i]? with
 |none=>show yf h h
 |some z=>show xc h[ID z[xHp h]]
def xuW {α:Type}{B:FO}{b:α}(h:B8 B b):B.take[i+1]=xBH++tG:=BH Lk h
def xs3.keep (h:xUh)(s:∀c o,Μ=LT->(c=p\/c=d)->Bo=LT):Vn C N T:=by
 show(ye dx B r k h_,(dx,B,r,k,FV h1 rh,FV h2 xWy,h3))
def xs3.sm (h:xUh):EO o[H p=LT]/\∃o,H d=LT:=by
 show(vfh,π,AX[PL h1][PL h2])
def xs3.ob (h:xUh):∃dx r k,Xb Fg:=by
 show(vfh,π,Iv dx r k h1)
def xrN {H:Hp}(h:∃o,Α=LT)(n:Ic):a≠b:=TD[by
 show(xBm o h,Ek n h h)]
structure Bts (K:Frag)(mg:Τ)(C:RA):Prop where
 R:WZ
 T:xT9
 m:mg "BitRow"=Ff
 needsize:yfO zdU
 ones:Ι ze7
 init:Ij[yls xsO/\xPd/\TY]
 put:aW C zrL xqw x5b
 move:gP zhk xvy
 many:gP zqF xsK
 row:gP zrM xti
structure FnD (K:Frag)(mg:Τ)(x:Str)(st:RM)(ps:C6)(f:RA)(fd:RG):Prop where
 F:∃dV,xFA x x Ò
 m:cY=aM
 b:eB
 d:xNV xXA
theorem FnD.kp (F:xZq x zb6):X4:=F.F.elim λ _ z=>z.kp
def _P:Pc->SC
 | .sg s=>[yfQ,Jn]
 | .cp b z=>[xBF,yP,vN z]
def PT' (H:Hp)(ts:Ξ)(P:yW):Prop:=ts.length=P.length/\∀(i:Nat) a x,B8 ts a->V7 P->Hl Α[_P x]
def xeO (H:Hp)(l:RA)(P:yW):Prop:=∃ts,Vw=xDb/\xIL H P
def PT'.keep (h:xIL H P)(k:∀a xs,aZ Α->aZ[H' a]):xIL H' P:=(Gl,λ i a x h1 h2=>Yq[o4 i a x Ç])
def PT'.snoc {P:yW}(h:xIL H P){t:RA}{x:Pc}(e:rk[_P x]):PT' H[ts++[t]][P++CI]:=by
 show(EJ[by simp [Gl]][λ i a y h1 h2=>?_],xDR List.getElem?_append h1);rw [<-Gl] at h2
 split at h1
 ·rename_i c
  show A3[Kq c] h2[o4 i a y Ç]
 ·rename_i c
  show(wL[Kh c] h2 e0[i-ts.length=0][by
   have:=yaz;show xVd this],xDR e0 h1,uP,EL h2 e)
def xsG:ykM "copy"≠ykM "sign":=Bp[V.str.inj h] Z8
def æ (B:LE) (b:Nat):DQ LE
 |0=>B
 |n+1=>xRD++[yU xRD[xWH B n-b]]
theorem xzL (B)(b):∀n,BF xRD[xB6 n]
 |0=>rfl
 |n+1=>by
  show az æ[xzL B b n];simp;show xG uj Ec Ec uj
theorem xmB {S:LE}(SH:G5)(hb:b≤p)(hz:Yc[p+z])(h:∀i<z,S[p+i]?=S[p+i-b]?):∀n,n≤z->æ xGW b n=S.take[p+n]
 |0,_=>rfl
 |n+1,hn=>by
  show((hl:BF[S.take[p+n]][p+n])=sr J7,[æ,xmB SH hb hz h n[Mz hn],hl],ql[pQ[p+n]][J6[Nq hn _] hz],[show p+(n+1)=p+n+1 by show xG Ec uj uj Ec,Lk,JX h1]);congr 1;show(FR h2[h n jc][JX h1] h2,[Kb,Ob,Kq Z5,-h2]);rfl
inductive xkF (vs:SC) (H:Hp) (Q:VK) (RW:XK):Prop
 |mk (x:V) (m:Nat) (W:LE) (h0:vs=[x,o7]) (h1:oP) (h2:xK2) (h3:ybe m) (h4:qY[DP->B1=cj->BD]):xkF Ã
def xly:XV ["before","most","window"] xGm xt6:=Uf
def xnu {P:RE}(F:Ρ zih xGm)(N:x1C)(Y:WZ):xSz xGm xkF:=by
 show(lX Y.X,BA xly[λ RO A outer s H vs Q E hr h=>?_],Hv x m W zcu ã k,CY[vB gq AB dj[Cj yw][qg xly.nd[jO[xSk Y] N 0][fh cZ x8c χ xH3]]])
 rcases hx with⟨rfl,rfl⟩|⟨b,rfl,hB⟩
 ·exact Tf[λ _=>IQ Z9 l nl[YH gw nl ae]][Bp F8 h]
 ·show xJL[Tf[Bp Jq B0] pz][xW b W hB hb[UV l hn]] (vbl,BZ ae,_V,xIF pz)
  ·show rO Jq JO (aX zcq AO hl Ua).elim
  ·show xR0[YH[am hn] hn ae]
inductive xki (vs:SC) (H:Hp) (Q:VK) (RW:XK):Prop
 |mk (x:V) (W:LE) (h0:vs=CI) (h1:oP) (h2:xK2) (h3:V0) (h4:qY[DP->B1=cj->BD]):xki Ã
def xgV:XV j6 j6 xv6:=Uf
def xkW {P:RE}{f fW fN:RA}{fd XX fdN:RG}(F:Ρ zfB j6)(Wi:ykU xt6 xGm zcj)(N:x1C)(Y:WZ):BY 6 j6 xki:=by
 show(xxp tg hg Y.X.ahead xgV[λ RO A outer s H vs Q E hr h=>?_],ye x W zcu ã k,xLz[Je[xnu Wi N Y] Wi 0[B9[Ft 192 hg tg]]] (ć,192,W,rfl,hx,õ,k))
inductive xkR (vs:SC) (H:Hp) (Q:VK) (RW:XK):Prop
 |mk (a:RA) (x:V) (T W:LE) (h0:vs=sZ x) (h1:Α=DO) (h2:wO T) (h3:xxt) (h4:dU) (h5:oP) (h6:xK2) (h7:V0) (h8:qY[DP->B1=DO->BD]):xkR Ã
def xkg:XV ["text","before","signs"] Jae xps:=Uf
def xrJ {P:RE}{f fA fW fN:RA}{fd fdA XX fdN:RG}(F:Ρ ztd Jae)(Ah:FL zfB j6 zea)(Wi:ykU xt6 xGm zcj)(N:x1C)(Y:WZ):BY 7 Jae xkR:=by
 show(lX Y.X,xxp tg hg T.signs xkg[λ RO A outer s H vs Q E hr h=>?_],(a,x,S,vbv,hSb,h1,Sl,hx,õ,k)=h,aR WO 4,Av[qg xkg.nd[zS[xSk Y] WO N 0][vh[kW x8c][Bv cZ x8c[Ft 64 hg tg]] pX[Iz[jO[xkW Ah Wi N Y] Ah 1] xH3]]][xW a S ha hSb[bf l nl]],zf s0[xCq xFL] XH[(o5 xFL) l=ud][o5 xFL] H1,Ai g1 (vbl,BZ XH,Ŵ,xIF pz))
 ·show(xOJ,yen this,xLM JO (aX C4 zB xIR h1[JQ[xxd this]]).elim)
 refine(vbl,BZ XH,Ć,xXK Al)
 ·show rO Jq JO (aX C4[A7[Ar bP]][Xj 64] Sl Ua).elim
 show(x4,EC[UZ[cF È x W yeK ã[λ l2 H2 s2 n2 Yx=>Al]]][AK[yg H2[s0.trans s2] nl x79]])
inductive ň (vs:SC) (H:Hp) (Q:VK) (RW:XK):Prop
 |mk (a:RA) (S:LE) (p b m:Nat) (h0:vs=[Aj,xEr,yP,o7]) (h1:Α=ud) (h2:b≤p) (h3:Yc[p+m]) (h4:zw xI):ň Ã
def xqM:XV ["signs","place","back","most","size"] xXB xwE:=Uf
def xaM (F:Ρ zio xXB):f7 xXB ň:=by
 show(BA xqM[λ RO A outer st H vs Q E hr h=>?_],(a,S,p,b,m,rfl,hS,hb,hm,k)=h,xCc[Em 4 xqM.nd aj[xHq[PW.pt[xq9[Bv dX AS Ab][xqC[Bv zj4[Hh[yQ xYH Ε]]]]]][qP 4 xqM.nd xYz]] AS],YM,Ai g1[Dt[λ n σ H2=>∃i,n=m-i/\σ=[Cs,mi,YI,xKU,Ν i]/\H2=H/\i≤m/\∀j<i,S[p+j]?=S[p+j-b]?][rE m 0 Ð zp8]])
 rintro n σ H2 ⟨i,rfl,rfl,rfl,hi,Ss⟩;refine(Ï,Ć,Hd)
 ·show(SB h2 zoU e1 zte,SB e2[wV i-qI=Tl[p+i-b]][mE[LU hb]] l1[pQ[p+i]][Dd [_,_,_,_][xS3 qZ] Hb uj XL hm h2],SL l2[pQ[p+i-b]][Mj l1] (Ï,e_))
  try dsimp only
  show(CS,Υ zkQ)
  try dsimp only
  show yz e1 zlt
  ·show SL h4[S[(p+i)]=S[(p+i-b)]][yhK h3][Dt[λ σ' H'=>σ'=[Cs,mi,YI,xKU,Ν[i+1]]/\H'=H2][λ σ' H' z=>EV[m-(i+1)][Dd zhM[HV mJ] _Z τ[YF zco Η h2]][i+1] zbE jc xD8]]
   ·by_cases e:j=i
    ·show(xG8,[xZ8,JX l2,h4])
    ·exact Ss j[LD[LQ hj] e]
   ·exact VY _ Ÿ
  ·show(CJ xOR h4[S[p+i]?≠S[p+i-b]?][by
    show([xZ8,JX l2],vdg)],A3[xjg Ss h4 m jc] k k)
 ·show CJ[bD xOR] h2[i=m][by
   show((UR:¬(WF[vo gy X9]))=h1,xy5[¬(gy<X9)][TD[UR xJf]])]
  clear hm hi h1;show(xIA,A3[xnB Ss] k k)
inductive xj5 (vs:SC) (H:Hp) (Q:VK) (RW:XK):Prop
 |mk (a:RA) (S:LE) (p:Nat) (h0:vs=sZ xEr) (h1:Α=ud) (h2:xK0) (h3:Hc S.length) (h4:∀t,Bf t->Q yd[sG H t [xBF,vN xJM,vN WC]]):xj5 Ã
def xys:XV ["signs","place","most","best_back","best_size","back","size"] x9h xp8:=Uf
def xg9 (F:Ρ zrN x9h)(AF:FL zio xXB zea)(T:FW):xyS x9h xj5:=by
 show(EF tf hf T._O tm hm T.mostC,BA xys[λ RO A outer st H vs Q E hr h=>?_],Hv a S p rfl hS hp hlen k,Θ hn xFU _X,Av[DJ 2 xys.nd[SD zjp Qa[IB[Ft 18 hm tm][yQ vP χ]]] 3 xys.nd aj[Em 4 xys.nd aj[zU[yhu Z7[WX[Rd[SD zjp Qa[ac[Ft 255 hf tf] Yk]]]]] 5 xys.nd[vB bM AS Ε[ag xmS][d8 zj4[Hh[yQ xYH EH]][Eh 6 xys.nd[IX[xaM AF] Si AF 0[xEC 1 5 2]][d8 cZ Im AS[Eh 3 xys.nd EH[qP 4 xys.nd Im]]]]]]][aT[ac bd[jZ 3 4]]]]] (_U,BZ hS,Ø,Ö,Al),(em:ug[xZK-df<18][xZK-df] 18=Tl IV)=by
  rw [JO];unfold most
  split<;>lia)
 try dsimp only
 show([em],(hm2:IV≤18/\Yc[p+IV])=by unfold most;show AX[Z1[.n 18][.n 18] DU][Dd [_,_,_,_][A7 xH0] Xs AO XL HN[xLE hp]],YM,YM,CJ Gw JR[∀v5 v6,R1 [Cs,mi,Ν IV,Ν xJM,Ν WC,v5,v6] H][λ v5 v6=>EC Al[Zv _[rP 3] k]],x4,SL ef[ug[df<255] df 255=Tl Yn][by
  unfold _O
  split<;>lia][kM _ x_])
 try dsimp only
 show([ef],SL hfar zlQ[FD ă 1[Tl Yn+1] zpN ?_],(en:U9[Tl Yn+1] 1=Yn)=Z5)
 try dsimp only
 show Ζ en[xKu Ym 1 Yn[λ j σ H2=>∃v5 v6,σ=[Cs,mi,Ν IV,Ν (lc S p IV j).1,Ν wm,v5,v6]/\H2=H] zsj]
 ·rintro j σ H2 hj ⟨v5,v6,rfl,rfl⟩;have eb:Ih+Tl j=xV j:=(Uw x8t Tm zB)
  try dsimp only
  show([eb],uH g2[VY zdR Hd])
  ·show((h2:wm=IV)=ygA,Ty e[xo4 h2 Yn[Mz hj]] J[JR[Ν[j+1]] v6]);unfold b_ at J;show xc J J
  ·show(ZY h2[wm≠IV][TD[h1[xWB z]]] hle[xvt S p IV j],IZ ZV,Gn[df+Tl wm=wV wm][xKs][wV wm-xV j=Tl[p+wm-(j+1)]] Z5,AH l1[pQ[p+wm]] Z5 l2[pQ[p+wm-(j+1)]][Dd [_,_,_,_][Um Hb SZ] xCx _Z l1 IJ] (Ï,e_))
   try dsimp only
   show(CS,Υ zkQ)
   try dsimp only
   show yz e1 zlt
   ·show Υ (Ï,ě,S,p,j+1,IV,rfl,hS,JW hj hfar.2,String.Pos.Raw.mk_le_mk.mp hm2.2,?_) (Ï,Ć,ux h4 h4)
    ·show(SL h5[wm<vY[j+1] IV][Jx[J5 h4] xNc][EV ĝ[Ν[j+1]][Ν[vY[j+1] IV]] ?_ rfl],BH lc[Kq h5])
    ·show(SL h5[¬wm<vY[j+1] IV][TD[h4[JY[ku[UK z]]]]] (Ν[j+1],Ν[vY[j+1] IV],?_,rfl),BH lc[Kh h5])
   ·show(CJ (Ν[j+1],v6,?_,rfl) h4[S[p+wm]?≠S[p+wm-(j+1)]?][by
     show([xZ8,JX l2],vdg)],CM[xb1 h4])
 ·show(xPG H2 v5 v6 Ð,JR v5 v6)
inductive xkB (vs:SC) (H:Hp) (Q:VK) (RW:XK):Prop
 |mk (a:RA) (x:V) (W T:LE) (h0:vs=sZ x) (h1:Α=DO) (h2:oP) (h3:xK2) (h4:wO T) (h5:ybe 255) (h6:ya7 500) (h7:∀l P H',AA->DP->xeO H' l P->xUK[W++T] P[CZ W T]->BD):xkB Ã
def xyu:XV ["text","before","own_signs","signs","place","pieces","found"] Jae xpf:=Uf
structure Wins (K:Frag)(mg:Τ):Prop where
 R:WZ
 needrow:x40 zdS
 needwin:Ι zih xGm
 alike:Ι zio xXB
 longest:Ι zrN x9h
def li {P:RE}{w:RF}{K:Frag}(F:yl1 xpf Jae Ò)(Y:Wins Â):xyR Jae xkB:=by
 show(TL,yjq R N NW AF L,lX R.X,EF tl hlc T.least tf hfr T._O,Uv dV FF F.F,fH[FF.ok xyu λ RO A outer st H vs Q E hr h=>?_] _,(a,x,W,Tx,_S,hx,hbW,hbT,hW,hT,k)=h,AH zeb BM hr5[ED 5] BM[DT[DJ 2 xyu.nd[zS[xSk R] WO N 0] 3 xyu.nd[HA[IX[xnu NW N R] hr5 NW 1[B9[Ft 255 hfr tf]]] Ε][Eh 4 xyu.nd[yQ[xFR Ab] x8c][Em 5 xyu.nd yw[xR8 AS[xFR Ab][Eh 6 xyu.nd[Je[xg9 L AF R.X] L 3 xIT][Uc[Bv xuS[xxn Im][Ft 3 hlc tl]][Iz[xHk EH[vW 6]][qP 4 xyu.nd[Ee AS[xxn Im]]]][Iz[xHk EH[B9[aT[IB bd[vA Ab AS]]]]][qP 4 xyu.nd xYz]]]]] EH]]]],Gd[xW a Tx ha hbT[bf l1 n1]],SL s1[qq[VC x4L]][am n1][UZ (ć,255,W,rfl,yeo,hbW,hW,λ l2 H2 s2 n2 Yx=>?_)],(h1a:H2 l1=Ak x4L)=Cv ae,Dp (Á,l2,l1,Å,Yx,h1a,bQ[by show(xKc,IY zbh[D8 xxX 500] Cg hW hT)],bf l3 n3),s3=DI[xAJ++x4L] n3)
 try dsimp only
 rw [<-J8] at s3 ⊢;show((hS3:rL H2 l3[W++Tx] l3=xf W Tx)=ae,Ty hS1[Dz h1a] s03 xZj);generalize hH3:cg H2 l3[W++Tx]=H3 at*;clear hH3 s3 n3 h1a s2 n2 s1;show(Gd (Á,l3,Á,BZ hS3,Á,l1,Á,BZ hS1,Å,Al),(ep:BN[AY[W++Tx]]-BN x4L=Tl W.length)=by
  show xLC JO JP;lia)
 try dsimp only
 show(x6h ep hS[W++Tx] S,(hSl:xHy[xUE Tx.length])=by rw [<-hS,JP],Gd[IQ Z9 zcO Al],Θ s5[xKn []] n5'[Bf l5][x5z s03],Θ hS5[Dm hS3] n35[l3≠l5][ai hS3 n5],ω s05[s03.trans s5][UZ[Dt[λ n σ H2=>∃q Pp ts v6,n=xxU q/\σ=[Cs,xIf,υ l1,xyP,xEA,xQm,v6]/\Yc q/\xUK S Pp q/\H2 l3=ud/\H2 l5=xDb/\xIL H2 Pp/\Yp] (xxU W.length,W.length,[],[],none,Ú,Nat.le.intro hSl.symm,rfl,hS5,ae,Fw[λ i b y h=>Ed],s05)]])
 rintro n σ H2 ⟨q,Pp,ts,v6,rfl,rfl,hq,hw,h3,h5,WM,sm⟩;refine(Ï,l3,Á,BZ h3,vcU)
 ·show(SL Wb[pQ q][rO xZ9 JO xNc][Dt[λ σ' H'=>∃q' Pp ts v6,q<q'/\σ'=[Cs,xIf,υ l1,xyP,Ν q',xQm,v6]/\Yc q'/\xUK S Pp q'/\H' l3=ud/\H' l5=xDb/\xIL H' Pp/\AA][λ σ' H' z9=>by show((q',Pp,ts,v6,RQ,z1,z2,z3,z4,z5,z6,z7)=z9,(xxU q',(VZ [_,_,_,_,_][wz[C7 xYj]][Il[HV mJ]] ST RQ τ[YF _I z2]),q',Pp,ts,v6,rfl,z1,z2,z3,z4,z5,z6,z7))]],ZY hlen[Yc Pp.length][by have:=xye hw;show Ej [_,_,_,_][Bu JA] mJ ST hq this] hpz[xpc Wb],oW g2 (Ï,l3,S,q,rfl,h3,Wb,(HK zdL[x9q[EM 500 Φ]] D5 hW hT[JQ hSl]),λ t nt=>ZV) g2,XM st[xSM [xBF,xQ5,xQR]] ht[Hl[(p7 ziz) t] [xBF,xQ5,xQR]],Ew h3t[Xd h3] h5t[Xd h5] htst[WM.keep (H':=p7 ziz) (x2B[Xd z])] smt[sm.trans st]);generalize hHt:p7 ziz=Ht at*;clear hHt st;show SL hap[∀H4 u,H4 l5=xDb->H4 l3=ud->xIL H4 Pp->yaC->Hl[H4 u][_P xRP]->
    (Tn[cq++[xYS]]) l3=ud/\(Tn[cq++[xYS]]) l5=Ak[xBD[ts++Gz]]/\PT'[Tn[cq++[xYS]]][ts++Gz][Pp++[xRP]]/\qq[Tn[cq++[xYS]]]][by
   intro H4 u a5 a3 at' as au;show(SL kt[∀b xs,aZ[H4 b]->aZ[(Tn[cq++[xYS]]) b]][λ b xs z=>Κ[YJ a5 oA] z] (Κ n35 a3,Zn,(at'.keep kt).snoc[kt _ _ au],Ο b o z),uC z n5'[as _ _ z])] (vcg,xAK 2,Ć,ux h6 h6)
  ·show(SB h7[rJ gp][Jx[J5 h6][QP.mp this]] epc[xRP=.cp yc6 gp][xJV ĩ h7],(b3,b5,bt,bs)=hap Ht t h5t h3t htst smt[Sc epc ht],(Á,Zy h5t,Á,l5,Å,h5t,cz[by show(Fn xC2,Ej zqo Cg zpk)],?_),SL ht2[Hl[(EN Ht l5[cq++[yd]]) t] [xBF,xQ5,xQR]][Κ[aN ht h5t oA] ht] (Ï,t,Û,Sr.of ht2,xAK 2,ø));rw [epc] at bt hpz;show(FR hw2[xt9 hw Wb] epc hw2,(hz:ygj yc6 gp=gp)=rfl);rw [hz] at hw2 hpz;show CJ (q+gp,_,_,υ t,Mm hpz.1,?_,hpz.2,hw2,b3,b5,bt,bs) e2[xKi+Tl gp=Tl[q+gp]][xKs]
   try dsimp only
   show CM e2
  ·show(AH h7[¬rJ gp][TD[h6[JY[IE[Wg Ġ Ġ z]]]]] epc[xRP=.sg S[(q)]][by show(Hf ĩ[Kh h7],x35 Wb)] (Á,Zy h5t,Ï,l3,Û,RV.of h3t,uU Wb,tT,UV u nu),su=jN [yfQ,vN S[(q)]] nu,(b3,b5,bt,bs)=hap[sG Ht u [yfQ,vN S[(q)]]] u[xLr h5t][xLr h3t][htst.keep[x2B[xLr z]]][smt.trans su][Sc epc ae],Υ[JG l5 ă[xLr h5t][cz[by show(Fn xC2,Ej zqo Cg zpk)]] ?_] xEo,hw2=xt9 hw Wb);rw [epc] at bt hw2 hpz;exact(q+1,_,_,υ t,P7 _,rfl,hpz.2,hw2,b3,b5,bt,bs)
 ·have Wb:xCe q:=by
   show(yp h1[¬(WF[vo xKi xZK])] hc JO h1,xy5[¬(xKi<Tl S.length)][TD[h1 xJf]])
  clear hq hc;subst Wb;show EC xOR[k l5 Pp H2 sm n5' (ts,h5,WM) hw]
def app (B:LE):Pc->LE
 | .sg s=>B++[s]
 | .cp b z=>xX6 z
def runP (B:LE)(P:yW):LE:=P.foldl app B
def pcP:Pc->Dn
 | .sg s=>[((0,1)),((s,8))]
 | .cp b z=>[((1,1)),((b,8)),((z-3,4))]
def pP (P:yW):Dn:=P.flatMap pcP
def xz6 (B:LE):Fy Pc
 | .sg s=>D4 s
 | .cp b z=>G5/\WW/\pO b/\xE0/\xE5
def GR:xTv yW
 |_,[]=>True
 |B,x::P=>xz6 B x/\GR x10 P
def xpj (B)(x):BF x10[xB6 x.size]:=by
 cases x with
 |sg s=>show CZ B [s]=xB6 1;simp
 |cp b z=>exact xzL B b z
def xg0 (P Q:yW):pP[P++Q]=pP P++pP Q:=by simp [pP]
def xzA (x)(P):pP[x::P]=pcP x++pP P:=by simp [pP]
def xdR (x:Pc):pP CI=pcP x:=by simp [pP]
theorem GR.at:∀{P} {B} {i} {x},GR B P->V7 P->xz6[runP B[P.take i]] x
 |y::P,B,0,x,h,e=>by show(xYQ,A6 Gl)
 |y::P,B,i+1,x,h,e=>Jx[GR.at (P:=P) (B:=app B y) (i:=i) (x:=x) o4 xNa] this
def xiS (h:xz6 B x):AJ x.size/\x.size≤18:=by
 cases x with
 |sg s=>show AX ρ[d6[AJ 18]]
 |cp b z=>
  obtain⟨_,_,_,h1,h2⟩:G5/\WW/\pO b/\xE0/\xE5:=h;show AX[by show AJ z;show Gm D2 AZ h1] h2
theorem GR.len:∀{P} {B:LE},GR B P->xOr[xB6 P.length][x1K B]
 | [],B,_=>ρ
 |x::P,B,h=>by
  show oO[GR.len (P:=P) (B:=x10) o4][xiS Gl];rw [xpj] at h1;show xOr[xB6[Xi 1]][x1K x10];show DE zig Hb Ec XL h1 xy
theorem wp:gL P B[GR B P][Good[pP P]]
 | [],_,_=>λ q hq=>by cases hq
 |x::P,B,h=>by
  show Zz[wp (P:=P) (B:=x10) o4];intro q hq;show(xOX xzA,gU hq hq hq)
  ·cases x with
   |sg s=>
    show((hs:D4 s)=Gl,x6X pcP,Sx hq)
    ·decide
    ·exact hs
   |cp b z=>
    obtain⟨_,h2,_,h4,h5⟩:G5/\WW/\pO b/\xE0/\xE5:=Gl;show(x6X pcP,iW hq)
    ·decide
    ·show gY[b<2^8][MV h2]
    ·show z-3<2^4;omega
  ·exact ih ġ
def xbO (x):xGp x=9\/xGp x=13:=by
 cases x with
 |sg s=>show DD rfl
 |cp b z=>show Dr rfl
theorem xtq:∀P:yW,ybq P≤13*P.length
 | []=>ρ
 |x::P=>by
  rw [xzA,bq,Ki];have:=xtq P;rcases xbO x with h|h<;>lia
def xel (hb:E3 S)(hp:xK0):xz6 xGW Zg/\app xGW Zg=S.take[p+xW3]:=by
 cases e:Zg with
 |sg s=>
  show(ω h[xcv hp e][yb[hb s[Lq h]]],HF[xGW++[s]=S.take[p+1]] Lk h)
 |cp b z=>
  show((vbP,h6,h7,_)=xck hp e,EC[yb (h1,h3,sr J7,h4,h5)][xmB Ç h6 h7 z ρ])
theorem xm1 (hb:E3 S):∀{P} {p q},xEK P q->GR xGW P/\x1K xGW=S.take q
 | [],p,q,h=>qw[dJ trivial]
 |x::P,p,q,(é,h3)=>by
  show(xIA,EF g e[xel hb h1] i1 i2[xm1 hb h3],EJ (g,Vz i1) ?_);show x1K[app xGW Zg]=_;show Vz i2
theorem xv0:∀{P P'} {p q},xEK P q->xEK P' q->P=P'
 | [],[],_,_,_,_=>rfl
 | [],x::P',p,q,h,h'=>by
  show(yN,rO[xye h'] znW)
 |x::P,[],p,q,h,h'=>by
  cases h';show rO[xye h] znW
 |x::P,x'::P',p,q,(_,h2,h3),(_,YT,h3')=>by
  subst h2 YT;rw [xv0 h3 h3']
def xq6 {P:yW}(hW:E3 W)(hT:E3 T)(h:xUK[W++T] P[CZ W T]):GR W P/\x1K W=W++T/\xWN P.length:=by
 show((hb:E3[W++T])=λ b z=>by
  show tW z
  ·exact hW b z
  ·exact hT b z,xWA h1[xm1 hb h],xDR Rt h1);rw [K0] at h2;show rO[xye h] JP[xS7 h2[M5.mp this]]
structure Wys (K:Frag)(mg:Τ):Prop where
 V:Wins Â
 pieces:Ij[yl1 xpf Jae Ò]
 needahead:Ι zfB j6
 needsigns:Ι ztd Jae
universe K26
namespace SM
section
variable {α κ:Type}{blt:κ -> xDn}{kf:α -> κ}
structure Ord (blt:κ->xDn):Prop where
 irr:∀a,A2[blt a a]
 tr:∀a b c,dv a b->dv b c->dv a c
 neg:∀a b c,dv a c->dv a b\/dv b c
 tot:∀a b,A2[blt a b]->A2[blt b a]->a=b
variable (O:x6Z)
abbrev Le (blt:κ->xDn)(kf:α->κ)(x y:α):Prop:=A2[xHL y we]
abbrev Lt (blt:κ->xDn)(kf:α->κ)(x y:α):Prop:=dv we[kf y]
include O
def le_of_lt {x y:α}(h:xDo x y):xRR:=by
 cases e:xHL y we with
 |false=>show xDY
 |true=>have:=O.tr _ _ _ h e;show A8 O.irr zge
def le_trans {x y z:α}(h1:xRR)(h2:xHn y z):xHn x z:=by
 cases e:xHL z we with
 |false=>show xDY
 |true=>
  show iw[x60[kf y] _ e] h
  ·show A8 znM h
  ·show A8 zoA h
def xfX {x y z:α}(h1:xDo x y)(h2:xHn y z):xDo x z:=by
 show iw[x60[kf z] _ h1] h
 ·show aq
 ·show A8 znM h
def xpz {x y z:α}(h1:xRR)(h2:xDo y z):xDo x z:=by
 show iw[x60 we _ h2] h
 ·show A8 zoA h
 ·show aq
omit O in
def eqv (blt:κ->xDn) (kf:α->κ) (k:κ) (x:α):Bool:= ! blt we k&& ! blt k we
omit O in
def xuB {k:κ}{x:α}:xDl k x<->A2[blt we k]/\A2[blt k we]:=by unfold eqv;simp
omit O in
def Sm (blt:κ->xDn)(kf:α->κ)(xs ys:FO):Prop:=∀k,xs.filter yaP=ys.filter yaP
omit O in
def Sm.refl (xs:FO):x4o xs:=JC
omit O in
theorem Sm.trans {xs ys zs:FO}(h:xJC)(g:bJ ys zs):x4o zs:=λ k=>(xg).trans[g k]
omit O in
theorem Sm.symm {xs ys:FO}(h:xJC):bJ ys xs:=λ k=>(xg).symm
omit O in
def Sm.app {xs ys us vs:FO}(h:xJC)(g:bJ us vs):bJ[xs++us][ys++vs]:=λ k=>by rw [KP,KP,xg,g k]
omit O in
def xqn (O:x6Z)(x:α):xDl we x:=by unfold eqv;simp [O.irr]
def Sm.mem {xs ys:FO}(h:xJC){x:α}(hx:x∈xs):x∈ys:=by
 have:x∈xs.filter x9Q:=M7.mpr (hx,xSl);show xLM h (M7.mp this).1
def xq4 {X Y:FO}(h:iX Y X[xDo y x]):bJ[X++Y][Y++X]:=λ k=>by
 rw [KP,KP];by_cases hx:∃x∈X,xDl k x
 ·show(x7b x ex hx,(hy:Y.filter yaP=[])=MD.mpr λ y hy ey=>by
   show zx l[h y hy Ô] ex[xuB.mp ex] ey[xuB.mp ey];have:dv[kf y] k\/dv k we:=x60 k _ l;show HQ this
   ·show xm ey.1
   ·show xm ex.2,[hy,Ku,KN])
 ·show((hx':X.filter yaP=[])=MD.mpr λ x hx' ex=>hx (x,hx',ex),[hx',Ku,KN])
theorem xqe:∀{xs ys:FO},xs.Pairwise xHn->ys.Pairwise xHn->xJC->xs=ys
 | [],[],_,_,_=>rfl
 | [],y::ys,_,_,h=>xPA[yf0[xQ7 y ys]]
 |x::xs,[],_,_,h=>xPA[xVK h[xQ7 x xs]]
 |x::xs,y::ys,hx,hy,h=>by
  show(Ty hxm[xVK h[xQ7 x xs]] hym[yf0[xQ7 y ys]],SB l1 xRR[by
   show yZ hym z
   ·exact O.irr _
   ·exact xXf hx y z] l2[xHn y x][by
   show yZ hxm z
   ·exact O.irr _
   ·exact xXf hy x z],SB ex[xDl we x] xSl ey[xDl we y][xuB.mpr (l1,l2)],e=h we,TV[Kv ex][Kv ey]);clear hxm hym l1 l2 ey;show((rfl,_)=MJ e,(ht:xJC)=λ k=>by
   have e:=xg;by_cases z:xDl k x
   ·show vH[Kv z][Kv z] e (MJ e).2
   ·show vH[KH z][KH z] e e,[xqe[xXp hx][xXp hy] ht])
omit O in
structure xyy (blt:κ->xDn)(kf:α->κ)(all out A B:FO):Prop where
 s1:xEd[yi A]
 s2:xEd[yi B]
 sq0:xQz[yi A++B]
omit O in
def xyy.pushA {all out A B X:FO}(h:x9W[X++A] B)(hX:lF X[tQ B xRR]):yfv[yi X] A B:=by
 show(xJP[Sc JT h.s1] ?_[Sc[JT out] h.sq0],[JT,Kp],oO xM7 xM8,xJP h1.1 ?_[λ a ha b hb=>?_])
 ·show Sc Kp ((Kp.mp[Az h1]).1,Az h2,hX)
 ·show tW hb
  ·exact Et h1 zc6[wa z]
  ·exact Et h2 zc6 z
def xyy.pushB {all out A B Y:FO}(h:x9W A[Y++B])(hY:iX Y A[xDo y x]):yfv[yi Y] A B:=by
 show(oO xM7 xM8,x8 ?_[Sc JT h.s2])
 ·show yz JT zm8
  ·show Sc Kp ((Kp.mp[Az h2]).1,Az h1,λ a ha b hb=>le_of_lt O[hY a ha Ì])
  ·show tW hb
   ·exact Et h2 zc6[wa z]
   ·exact Et h1 zc6 z
 ·refine xVL h.sq0;have:bJ[yi[Y++A]++B][yi[A++Y]++B]:=yfT[Sm.refl out|>.app (xq4 O hY).symm] B;rw [<-JT,<-JT] at this;show C8[JT[yi A]] this
omit O in
def xyy.endA {all out A:FO}(h:x9W A []):xEd[yi A]/\xQz[yi A]:=(h.s1,by show ygS;rwa [Ku] at this)
omit O in
def xyy.endB {all out B:FO}(h:x9W [] B):xEd[yi B]/\xQz[yi B]:=(h.s2,by show ygS;rwa [Ku] at this)
omit O in
structure xyx (blt:κ->xDn)(kf:α->κ)(all A B out:FO):Prop where
 s1:xEd[qx A]
 s2:xEd[qx B]
 sq0:xQz[qx[A++B]]
omit O in
def xyx.pushB {all A B out Y:FO}(h:xRh A[B++Y] out)(hY:lF A[tQ Y xRR]):xRh A B[qx Y]:=by
 show(xJP ?_[C8 JT h.s2][xCl JT[JT A] h.sq0],oO xM7 xM8,Ζ zm8)
 ·show Sc Kp (Az[Kp.mp xy],Az h2,λ a ha b hb=>Et h2 a[tD ha] Ì)
 ·show tW hb
  ·exact hY zc6 z
  ·exact Et h1 zc6 z
def xyx.pushA {all A B out X:FO}(h:xRh[A++X] B out)(hX:iX B X[xDo y x]):xRh A B[qx X]:=by
 show(oO xM7 xM8,x8[C8 JT h.s1] ?_)
 ·show Ζ Kp (xy,vda)
  ·show Sc Kp (Az[Kp.mp h1.1],Az h1,λ a ha b hb=>Et h1 a[tD ha] Ì)
  ·show tW hb
   ·exact le_of_lt O[hX zc6 z]
   ·exact Et h2 zc6 z
 ·refine xVL h.sq0;have:bJ[qx[A++(B++X)]][qx[A++(X++B)]]:=yfT[Sm.refl A|>.app (xq4 O hX).symm] out;rw [<-JT,<-JT] at this;show C8[JT[A++B]] this
omit O in
def xyx.endA {all A out:FO}(h:xRh A [] out):xEd[qx A]/\xQz[qx A]:=(h.s1,by show ygS;rwa [Ku] at this)
omit O in
def xyx.endB {all B out:FO}(h:xRh [] B out):xEd[qx B]/\xQz[qx B]:=(h.s2,h.sq0)
universe s
universe SM
namespace SG
open PySem PyProof.Rows
def xfD:Bool->Keyed->Wp->i'[DQ[xCI BW]]:=sortPriv%PySem.Builtin.gallop
def xaB:Wp->Wp->xCI Wp:=sortPriv%PySem.Builtin.mergeLo
def xaA:Wp->Wp->xCI Wp:=sortPriv%PySem.Builtin.mergeHi
def kf (κ:KeyKind) (p:Keyed):κ.α:=(ymC).getD κ.dflt
def xkb (κ:KeyKind)(p:Keyed):Prop:=∃a,UF ymC a
def ord (κ:KeyKind):SM.Ord κ.blt:=(κ.irrefl,κ.trans,κ.negTrans,κ.total)
def xgm (hO:κ.OneLt)(hk:VL)(hx:xBc x)(hy:xBc y)(h:xyC[wH x y]):
  dm[lt' x y]:=by
 show(EF a ha hx Ì hy,jE lt'_eq kA,[hk,keyLt'_oneType],Gh[wpS_lift[OA[hO zb5 A _ s Yo Zu a b Ā Xq]]],pM kf,vH Ā h[KQ h])
def bv (hi:i<arr.size)(h:Q arr[(i)] sq0):dm[elem' arr i]:=Γ elem'_eq[ykN Ď][KQ h]
def xu4 (κ:KeyKind) (left:Bool) (key:Keyed) (arr:Wp) (j:Nat):Bool:=EB left[κ.blt[x2z arr j] xHv][! yiN[x2z arr j]]
def gh {κ:KeyKind}{arr:Wp}{j:Nat}(h:j<arr.size):x2z arr j=zA arr[(j)]:=xx9 KK[ykN j h]
def xqr (left:Bool) (key:Keyed) (arr:Wp) (j:Nat):xCI xMS:=elem' arr j>>= λ y=>EB left[lt' y key][lt' key y>>= λ o=>pure[o.map λ c=> ! c]]
def xbm {prog:RE}{w:RF}{A:RH}{E:BQ}{s:RD}{κ:KeyKind}(hO:κ.OneLt){sq0:SortSt}{left:Bool}{key:Keyed}{arr:Wp}{j:Nat}{Q:xMS->Gb}(hk:VL)(hj:j<arr.size)(Vm:xO7)(ha:xBc arr[(j)])
  (h:xyC[yiG j]):dm[xqr left key arr j]:=by
 unfold xqr;show(pM xu4,Ir[gh hj],xKj hj ?_);cases left with
 |true=>
  simp only [if_true] at h ⊢;exact x0a hk ha Vm h
 |false=>
  simp only [Mt,OR] at h ⊢;exact wpS_bind[x0a hk Vm ha[KQ h]]
def mid {l r:Nat}(h:l<r):l+(r-l)/2<r:=Mn[Nat.div_lt_self[OV h][by decide]]
def xk4 (h:l≤r)(k:r-l≤n-x5M n):l=r:=JS h[xLX[ycI[JW k[JQ[Nn n]]]]]
def dbl (a:Nat):a≤2*a:=Nat.le_mul_of_pos_left a[by decide]
def xoY {prog:RE}{w:RF}{A:RH}{E:BQ}{s:RD}{sq0:SortSt}{n SK hi:Nat}{c:x7f}{f:DQ[(xAR BW Jg)->xCI[ForInStep[xAR BW Jg]]]}{Q:(xAR BW Jg)->Gb}
  (h1:SK≤hi) (h2:lG hi) (mono:∀i j,xR9->j<n->WF[c j]->WF[c i]) (XG:∀i,i<SK->WF[c i]) (hhi:∀i,HE hi->i<n->A2[c i])
  (fd:∀x SK hi,SK≥hi->xWt[f x x2f][λ r st'=>st'=sq0/\r=.done x2f])
  (fy:∀x SK hi,SK<hi->lG hi->xWt[f x x2f][λ r st'=>st'=sq0/\r=EB[c[SK+(hi-SK)/2]][.yield[oG[SK+(hi-SK)/2+1] hi]][.yield[oG SK[SK+(hi-SK)/2]]]])
  (h:∀k,xEQ->xAt[i<k->WF[c i]]->xAt[HE k->i<n->A2[c i]]->Q[oG k k] sq0):dm[forIn [:n] x2f f]:=by
 refine xMG[λ x d st'=>st'=sq0/\∃SK hi,d=x2f/\SK≤hi/\lG hi/\hi-SK≤n-x/\xAt[i<SK->WF[c i]]/\xAt[HE hi->i<n->A2[c i]]] Î[FD rfl SK hi Ç[x0H h2] XG hhi]
 ·rintro x d st' _ hx ⟨rfl,SK,hi,rfl,h1,h2,h3,XG,hhi⟩;by_cases Uq:SK≥hi
  ·refine Np[fd x SK hi Uq] ?_;rintro r st' ⟨rfl,rfl⟩;show uX[SK=hi][JS h1 Uq][h SK h2 XG hhi]
  ·show ω hm[mid[N7 Uq]][Np[fy x SK hi[N7 Uq] h2] ?_];rintro r st' ⟨rfl,rfl⟩;by_cases hc:WF[c[SK+(hi-SK)/2]]
   ·show vw hc[FD rfl _ _ hm h2[JW[QF[NM gk] _][Ni h3 1]][λ i hi'=>mono i _[LQ hi'][J6 hm h2] hc] hhi]
   ·show Ζ[Kh hc][FD rfl _ _ gk[JW[Ks hm] h2][JW[Ni[Nj hm] _][Sc QU[Ni h3 1]]] XG[Ο i Ç]];cases e:c i with
    |false=>rfl
    |true=>show Dv[mono _ i Ç e] hc
 ·rintro d st' ⟨rfl,SK,hi,rfl,h1,h2,h3,XG,hhi⟩;show uX[SK=hi][xk4 h1 h3][h SK h2 XG hhi]
def xr9 {prog:RE}{w:RF}{A:RH}{E:BQ}{s:RD}{κ:KeyKind}(hO:κ.OneLt){left:Bool}{key:Keyed}{arr:Wp}{base n hint:Nat}{sq0:SortSt}{Q:BW->Gb}(hk:VL)(hn:base+n≤arr.size)(hh:hint<n)(Vm:xO7)
  (Ss:qa arr.toList) (mono:∀i j,xR9->j<n->WF[u7 j]->WF xDT)
  (h:∀k,xEQ->xAt[i<k->WF xDT]->xAt[HE k->i<n->A2 xDT]->xyC k):
  dm[x1L left arr base n hint]:=by
 show xxD hB[∀(i:Nat) {Q':xMS->Gb},i<n->Q'[some xDT] sq0->xWt[xqr left key arr[base+i]] Q'][λ i Q' hi hq=>
  xbm zcm[J6[Nq hi _] hn] Vm[Ss _ Z6] hq][hB hint hh ?_];dsimp only;cases hr:u7 hint with
 |true=>
  show jE Cm[rD[λ x d st'=>st'=sq0/\∃la of,d=oG la of/\la<of/\x<of/\x1n<n/\WF[u7[x1n]]][λ d st'=>st'=sq0/\∃la of,d=oG la of/\la<of/\x1n<n/\WF[u7[x1n]]/\(n-hint≤of\/(yaV<n/\A2[u7[yaV]]))][EV rfl 0 1 zoB[by assumption] hr]]
  ·rintro x d st' _ hx ⟨rfl,la,of,rfl,h1,h2,h3,h4⟩;dsimp only;by_cases Uq:of≥n-hint
   ·show vw zmv
   ·show jE[Kh Uq][hB yaV[by exact Mn xYx] ?_];dsimp only;cases e:u7[yaV] with
    |false=>
     show vw Z7[KQ[EV zek[zQ zrO]]]
    |true=>
     show w4 Z9[KQ[EV rfl of[2*of+1] zq9 zrO]]
  ·rintro d st' ⟨rfl,la,of,rfl,h1,h2,h3,h4⟩;exact EV zek[.inl[x0H[Ks h2]]]
  ·rintro d st' ⟨rfl,la,of,rfl,h1,h3,h4,h5⟩;dsimp only;show Gh[xoY (c:=xD3 xDT) (Nq[yc1[xIu[x2L h3]]] _)[JW[Nv HN _][JQ[xZC hh]]] mono[λ i hi=>mono i _[show i≤x1n by exact LQ hi] h3 h4][Ο i h6 h7] Î λ k h6 h7 h8=>?_]
   ·show x5r h5 z z2
    ·rw [Mx z,xZC hh] at h6;show Dv h7[jr h6]
    ·cases e:xDT with
     |false=>rfl
     |true=>show A8[mono _ i[A3[xZD[x2L z]] h6 h6] h7 e] z2 z2
   ·intro x SK hi Uq;dsimp only;show vw Uq[KQ jl]
   ·intro x SK hi RQ hhn;dsimp only;show(jE zlM,x3G)
    ·show xDZ
    ·show xDZ
   ·show xBI[xg h6 h7 h8]
 |false=>
  show jE x8X[rD[λ x d st'=>st'=sq0/\∃la of,d=oG la of/\la<of/\x<of/\la≤hint/\A2[u7[hint-la]]][λ d st'=>st'=sq0/\∃la of,d=oG la of/\la<of/\la≤hint/\A2[u7[hint-la]]/\(hint+1≤of\/(of≤hint/\WF[u7[hint-of]]))][EV rfl 0 1 zoB[by exact Bz] hr]]
  ·rintro x d st' _ hx ⟨rfl,la,of,rfl,h1,h2,h3,h4⟩;dsimp only;by_cases Uq:of≥hint+1
   ·show vw zmv
   ·show jE[Kh Uq][hB[hint-of][by exact Mj hh] ?_];dsimp only;cases e:u7[hint-of] with
    |true=>
     show vw Z7[KQ[EV zek[zQ zsm]]]
    |false=>
     show w4 Z9[KQ[EV rfl of[2*of+1] zq9 zsm]]
  ·rintro d st' ⟨rfl,la,of,rfl,h1,h2,h3,h4⟩;exact EV zek[.inl[by exact JW hh[Ks h2]]]
  ·rintro d st' ⟨rfl,la,of,rfl,h1,h3,h4,h5⟩;dsimp only;show Gh[xoY (c:=xD3 xDT) (JW[QF[yc1[xIu[MV h3]]] _][JQ[Nat.add_sub_add_right ..]])[x0H[Ks hh]] mono[UV Ď][Ο i h6 h7] Î λ k h6 h7 h8=>?_]
   ·show x5r h5 z z2
    ·show cx[Mx z] Nn hi hi
    ·exact mono i _[show i≤hint-of by show vH[KY[Nat.le_succ_of_le z]][Rf z] hi[LQ hi]][by exact Mj hh] z2
   ·cases e:xDT with
    |false=>rfl
    |true=>show A8[mono _ i[show HE[hint-la] by assumption] h7 e] h4 h4
   ·intro x SK hi Uq;dsimp only;show vw Uq[KQ jl]
   ·intro x SK hi RQ hhn;dsimp only;show(jE zlM,x3G)
    ·show xDZ
    ·show xDZ
   ·show xBI[xg h6 h7 h8]
universe SG
namespace SG
open PySem PyProof.Rows SM
abbrev xqo (κ:KeyKind):dS Keyed Keyed:=Le zfX
abbrev xe8 (κ:KeyKind):dS Keyed Keyed:=Lt zfX
def xqE (κ:KeyKind)(a b r:Wp):Prop:=r.toList.Pairwise Di/\W0 r.toList[a.toList++b.toList]
def MA (κ:KeyKind)(a b out:Wp)(ia ib:Nat):Prop:=xyy zpq out.toList xU0 xL7
def MA.sa {κ:KeyKind}{a:Wp}{b:Wp}{out:Wp}{ia ib:Nat}(h:xt):gm xU0:=Az xM7
def MA.sb {κ:KeyKind}{a:Wp}{b:Wp}{out:Wp}{ia ib:Nat}(h:xt):gm xL7:=Az xM8
def xzz {xs:Wp}{i:Nat}(h:xSY):xFO=xs[(i)]::ye5 i 1:=by
 have:yc2 i:=xBs
 show CM[Ll this]
def xwd {κ:KeyKind}{xs:Wp}{i:Nat}(h:xSY)(s:gm xFO){y:Keyed}(hy:y∈xFO):Di xs[(i)] y:=by
 rw [xzz h] at s hy;show yZ hy z
 ·exact TF
 ·exact xXf s y z
def xud {xs:Wp}{i k:Nat}:xL5 i[i+k]=yaJ:=by
 rw [Qq,O5];congr 1;exact Og _ _
def xt1 {xs:Wp}{i:Nat}:xL5 i xs.size=xFO:=by
 rw [Qq,O5,xZ2]
def xnm {xs:Wp}{i k:Nat}:yaJ++ye5 i k=xFO:=by
 rw [<-MC,Ky]
theorem MA.pushA {κ:KeyKind}{a:Wp}{b:Wp}{out:Wp}{ia ib k:Nat}(h:xt)(hX:lF[xWo xU0][tQ xL7[Di x y]]):xUd[yi[yiV[ia+k]]][ia+k] ib:=by
 show(xBJ MA,[K4,xud]);rw [<-xnm (k:=k)] at h;exact xyy.pushA h hX
theorem MA.pushB {κ:KeyKind}{a:Wp}{b:Wp}{out:Wp}{ia ib k:Nat}(h:xt)(hY:iX[xWo xL7] xU0 xSP):xUd[yi[ybH[ib+k]]] ia[ib+k]:=by
 show(xBJ MA,[K4,xud]);rw [<-xnm (xs:=b) (k:=k)] at h;exact xyy.pushB yA h hY
def xm7 {out xs:Wp}{i:Nat}(h:xSY):xN9 xs i=yi[ynF[i+1]]:=by
 show(yjT,zm Q2 K4 xud[xzz h])
def MA.pushA1 {κ:KeyKind}{a:Wp}{b:Wp}{out:Wp}{ia ib:Nat}(h:xt)(hia:bz ia)(hib:xQG)(hl:Di a[(ia)] b[(ib)]):xUd[xN9 a ia][ia+1] ib:=by
 show Ζ[xm7 hia][h.pushA λ x hx y hy=>?_]
 rw [xzz hia] at hx;show uX[x=a[(ia)]][by simpa using hx][Xf hl[xwd hib h.sb hy]]
def MA.pushB1 {κ:KeyKind}{a:Wp}{b:Wp}{out:Wp}{ia ib:Nat}(h:xt)(hia:bz ia)(hib:xQG)(hl:qU b[(ib)] a[(ia)]):xUd[xN9 b ib] ia[ib+1]:=by
 show Ζ[xm7 hib][h.pushB λ y hy x hx=>?_]
 rw [xzz hib] at hy;show uX[y=b[(ib)]] xVM[x0x hl[xwd hia h.sa hx]]
def MA.doneB {κ:KeyKind}{a:Wp}{b:Wp}{out:Wp}{ia ib:Nat}(h:xt)(e:ib=b.size):xHU[yi yf1++yfZ]:=by
 show(pM MA,(e0:xL7=[])=Mb x92,Ir e0,vex,h.endA)
def MA.doneA {κ:KeyKind}{a:Wp}{b:Wp}{out:Wp}{ia ib:Nat}(h:xt)(e:xKg ia):xHU[yi yf1++yfZ]:=by
 show(pM MA,(e0:xU0=[])=Mb x92,Ir e0,vex,h.endB)
def MA.last {κ:KeyKind}{a:Wp}{b:Wp}{out:Wp}{ia ib:Nat}(h:xt)(e:xKg[ia+1])(hl:iX b.toList ykC xSP):xHU[yi yfZ++yf1]:=by
 show(h2=h.pushB (k:=xIM ib) λ y hy x hx=>hl y[K8[KA hy]] x[Sc[BL xQY ia[NJ[OZ e]]] hx],xOu MA,yp e0[b.toList.drop[ib+(xIM ib)]=[]][Mb[by simp;show Bg [_,_,_] SZ EA SZ Φ τ]] e0 h2,h3=h2.endA,xOv);rw [K4] at h3;show([K4,K4,xt1,xt1],HI[uI[ybH[ib+(xIM ib)]] xL7][by rw [xud,xZ2]],A3 e1 h3 h3)
structure xvg (sq0 st':SortSt):Prop where
 k:kindOf st'=kindOf sq0
 a:xMP=xw6
 p:ymi=xMj
 f:failedOf st'=failedOf sq0
def xvg.refl (sq0:SortSt):xvg sq0 sq0:=zP Ð
def xb8:DQ[xCI Unit]:=sortPriv%PySem.Builtin.setMinGallop
def xrI {prog:RE}{w:RF}{A:RH}{E:BQ}{s:RD}{st0 sq0:SortSt}{g:Nat}{Q:Unit->Gb}(h0:xVN sq0)(h:∀st',xVN st'->x9I):dm[xb8 g]:=by
 refine wpS_modify[o6 (h0.k,h0.a,h0.p,h0.f)]
def xjc {κ:KeyKind}{xs:Wp}(h:ybO){i j:Nat}(hij:xR9)(hj:gv j):A2[iI j[eV i]]:=by
 show([gh hj,gh[Kw hij hj]],AD i j)
 ·exact zy h i j[Cy[NU z hj]][by simpa using hj] z
 ·show uX[i=j][JS hij z] TF
def wv {prog:RE}{w:RF}{A:RH}{E:BQ}{s:RD}{κ:KeyKind}(hO:κ.OneLt){sq0:SortSt}{key:Keyed}{xs:Wp}{i n hint:Nat}{Q:BW->Gb}(hk:VL)(hs:ybO)(Ss:x4D p)(Vm:xO7)(hn:xHt[i+n])(hh:hint<n)
  (h:∀k,xEQ->wW[j<k->A2[Ur[i+j]]]->wW[Z2 k->j<n->WF[Ur[i+j]]]->xyC k):dm[x1L false xs i n hint]:=by
 show SL eb zmz
 ·show(x5P hb,(WQ:A2[Ur[i+q]])=iU)
  have:=xjc hs zlU;cases e:Ur[i+p] with
  |false=>rfl
  |true=>
   show HQ[x3P[eV[i+q]] _ e]
   ·show xm WQ
   ·show yak
 ·show(ZE[h2 ÿ] eb,xLW)
 ·show(ZE[h3 zbc] eb,xLW)
def xoL {prog:RE}{w:RF}{A:RH}{E:BQ}{s:RD}{κ:KeyKind}(hO:κ.OneLt){sq0:SortSt}{key:Keyed}{xs:Wp}{i n hint:Nat}{Q:BW->Gb}(hk:VL)(hs:ybO)(Ss:x4D p)(Vm:xO7)(hn:xHt[i+n])(hh:hint<n)
  (h:∀k,xEQ->wW[j<k->WF[iI zgJ]]->wW[Z2 k->j<n->A2[iI zgJ]]->xyC k):dm[x1L true xs i n hint]:=by
 show SL eb zmA
 ·show x5P hb;have:=xjc hs zlU;show HQ[x3P[eV[i+p]] _ hb]
  ·show yak
  ·show xKb
 ·exact h2 ÿ
 ·exact h3 zbc
def xyj [xVJ] {Q:α->Gb}(hc:c)(h:xFe m1 Q):xFe zjC:=vw hc h
def aS [xVJ] {Q:α->Gb}(hc:¬c)(h:xFe m2 Q):xFe zjC:=w4 hc h
def xv7 {M:Model}{A:RH}{E:BQ}{s:RD}{α:Type}{c:Prop} [xVJ] {m1 m2:xCI α}{Q:α->Gb}{sq0:SortSt}(h1:xFe m1 Q)(h2:xFe m2 Q):xFe zjC:=by
 by_cases hc:c
 ·exact xyj hc h1
 ·exact aS hc h2
def xtf {xs:Wp}{i k:Nat}{x:Keyed}(h:x∈yaJ):∃j,j<k/\∃hj:gv[i+j],x=xs[(i+j)]:=by
 show((j,hj)=List.mem_iff_getElem?.mp h,xCi Ob)
 split at hj
 ·rename_i hjk
  show(xCi NE,ω RQ[rB hj] (j,hjk,yeL,?_));have:=(Ka.mp hj).2;show x7q this
 ·cases hj
def xzR (κ:KeyKind)(a b:Wp)(st0:SortSt){β:Type}(low:Nat)(pr:Wp->xQ9)(c:SX)(sq0:SortSt):Prop:=
 xVN sq0/\(EO r[UF sL r/\xEP]\/∃out ia ib,wk/\xOY ia ib pH/\xt/\bz[ia+1]/\xQG/\low≤ia+ib)
@[elab_as_elim] theorem xzR.two {β:Type} {pr:Wp->xQ9} {P:Fy SX} {c:SX} (h:ye8 b st0 low pr c s) (k1:xTc->∀r d,c=((x9m,d))->xEP->P ((x9m,d))) (k:xTc->∀out ia ib d,xOY ia ib d->xt->bz[ia+1]->xQG->low≤ia+ib->P[bu d]):P c:=by
 obtain⟨c1,c2⟩:=c;obtain⟨hs,⟨r,e,z⟩|⟨out,ia,ib,e,p,m,q1,q2,q3⟩⟩:=h
 ·show xi[k1 hs r È z]
 ·clear k1;show xi[k hs out ia ib _ p m _C q3]
@[elab_as_elim] theorem xzR.go {β:Type} {pr:Wp->xQ9} {P:Fy SX} {c:SX} (h:ye8 b st0 low pr c s/\wk) (k:xTc->∀out ia ib d,xOY ia ib d->xt->bz[ia+1]->xQG->low≤ia+ib->P[bu d]):P c:=by show(xzR.two zqx k,xc h[nomatch o4])
def LoP (κ:KeyKind)(a b:Wp)(sq0:SortSt)(y:Nat){γ δ ε:Type}(r:ForInStep[xAR Wp[Wp×xBk[xBk[γ×δ×ε]]]])(st':SortSt):Prop:=match r with
 | .done c'=>xLj zfd zd9
 | .yield c'=>xLj zfd zd9/\Ω c'.1
def xhk {prog:RE}{w:RF}{A:RH}{E:BQ}{s:RD}{κ:KeyKind}{a:Wp}{b:Wp}(hO:κ.OneLt){sq0:SortSt}{Q:Wp->Gb}(hk:VL)(ha:qa a.toList)(hb:qa b.toList)(sa:yjK)(sb:yjJ)
  (na:bz 0) (nb:xMH 0) (h0:qU b[(0)] a[(0)]) (hl:iX b.toList ykC xSP) (h:∀r st',x9T->xEP->Q r st'):
  dm[xaB a b]:=by
 show Gh x5n
 extract_lets total done lastOfA ia0 ib0
 show xKj nb ?_
 extract_lets out0
 have hM0:xUd out0 0 1:=MA.pushB1 (out:=#[]) (ia:=0) (ib:=0) (sa,sb,Ay) na nb h0;by_cases e1:1=b.size
 ·show vC[by simpa [ib0] using e1][KQ[wK xNg[hM0.doneB e1]]]
 show xS[by simpa [ib0] using e1];by_cases e2:xKg[0+1]
 ·show vC[by simpa [ia0] using e2][KQ[wK xNg[hM0.last e2 hl]]]
 show xWD[aS[by simpa [ia0] using e2] ?_] kA
 extract_lets mg0
 show Gh[rD[λ y c st'=>xLj[y+1][λ out ia ib d=>∃mg,d=((out,ia,ib,mg))] ź/\wk][λ c st'=>x9T/\∃r,UF sL r/\xEP][xGU xNg[FD out0 0 1 Dy hM0[LD na e2] Z5[Xo [] Ep Ep]]]]
 rotate_left
 ·rintro c st' ⟨⟨_,⟨r,e,_⟩|⟨out,ia,ib,_,_,_,q1,q2,q3⟩⟩,en⟩
  ·show lK en
  ·exfalso;show(DA x59 zfG,Au[aX [_,_,_,_,_][Um vF[wz[d5 Δ]]][A7[AV[xCP Hb]]] q1[JN q2[JN q3 zZ]]])
 ·rintro⟨c1,c2⟩ st' ⟨Uh,r,e,hW⟩;dsimp only at e;show A6[KQ[h r st' Uh hW]]
 intro y c st1 _ hy hI;show(ygT λ hst1 out1 ia1 ib1 d e2 hM1 q1 q2 q3=>?_,JK mg1 e2,Gh[rD[λ x c st'=>xLj[y+1+x] zl7 st'/\wk][λ c st'=>xLj[y+1+1] zl7 st'][xGU hst1[FD out1 ia1 ib1 lO hM1 _C q3]]])
 ·intro x c VM _ hx hI;show(ygT λ TN out2 ia2 ib2 d e2 hM2 t1 t2 t3=>?_,dR p2 r2 e2,xKj t2[yhj[xHQ ia2 xIs][x0a ylb x8Y[ha _ Z6] ?_]]);cases e:wH b[(ib2)] a[(ia2)] with
  |true=>
   show ω hM'[hM2.pushB1[vX Iu Tm t1] t2 e][x9D[x3g t2 ?_]];by_cases hz:ib2+1=b.size
   ·show xVY hz TN[hM'.doneB hz]
   ·show Aw vM[xR6 TN[FD _ ia2[ib2+1] lO hM' jc[xD4 t2][dN [_,_,_,_] x8q Φ Iu V2 t3]][xDK TN[FD _ ia2[ib2+1] lO hM'[LS t1][xD4 t2][NM t3]]]]
  |false=>
   show ω hM'[hM2.pushA1[vX Iu Tm t1] t2 e][x0B[x3g[xHQ ia2[vX Iu Tm t1]] ?_]];by_cases hz:xKg[ia2+1+1]
   ·show xVY hz TN[hM'.last hz hl]
   ·show Aw vM[xR6 TN[FD _[ia2+1] ib2 lO hM'[xD4 t1] jc[dN [_,_,_,_] x8q Φ Iu x8b t3]][xDK TN[FD _[ia2+1] ib2 lO hM'[xD4 t1][LS t2][dN [_,_,_,_] V3 Hb xCB[G8 Dk] t3]]]]
 ·rintro c st' ⟨⟨_,⟨r,e,_⟩|⟨out,ia,ib,_,_,_,t1,t2,t3⟩⟩,en⟩
  ·show lK en
  ·exfalso;show(DA x59 zfG,Au[aX [_,_,_,_,_,_][Um CE[d5[.a[G8 uZ] Δ]]][A7[AV[.a V4 uZ]]] t1[JN t2[JN t3 zZ]]])
 intro c VM hI;refine xzR.two zpB λ TN out2 ia2 ib2 d e2 hM2 t1 t2 t3=>?_
 ·show xBI[JH TN r hW]
 show(dR p2 r2 e2,xWD ydf[rD[λ x c st'=>xLj zfd ź/\wk][λ c st'=>xLj zfd ź][xGU TN[FD out2 ia2 ib2[xDS _ _] hM2 t1 t2 t3]]])
 ·clear hM2 t1 t2 t3 hM1 q1 q2 q3;intro x c T5 _ hx hI;show(ygT λ WS out3 ia3 ib3 d e2 hM3 t1 t2 t3=>?_,iV g3 p3 r3 e2)
  extract_lets v1 v2 v3 v4 v5 v6 v7 v8 v9 v10 v11 Wt jp
  have hjp:∀g,gN[yar g][LoP zel y] T5:=by
   intro g;show(Gh[xrI WS λ U2 TM=>yhj t2[wv hO x3H sa ha x8Y[JQ[xZC xIs]][Kl 0[a.size-ia3][Nat.zero_lt_sub_of_lt[Ks t1]]] λ k f1 f2 f3=>?_]],SB f1'[k≤a.size-ia3] f1 hM4[xUd[out3++a.extract ia3[ia3+k]][ia3+k] ib3][hM3.pushA λ x hx y hy=>by
    show(iV zbc[xtf hx],rO[f2 ÿ][gh Xy][Xf this[xwd t2 hM3.sb hy]])])
   dsimp-zeta only
   extract_lets u1 jp2
   have Zd:∀out ia,MA κ a b out ia ib3->∀hia:bz[ia+1],qU b[(ib3)] a[(ia)]->y+1+1≤ia+ib3->gN[x7u out ia] zqG:=by
    intro out ia hM hia RQ YB;show(xKj t2 ?_,hM5=hM.pushB1 xX1 t2 RQ);by_cases hz:ib3+1=b.size
    ·show qk hz[hM5.doneB hz]
    show(xS vM,ω t2'[xD4 t2][yhj[xHQ ia xX1][xoL hO x3H sb hb[ha _ Z6][JQ[Lj t2]][OV t2'] λ k2 d1 d2 d3=>?_]],x4l d1'[k2≤xIM[ib3+1]] d1)
    extract_lets w1 w2 jp3
    have Zc:∀out ib,xt->∀hib:xQG,Di a[(ia)] b[(ib)]->y+1+1≤ia+ib->gN[jp3 () out ib] zqG:=by
     intro out ib hM hib hle YB;show(xKj[xHQ ia xX1] ?_,Ty hM6[hM.pushA1 xX1 hib hle] hw[JW YB[LY[M8 ia] ib]]);by_cases hz:xKg[ia+1+1]
     ·show qk hz[hM6.last hz hl]
     show Aw vM[xR6 zlE[xDK zlE]]
    clear_value jp3
    by_cases VO:k2>0
    ·show(vC VO ?_,hM7=hM5.pushB (k:=k2) λ y hy x hx=>by
      show(iV zbc[xtf hy],rO[d2 ÿ][gh Xy][x0x this[xwd[xHQ ia xX1] hM5.sa hx]]))
     by_cases Vh:ib3+1+k2=b.size
     ·show qk Vh[hM7.doneB Vh]
     ·show(ω UE[LD[Qe t2 d1'] Vh][aS[TD[Vh xxe]][Zc _[ib3+1+k2] hM7 UE ?_[JW YB[Nv[JW nr gk] _]]]],Jw[d3 k2 ρ[x2L UE]][gh UE])
    ·show(Aw VO[Zc _[ib3+1] hM5 t2' ?_[JW YB[Nv nr _]]],Jw[d3 0[KW VO][OV t2']][gh[show xMH[ib3+1+0] from t2']])
   clear_value jp2
   by_cases VO:k>0
   ·show vC VO ?_;by_cases hz:xKg[ia3+k+1]
    ·show qk hz[hM4.last hz hl]
    show xS vM;by_cases Vh:xKg[ia3+k]
    ·show qk Vh[hM4.doneA Vh]
    ·show(ω XT[LD[Qe[Ks xIs] f1'] Vh][aS[TD[Vh xxe]][Zd _[ia3+k] hM4[xD4 XT] ?_[JW t3[LY gk _]]]],Jw[f3 k ρ[x2L XT]][gh XT])
   ·show(Aw VO[Zd _ ia3 hM3 t1 ?_ t3],Jw[f3 0[KW VO][OV xIs]][gh[xHQ[ia3+0] xIs]])
  clear_value jp
  exact xv7 zkS
 ·rintro c st' ⟨q,_⟩;show Ii
 intro c T5 hI;refine xzR.two zpC λ WS out3 ia3 ib3 d e2 hM3 u1 u2 u3=>?_
 ·show xBI[JH WS r hW]
 show Dj g3 p3 r3 rfl e2[wpS_bind[xrI WS λ U2 TM=>xDK TM[FD out3 ia3 ib3 Dy hM3 u1 u2 u3]]]
def MH (κ:KeyKind)(a b out:Wp)(na nb:Nat):Prop:=xyx zpq yb7 yb8 out.toList.reverse
def MH.sa {κ:KeyKind}{a:Wp}{b:Wp}{out:Wp}{na nb:Nat}(h:xJG):gm yb7:=xM7.1
def MH.sb {κ:KeyKind}{a:Wp}{b:Wp}{out:Wp}{na nb:Nat}(h:xJG):gm yb8:=xM8.1
def xoT {xs:Wp}{i:Nat}(h:xSY):xVo i 1=ykO++[xs[(i)]]:=by
 show((h':yc2 i)=xBs,BH Lk[JX h'])
def xwp {κ:KeyKind}{xs:Wp}{i:Nat}(h:xSY)(s:gm[xVo i 1]){y:Keyed}(hy:y∈xVo i 1):Di y xs[(i)]:=by
 rw [xoT h] at s hy;show tW hy
 ·exact Et[Kp.mp s] y z _ Z6
 ·show DA y xs[(i)] jL
  clear hy z;show gB TF
def xv8 {xs:Wp}{i n:Nat}(h:xK8):xL5 i n=uO xFO n i:=by
 rw [Qq,O5]
def xmW {xs:Wp}{i n:Nat}(h:xK8):ykO++xL5 i n=xs.toList.take n:=by
 show([xv8 h],DA n[i+(n-i)][NJ[Lj h]]);rw(config:={occs:=.pos [2]}) [this];rw [Q4]
def xwm {xs:Wp}{i n:Nat}{x:Keyed}(hin:xK8)(hn:xHt n)(h:x∈xL5 i n):∃j,xR9/\∃hj:j<n,x=xs[(j)]:=by
 show(Ir[xv8 hin],Dj zbc rfl[xtf h] (i+j,gk,Mn hj,rfl))
theorem MH.pushA {κ:KeyKind}{a:Wp}{b:Wp}{out:Wp}{na nb at':Nat}(h:xJG)(hat:at'≤na)(hX:iX yb8 (xVU at').toList xSP):xLt[ygC[xVU at']] at' nb:=by
 show xBJ MH;rw [<-xmW hat] at h;show([K4,N6,Nk,MX],xyx.pushA yA h hX)
theorem MH.pushB {κ:KeyKind}{a:Wp}{b:Wp}{out:Wp}{na nb at':Nat}(h:xJG)(hat:at'≤nb)(hY:lF yb7[tQ (xVV at').toList[Di x y]]):xLt[ygC[xVV at']] na at':=by
 show xBJ MH;rw [<-xmW (xs:=b) hat] at h;show([K4,N6,Nk,MX],xyx.pushB h hY)
def xov {out xs:Wp}{i:Nat}(h:xSY):xN9 xs i=ygC[ynF[i+1]]:=by
 show(yjT,[Q2,K4,Nk,xud,xzz h]);rfl
def MH.pushA1 {κ:KeyKind}{a:Wp}{b:Wp}{out:Wp}{i j:Nat}(h:xDm zbZ)(hi:xSQ)(hj:xS0)(hl:qU b[(j)] a[(i)]):xLt[xN9 a i] i[j+1]:=by
 show(Ζ[xov hi][h.pushA x9x λ y hy x hx=>?_],iV q _C[xwm xPV jc hx],DA q i[Nat.eq_of_le_of_lt_succ _C]);clear q1 hx;show gB[xpz yA[xwp hj h.sb hy] hl]
def MH.pushB1 {κ:KeyKind}{a:Wp}{b:Wp}{out:Wp}{i j:Nat}(h:xDm zbZ)(hi:xSQ)(hj:xS0)(hl:Di a[(i)] b[(j)]):xLt[xN9 b j][i+1] j:=by
 show(Ζ[xov hj][h.pushB xPV λ x hx y hy=>?_],iV q _C[xwm xPV jc hy],DA q j[qQ[iO zdz q2] zcH q1]);clear q1 hy;show gB[Xf[xwp hi h.sa hx] hl]
def MH.doneA {κ:KeyKind}{a:Wp}{b:Wp}{out:Wp}{na nb:Nat}(h:xJG)(e:na=0):xHU[ygU[xVU 0++xVV 0]]:=by
 show(DX,pM MH,Ir Ol,xOv,[K4,K4,Nk,xZJ,xZJ,MR,MR,NQ,NQ,Ol,KN],h.endB)
def MH.doneB {κ:KeyKind}{a:Wp}{b:Wp}{out:Wp}{na nb:Nat}(h:xJG)(e:nb=0):xHU[ygU[xVU 0++xVV 0]]:=by
 show(DX,pM MH,Ir Ol,xOv,[K4,K4,Nk,xZJ,xZJ,MR,MR,NQ,NQ,Ol,Ku],h.endA)
def MH.first {κ:KeyKind}{a:Wp}{b:Wp}{out:Wp}{na nb:Nat}(h:xJG)(e:nb=1)(hf:iX ylc a.toList xSP):xHU[ygU[xVV 0++xVU 0]]:=by
 show(DX,h2=h.pushA (at':=0) Bz λ y hy x hx=>hf y hy x[vH xZJ MR hx V1],xOu MH);rw [Ol,K4,N6,Nk,MX] at h2;show(h3=h2.endB,xOv,[K4,K4,Nk,JT],bE[xv8 (xs:=b) Bz] MR NQ h3)
def xzQ (κ:KeyKind)(a b:Wp)(st0:SortSt){β:Type}(low:Nat)(pr:Wp->xQ9)(c:SX)(sq0:SortSt):Prop:=
 xVN sq0/\(EO r[UF sL r/\xEP]\/∃out i j,wk/\xOY zbZ pH/\xDm zbZ/\xSQ/\xS0/\0<j/\i+1+(j+1)+low≤Mg)
@[elab_as_elim] theorem xzQ.two {β:Type} {pr:Wp->xQ9} {P:Fy SX} {c:SX} (h:ye9 b st0 low pr c s) (k1:xTc->∀r d,c=((x9m,d))->xEP->P ((x9m,d))) (k:xTc->∀out i j d,xOY zbZ d->xDm zbZ->xSQ->xS0->0<j->i+1+(j+1)+low≤Mg->P[bu d]):P c:=by
 obtain⟨c1,c2⟩:=c;obtain⟨hs,⟨r,e,z⟩|⟨out,i,j,e,p,m,q1,q2,q3,q4⟩⟩:=h
 ·show xi[k1 hs r È z]
 ·clear k1;show xi[k hs out i j _ p m _C q3 q4]
@[elab_as_elim] theorem xzQ.go {β:Type} {pr:Wp->xQ9} {P:Fy SX} {c:SX} (h:ye9 b st0 low pr c s/\wk) (k:xTc->∀out i j d,xOY zbZ d->xDm zbZ->xSQ->xS0->0<j->i+1+(j+1)+low≤Mg->P[bu d]):P c:=by show(xzQ.two zqx k,xc h[nomatch o4])
def HiP (κ:KeyKind)(a b:Wp)(sq0:SortSt)(y:Nat){γ δ ε:Type}(r:ForInStep[xAR Wp[xBk[xBk[Wp×γ×δ×ε]]]])(st':SortSt):Prop:=match r with
 | .done c'=>xLk zfe zd9
 | .yield c'=>xLk zfe zd9/\Ω c'.1
def xf2 {prog:RE}{w:RF}{A:RH}{E:BQ}{s:RD}{κ:KeyKind}{a:Wp}{b:Wp}(hO:κ.OneLt){sq0:SortSt}{Q:Wp->Gb}(hk:VL)(ha:qa a.toList)(hb:qa b.toList)(sa:yjK)(sb:yjJ)
  (na:bz 0) (nb:xMH 0) (hf:iX ylc a.toList xSP) (hl:qU b[(xIM 1)] a[(xQY)]) (h:∀r st',x9T->xEP->Q r st'):
  dm[xaA a b]:=by
 show(xFK ma hma ma[a.size=ma+1] (xQY,x1Z na),xFK mb hmb mb[b.size=mb+1] (xIM 1,qQ zp9 Η[xDz Ep nb]),SB RQ[qU[b[mb]'(LS x3Y)][a[ma]'(yaG)]][by
  show Gn[xIM 1=mb][NJ[OZ hmb.symm]][xQY=ma][NJ ymj];simp only [e1,e2] at hl;exact hl] hM00[xLt #[][ma+1][mb+1]][by
  unfold MH;show(Gn[a.toList.take[ma+1]=a.toList][Kg[Cy[JQ hma]]][b.toList.take[mb+1]=b.toList][Kg[Cy[JQ hmb]]],Γ ğ (by simpa using sa,by simpa using sb,by simpa using Ay))],xxD hM0[xLt #[a[ma]'(yaG)] ma[mb+1]][hM00.pushA1 yaG[LS x3Y] RQ] x5n)
 extract_lets total done firstOfB na0 nb0
 show SB ena[na0=ma][gY[xQY=ma][NJ ymj]] enb[nb0=mb+1] hmb
 clear_value na0 nb0
 subst ena enb;show xKj[xHQ na0 yaG] ?_
 extract_lets out0
 by_cases e1:na0=0
 ·show xU5 e1[wK xNg[hM0.doneA e1]]
 show xS[TD[e1 xxe]];by_cases e2:mb+1=1
 ·show xU5 e2[wK xNg[hM0.first e2 hf]]
 show(xS[TD[e2 xxe]],B5 i0 i0[na0=i0+1] (na0-1,xZE e1),Gh kA)
 extract_lets mg0
 show Gh[rD[λ y c st'=>xLk[y+1][λ out ia ib d=>∃mg,d=((ia,ib,out,mg))] ź/\wk][λ c st'=>x9T/\∃r,UF sL r/\xEP][xGU xNg (out0,i0,mb,rfl,Dy,hM0,(vX Iu Tm ybu),LS x3Y,Z5,(Dd [_,_,_,_][ZN Iu] Xs[.a xCB Ep] Hb x3Y ybu))]]
 rotate_left
 ·rintro c st' ⟨⟨_,⟨r,e,_⟩|⟨out,i,j,_,_,_,q1,q2,q3,q4⟩⟩,en⟩
  ·show lK en
  ·exfalso;show(DA x59 zfG,Au[aX [_,_,_,_,_][.a[.a[G8 CE][xAE 4]] Δ][xWs JD] q4 zZ])
 ·rintro⟨c1,c2⟩ st' ⟨Uh,r,e,hW⟩;dsimp only at e;show A6[KQ[h r st' Uh hW]]
 clear hM0 hM00;intro y c st1 _ hy hI;show(ygV λ hst1 out1 i1 j1 d e2 hM1 q1 q2 q3 q4=>?_,JK mg1 e2,Gh[rD[λ x c st'=>xLk[y+1+x] zl8 st'/\wk][λ c st'=>xLk[y+1+1] zl8 st'][xGU hst1 (out1,i1,j1,rfl,lO,hM1,vci)]])
 ·intro x c VM _ hx hI;show(ygV λ TN out2 i2 j2 d e2 hM2 t1 t2 t3 t4=>?_,dR p2 r2 e2,Gh[xG4 j2 t2[x56 i2 t1[wpS_bind[x0a ylb x8Y[ha _ Z6] ?_]]]]);cases e:wH b[(j2)] a[(i2)] with
  |true=>
   show ω hM'[hM2.pushA1 t1 t2 e][x9D[x56 i2 t1 ?_]];by_cases hz:i2=0
   ·show xVY hz TN[hM'.doneA hz]
   ·show(B5 i3 i3[i2=i3+1] (i2-1,xZE hz),Aw vM[xR6 TN (_,i3,j2,rfl,lO,hM',xIs,jc,jc,(dN [_,_,_,_,_,_][xJY[xS3 Iu] uZ] V4[.a xCB xOK] V4 t4))[xDK TN (_,i3,j2,rfl,lO,hM',xIs,(UK t2),QY t3,(dN [_,_,_,_,_,_][xJY[xS3 Iu] Dk] xOA[xJY xCB CE] xOA t4))]])
  |false=>
   show ω hM'[hM2.pushB1 t1 t2 e][x0B[x56 j2 t2 ?_]];by_cases hz:j2=1
   ·show xVY hz TN[hM'.first hz hf]
   ·show(B5 j3 j3[j2=j3+1] (j2-1,x1Z t3),Aw vM[xR6 TN (_,i2,j3,rfl,lO,hM',jc,LI t2,Z5,(dN [_,_,_,_,_,_][xJY[TO[Ar Η]] uZ] V4[.a xCB xOK] V4 t4))[xDK TN (_,i2,j3,rfl,lO,hM',(UK t1),LI t2,Z4,(dN [_,_,_,_,_,_][xJY[TO[Ar Η]] Dk] xOA[xJY xCB CE] xOA t4))]])
 ·rintro c st' ⟨⟨_,⟨r,e,_⟩|⟨out,i,j,_,_,_,t1,t2,t3,t4⟩⟩,en⟩
  ·show lK en
  ·exfalso;show(DA x59 zfG,Au[aX [_,_,_,_,_,_][.a[xJY[wz[xAE 4]] uZ] Δ][xWs uZ] t4 zZ])
 intro c VM hI;refine xzQ.two zpB λ TN out2 i2 j2 d e2 hM2 t1 t2 t3 t4=>?_
 ·show xBI[JH TN r hW]
 show(dR p2 r2 e2,xWD ydf[rD[λ x c st'=>xLk zfe ź/\wk][λ c st'=>xLk zfe ź][xGU TN (out2,i2,j2,rfl,xDS _ _,hM2,t1,t2,t3,t4)]])
 ·clear hM2 t1 t2 t3 t4 hM1 q1 q2 q3 q4;intro x c T5 _ hx hI;show(ygV λ WS out3 i3 j3 d e2 hM3 t1 t2 t3 t4=>?_,iV g3 p3 r3 e2)
  extract_lets v1 v2 v3 v4 v5 v6 v7 v8 v9 v10 v11 Wt jp
  have hjp:∀g,gN[yar g][HiP zel y] T5:=by
   intro g;show(Gh[xrI WS λ U2 TM=>x56 j3 t2[wpS_bind[wv (i:=0) (n:=i3+1) (hint:=i3) hO x3H sa ha x8Y[oE[Lr _] t1][P7 _] λ k f1 f2 f3=>?_]]],x4l hM4[xLt[out3++(a.extract k[i3+1]).reverse] k[j3+1]][hM3.pushA f1 λ y hy x hx=>by
    show(iV q _C[xwm f1 jc hx],gD[f3 q q1 jc] Lr[gh[J6 q2 t1]][xpz yA[xwp t2 hM3.sb hy] this])])
   extract_lets u1 u2 jp2
   have Zd:∀out i,xDm[i+1][j3+1]->∀hi:xSQ,Di a[(i)] b[(j3)]->i+1+(j3+1)+(y+1+1)≤Mg->gN[x7u[i+1] out] zqH:=by
    intro out i hM hi hle YB;show(Gh[xG4 j3 t2 ?_],hM5=hM.pushB1 hi t2 hle);by_cases hz:j3=1
    ·show qk hz[hM5.first hz hf]
    show xS vM;clear f3 hle;show(B5 j4 j4[j3=j4+1] (j3-1,x1Z t3),Gh[xG4 Ď[wpS_bind[xoL (i:=0) (n:=j4+1) (hint:=j4) hO x3H sb hb[ha _ Z6][oE[Lr _][Ks t2]][P7 _] λ k2 d1 d2 d3=>?_]]]);dsimp-zeta only
    extract_lets w1 w2 w3 jp3
    have Zc:∀out j,xDm zbZ->∀hj:xS0,0<j->qU b[(j)] a[(i)]->i+1+(j+1)+(y+1+1)≤Mg->gN[jp3 ()[j+1] out] zqH:=by
     intro out j hM hj hj0 RQ YB;show(Gh[xG4 Ď ?_],hM6=hM.pushA1 hi hj RQ);by_cases hz:i=0
     ·show qk hz[hM6.doneA hz]
     clear hM RQ;show(B5 i5 i5[i=i5+1] (i-1,xZE hz),ω hw[JW[LY[LY nr _] _] YB][aS vM[xR6 zlL[xDK zlL]]])
    clear_value jp3
    have VV:∀q,q+1=k2->∀hq:xMH q,qU b[(q)] a[(i)]:=λ q hq Wb=>gD[d2 q[LS[JQ hq]]] Lr[gh Wb] this
    by_cases VO:j4+1-k2>0
    ·show(vC VO ?_,hM7=hM5.pushB (at':=k2) d1 λ x hx y hy=>by
      show(iV q _C[xwm d1[Ks t2] hy],gD[d3 q _C] Lr[gh[NU q2 t2]][Xf[xwp hi hM5.sa hx] this]))
     by_cases Vh:k2=1
     ·show qk Vh[hM7.first Vh hf]
     show xS[TD[Vh xxe]];by_cases hz3:k2=0
     ·show qk hz3[hM7.doneB hz3]
     show xS[TD[hz3 xxe]];clear d2 d3;show(B5 k3 k3[k2=k3+1] (k2-1,xZE hz3),Zc _ k3 hM7[NU d1 t2][Pq[TD[Vh[xUW z]]]][VV k3 rfl _][JW[LY[Nv[Nat.le_succ_of_le d1] _] _] YB])
    ·show EC[aS VO ?_][Zc _ j4 hM5[LI t2][Pq[TD[hz[xUW z]]]][VV j4[JS[xLX[OI VO]] d1] _][JW[LY[Nv nr _] _] YB]]
   clear_value jp2
   have VV:∀q,q+1=k->∀hq:bz q,Di a[(q)] b[(j3)]:=λ q hq Wb=>gD[f2 q[LS[JQ hq]]] Lr[gh Wb] this
   by_cases VO:i3+1-k>0
   ·show vC VO ?_;by_cases hz:k=0
    ·show qk hz[hM4.doneA hz]
    show xS vM;clear f2 f3;show(B5 k3 k3[k=k3+1] (k-1,xZE hz),Zd _ k3 hM4[J6 f1 t1][VV k3 rfl _][JW[LY[LY f1 _] _] t4])
   ·show EC[aS VO ?_][Zd _ i3 hM3 t1[VV i3[JS[xLX[OI VO]] f1] _] t4]
  clear_value jp
  exact xv7 zkS
 ·rintro c st' ⟨q,_⟩;show Ii
 intro c T5 hI;refine xzQ.two zpC λ WS out3 i3 j3 d e2 hM3 u1 u2 u3 u4=>?_
 ·show xBI[JH WS r hW]
 show Dj g3 p3 r3 rfl e2[wpS_bind[xrI WS λ U2 TM=>xDK TM (out3,i3,j3,rfl,Dy,hM3,u1,u2,u3,u4)]]
def xa5 {prog:RE}{w:RF}{A:RH}{E:BQ}{s:RD}{κ:KeyKind}(hO:κ.OneLt){sq0:SortSt}{key:Keyed}{xs:Wp}{i n hint:Nat}{Q:BW->Gb}(hk:VL)(hs:∀p q,p≤q->q<n->A2[iI[i+q][eV[i+p]]])(Ss:x4D p)(Vm:xO7)(hn:xHt[i+n])(hh:hint<n)
  (h:∀k,xEQ->wW[j<k->A2[Ur[i+j]]]->wW[Z2 k->j<n->WF[Ur[i+j]]]->xyC k):dm[x1L false xs i n hint]:=by
 show SL eb zmz
 ·show(x5P hb,(WQ:A2[Ur[i+q]])=iU)
  have:=hs p q hpq hq;cases e:Ur[i+p] with
  |false=>rfl
  |true=>
   show HQ[x3P[eV[i+q]] _ e]
   ·show xm WQ
   ·show yak
 ·show(ZE[h2 ÿ] eb,xLW)
 ·show(ZE[h3 zbc] eb,xLW)
def xal {prog:RE}{w:RF}{A:RH}{E:BQ}{s:RD}{κ:KeyKind}(hO:κ.OneLt){sq0:SortSt}{key:Keyed}{xs:Wp}{i n hint:Nat}{Q:BW->Gb}(hk:VL)(hs:∀p q,p≤q->q<n->A2[iI[i+q][eV[i+p]]])(Ss:x4D p)(Vm:xO7)(hn:xHt[i+n])(hh:hint<n)
  (h:∀k,xEQ->wW[j<k->WF[iI zgJ]]->wW[Z2 k->j<n->A2[iI zgJ]]->xyC k):dm[x1L true xs i n hint]:=by
 show SL eb zmA
 ·show x5P hb;have:=hs p q hpq hq;show HQ[x3P[eV[i+p]] _ hb]
  ·show yak
  ·show xKb
 ·exact h2 ÿ
 ·exact h3 zbc
theorem xou (o:Nat):∀(r:IA) (n:Nat) (xs:Wp),xHt[xCg[o+n]]->
  uI[xSj[r.zipIdx n] a x[ymL[o+ZF]] xs][xVo o n++r++xs.toList.drop[xCg[o+n]]]
 | [],n,xs,h=>by simp
 |x::r,n,xs,h=>by
  show(Ir Ki,(RQ:yc2[o+n])=Cy[Nat.lt_of_add_right_lt h],[List.zipIdx_cons,Rq,xou o r[n+1] _[Bx Pi[dN [_,_,_,_] x8K Dk[HV Ec] Dk h]],QK],Gn[(xs.toList.set[o+n] x).take[o+(n+1)]=xVo o n++CI][zm[show o+(n+1)=o+n+1 by show xG Ec uj uj Ec] Lk[LV RQ][O8 ρ]][(xs.toList.set[o+n] x).drop[xCg[o+(n+1)]]=ye5[o+n][r.length+1]][by
   rw [List.drop_set_of_lt Z5];congr 1;show Cn[Xo [_,_,_][HV Ec] x8K][Xo [_,_,_] x8K[HV Ec]]],[e1,e2,Ki],xNZ)
def xt0 {κ:KeyKind}{xs:Wp}{P X S:IA}(e:xHu[P++X++S]){j:Nat}(hj:ZQ j):eV fJ=zA X[(j)]:=by
 show((RQ:gv fJ)=by
  show(DA zoV Z6,ve3),[gh RQ]);congr 1;show xD1 zmN;simp only [e];rw [NG xVh,Nz Z5];congr 1;exact Og _ _
def xwk {xs:Wp}(e:xHu[P++X++S])(hj:ZQ j):∃RQ:gv fJ,xs[(fJ)]=X[(j)]:=by
 show(SL RQ[gv fJ][by
  show(DA zoV Z6,ve3)][yb RQ],xD1 zmN);simp only [e];rw [NG xVh,Nz Z5];congr 1;exact Og _ _
def xm4 {xs:Wp}{P X S:IA}(e:xHu[P++X++S]){i n:Nat}(hi:xK8)(hn:n≤X.length):xL5[Xi i][Xi n]=uO[X.drop i] n i:=by
 show([xv8[M5.mpr hi],e,BL[Xi n-(Xi i)][n-i][Nat.add_sub_add_left _ _ _]],[JT,-MC,O1,LX[JW hi hn],Ln[by simp;show Ej [_,_,_,_] qZ xYh Φ hn τ]])
def xne {κ:KeyKind}{xs:Wp}{P X S:IA}(e:xHu[P++X++S])(h:ymz)(p q:Nat)(hpq:p≤q)(hq:ZQ q):A2[iI[Xi q][eV[Xi p]]]:=by
 show([xt0 e hq,xt0 e[show ZQ p from Kw hpq hq]],AD p q)
 ·exact zy h p q[NU z hq] hq z
 ·show uX[p=q][JS hpq z] TF
universe SG
namespace SM
theorem xry {α:Type}{p:xx5 α}:∀{ys:FO},(∃y∈ys,WF[p y])->∃l1 y l2,ys=l1++y::l2/\WF[p y]/\∀z∈l1,¬WF[p z]
 | [],h=>by obtain⟨y,hy,_⟩:=h;cases hy
 |z::ys,h=>by
  by_cases hz:WF[p z]
  ·exact yq [] z ys hz[xGR h h]
  ·show((y,hy,hp)=h,yZ hy hy)
   ·show Dv hp hz
   ·show((l1,y,l2,e,é)=xry (y,hy,hp),(z::l1,y,l2,xAm,h1,UV Ģ),yZ hu hu)
    ·exact hz
    ·exact h2 Ģ
theorem xuI {kf:α->κ}(O:x6Z):∀{xs ys:FO},xJC->xs.Perm ys
 | [],ys,h=>by
  cases ys with
  |nil=>show zG
  |cons y ys=>show xPA[yf0[Kj]]
 |x::xs,ys,h=>by
  show(hx=xVK h[Kj],(l1,y,l2,rfl,hy,h1)=xry (x,hx,xSl),Θ e[h we] n1[l1.filter x9Q=[]][MD.mpr h1]);rw [Kv xSl,KP,n1,KN,Kv hy] at e;show((rfl,e2)=MJ e,BU ht[x4o[l1++l2]][λ k=>by
   by_cases hk:xDl k x
   ·show(z=ygW,wB[we=k][x61 _ zbE],bE KP n1 KN e2)
   ·show(xEj e3 xg xp KP xp e3,Sc KP e3)][(List.Perm.cons x[xuI O ht]).trans OE.symm])
universe SM
namespace SG
open PySem PyProof.Rows SM
def xiT {xs:Wp}(h:gv 0):xs[(0)]∈xs.toList.take 1:=by
 show(ZE[xoT (xs:=xs) (i:=0) h] Lr,Dq this)
def xiq {xs:Wp}(h:gv 0):xs[(xs.size-1)]∈xs.toList.drop[xs.size-1]:=Dq[xzz[show gv[xs.size-1] from(UK[xDz Ep h])]]
def xcG {A:RH}{E:BQ}{s:RD}{M:Model}{σ:Type}{x:σ}{Q:dS PUnit σ}{sq0:σ}(h:Q ⟨⟩ x):xFe (set x:StateT σ Sem PUnit) Q:=xI0 wpS StateT.run_set[Kn[Fw h]]
def xhl {prog:RE}{w:RF}{A:RH}{E:BQ}{s:RD}{κ:KeyKind}(hO:κ.OneLt){sq0:SortSt}{i:Nat}{P X Y S:IA}{pw pw2:Nat}{Q:Bool->Gb}(hk:VL)(hf:xGv sq0)(Ss:qa xxw)
  (e:xxw=P++X++Y++S) (hX:ymz) (hY:x3R) (nX:ZQ 0) (nY:0<Y.length)
  (p1:B8[xMj] ((P.length,X.length,pw))) (p2:x9 xMj[i+1] ((xAq,Y.length,pw2)))
  (h:∀st' Z,kindOf st'=oneType'->xGv st'->ymi=x3r zol 1->uI xMP[P++Z++S]->Z.Pairwise Di->W0 Z[X++Y]->xPa st'):
  dm[mergeAt' i]:=by
 show(SB eX[xxw=P++X++(Y++S)][Dq e] eY[xxw=(P++X)++Y++S] e,SB lPX[xAq=yd9] JP lA[xW0=x2V yd9+S.length][by
  show(DA (xw6).toList.length xW0 Z6,x1M this);simp [Lm]],AH hmX[lF X[xBc x]][DB[Ss x[by show uf;simp [hx]]]] hmY[tQ Y[xBc y]][λ y hy=>Ss y[by show uf;simp [hy]]][wpS_bind kA]);dsimp-zeta only;rw [p1,p2];dsimp-zeta only;show(Gh[xcG ?_],(hy0,ey0)=xwk eY (j:=0) nY,Gh[xG4 xAq jc ?_],(ey:(xw6)[xAq]'(LS hy0)=Y[(0)])=ey0,jE ey[xa5 zcm[xne eX hX] Ss[hmY _[Ms _]][VF yd9 xW0[oE lPX.symm[Ks hy0]]] nX λ k f1 f2 f3=>?_],SB g2[∀j (hj:j<k),Di[X[j]'(W3 f1)] Y[(0)]][λ j hj=>Jw[f2 ÿ][xt0 eX[show ZQ j from W3 f1]]] g3[∀j,Z2 k->∀hj:ZQ j,qU Y[(0)] X[(j)]][λ j hj Xy=>Jw[f3 zbc][xt0 eX Xy]],x4l y0le[tQ Y[Di Y[(0)] y]][λ y hy=>by
  show Gp hy;rcases Oh j with rfl|z
  ·exact TF
  ·exact zy hY 0 j nY hj z]);by_cases hz:xL1 k=0
 ·show(xU5 hz[o6[X++Y] hk hf rfl[by show xxw=_;show Dq e] ?_ Ay],Ζ Kp (hX,hY,λ x hx y hy=>?_),HD ÿ rfl[K9.mp hx][Xf[g2 j[W3[xLX hz]]][y0le y hy]])
 show(xS vM,Θ n1[Ng nX] hk1[k≤bC][Nj[N7[TD[hz[Qf z]]]]],(hx0,ex0)=xwk eX (j:=bC) n1,[Lm,Lj f1,P6 nX],Gh[xG4[Xi[bC]] hx0 ?_],jE ex0[xal zcm[xne eY hY] Ss[hmX _[Ms _]][VF[x2V xAq] xW0[Dd [_,_,_,_,_,_][A7[.a[HY x8k] uZ]][HV x8k] _z[JQ lPX][JQ lA.symm]]][Kl[x3Z 1] Y.length[Ng nY]] λ k2 d1 d2 d3=>?_],SB c2[∀j (hj:j<k2),qU[Y[j]'(W3 d1)][X[bC]' n1]][λ j hj=>Jw[d2 ÿ][xt0 eY[Kl j Y.length[W3 d1]]]] c3[∀j,Z2 k2->∀hj:j<Y.length,Di[X[bC]' n1] Y[(j)]][λ j hj Xy=>Jw[d3 zbc][xt0 eY Xy]],SB YO[0<k2][by
  clear d2 d3;rcases Oh k2 with rfl|z
  ·show(Ty a1[c3 0 ρ nY] a2[g3 bC hk1 n1],SB a3[A2[wH Y[(0)][X[bC]' n1]]] a1 a4[WF[wH Y[(0)][X[bC]' n1]]] a2);rw [a3] at a4;clear pw2 Ss p1 p2 hy0 ey0 ey f2 f3 hx0 ex0 a2 a3;cases a4
  ·show xKb] xlast[lF X[Di x[X[bC]' n1]]][DB[by
  show(Gp hx,AD j bC)
  ·exact zy hX j _ hj n1 z
  ·show DA j bC[JS[Nj hj] z];clear hx;show gB TF]])
 dsimp-zeta only;show xS[TD[LJ YO xxe]]
 extract_lets x y jp
 show(SB ex[x.toList=X.drop k][EU[uI[(xw6).extract xRF[xAq]] _] lPX[xm4 eX f1 ρ] xZ2] ey'[y.toList=Y.take k2][by
  show uI[(xw6).extract[xAq][xAq+k2]] _;show(ZE[xm4 eY (i:=0) (n:=k2) Bz d1] NA,[this,MR,NQ])],SB lx[x.size=xL1 k][by rw [<-LO,ex,Kc]] ly[y.size=k2][by rw [<-LO,ey',J7,KY d1]],SB hxa[qa x.toList][rG[hmX p[A3 ex hp[K8 hp]]]] hya[qa y.toList][rG[hmY p[A3 ey' hp[KA hp]]]],SB sx[x.toList.Pairwise Di][Sc ex[hX.sublist[Q3 _ _]]] sy[y.toList.Pairwise Di][Sc ey'[hY.sublist xSg]],SB xge[W9 x.toList[qU Y[(0)] u]][λ u hu=>by
  rw [ex] at hu;show(Gp hu,Sc NY[g3 _ gk _])] hfirst[∀v∈y.toList.take 1,W9 x.toList[qU v u]][λ v hv u hu=>by
  rw [ey',List.take_take,KY YO] at hv;show uX[v=Y[(0)]][by
   show(Gp hv,xCi J7,wB[j=0][xUX[W3 DU]],x0p)][xge Ģ]],SB VV[∀v∈y.toList,W9[x.toList.drop[x.size-1]][qU v u]][λ v hv u hu=>by
  rw [ey'] at hv;show(Gp hv,xCi J7,x0p);rw [ex,lx,MC,QU,Lj hk1] at hu;show uX[u=X[bC]' n1][by
   show(dR ġ[K9.mp hu],xOX Kc,[NY]);congr 1;show(xOX[Nat.sub_sub_self nX],CM[xUX hq])][c2 j[W3 DU]]] hj[∀(r:Wp) (VM:SortSt),kindOf VM=oneType'->arrOf VM=xw6->xGv VM->pendingOf VM=x3r zol 1->xqE κ x y r->gN[jp r] Q VM][by
  intro r VM b1 b2 b3 b4 hW;show((lr:r.toList.length=(xL1 k)+k2)=by
   rw [x4h yA hW.2,JP,LO,LO,lx,ly],xWD[wpS_bind[wpS_modify ?_]] kA,SL hfn[WF (ymK).isNone][CM b3][KQ ?_]);show Q[(ymK).isNone] _;show Ζ hfn[o6[xNK++r.toList++x46] b1 b3 b4 Î ?_]
  ·show uI[xSj[r.toList.zipIdx 0] a x[ymL[xRF+ZF]][arrOf VM]] _;show([b2,xou xRF r.toList 0 xw6[by show([lr,lA],DE [_,_,_,_,_,_,_][Bu EA][qN JD][.a[ir Δ] Hb][.a[.a xYj uZ] xPL] d1[xxJ zcB f1])],NA,lr,e],SB t1[Jv[P++X++Y] S xRF=P++xNK][by
    rw [JT,JT,MS,Kg gk,L6,Ln f1]] t2[uQ[P++X++Y] S[xRF+(xL1 k+k2)]=x46++S][by
    rw [JT[P++X],show xRF+(xL1 k+k2)=xAq+k2 by rw [lPX,Lm,<-Lm k,Lj f1,Lm],<-MC,O1,LX d1]],[t1,t2],xNZ)
  ·show((memr:W9 r.toList[u∈x.toList\/u∈y.toList])=λ u hu=>Kx.mp[Sm.mem yA hW.2 hu],[JT,Kp,Kp],xJP[hX.sublist xSg] (hW.1,hY.sublist[Q3 _ _],λ u hu v hv=>?_)[λ u hu v hv=>?_])
   ·show(dR ġ[K9.mp hv],xOX Kc,[NY],HQ[memr Ģ])
    ·show A3 ex z[Xf[xlast u[K8 z]][c3 _ gk _]]
    ·rw [ey'] at z;show(Gp z,xCi J7,x0p,jA hj[W3 DU][zy hY j _[W3 d1][Mn hq][W3 gk]])
   ·show(dR ġ[K9.mp hu],xOX J7,x0p,a1=g2 q[J6 hq DU],tW hv)
    ·show HQ[memr v z]
     ·exact Xf a1[yd8[xge v z]]
     ·show A3 ey' z[Xf a1[y0le v[KA z]]]
    ·exact Xf a1[y0le v[K8 z]]
  ·have q1:=yfT[(Sm.refl zqI xNK).app hW.2] x46;rw [ex,ey'] at q1;show(DA[xNK++(X.drop k++Y.take k2)++x46][X++Y][by
    rw [<-JT,Ky,JT,Ky]],A3 this q1 q1)])
 clear_value jp
 show AH nx[0<x.size][lx▸Pq hz] ny[0<y.size][ly▸YO][xv7[wpS_bind[xhk zcm hxa hya sx sy nx ny[hfirst _[xiT ny] _ Z6] VV λ r st' Uh hW=>hj r st' yle Uh.a ylf Uh.p hW]]
  (wpS_bind[xf2 zcm hxa hya sx sy nx ny hfirst[VV _ Z6 _[xiq nx]] λ r st' Uh hW=>hj r st' yle Uh.a ylf Uh.p hW])]
def toL {xs:Wp}(k:Nat):xs[k]?=xs.toList[k]?:=Z6
def xho {A' M B:IA}(e:xHu[xD2++B]):uI[mirror xs A'.length pU[(pU-A'.length)/2]][ynP++B]:=by
 show((hs:xHt pU)=by
  show x1M LO;simp,xAa k,[-toL,getElem?_mirror_all hs k,toL,toL,e]);by_cases h:A'.length≤k/\k<pU
 ·show(JK j[M4 Gl],Θ hj[Nat.lt_of_add_lt_add_left o4] e0[x2y[pU]-1-(x2y j)=x2y[M.length-1-j]][by clear h e hs;show Cn[HK [_,_,_,_,_,_,_][xAD 6[Il[xSx xOB]]][.a Hb[xLK 6[.a[AV[AV JD]] uZ]]] Φ τ τ[x75[DF [_,_,_] Η XL AZ[A7 Ey] hj][Dd [_,_,_,_][ZN[A7 Ey]][C7 CE] Δ Dk hj τ]]][Hu [_,_,_,_,_,_,_][qN[.a[AV[AV JD]][xLK 6 Hb]]][.a xOB[xSx[Il xPL]]] Φ SZ τ τ[x75[mn AZ hj][ET zj8 V2 XL hj τ]]]],[Kq h,e0,JT,JT,KM gk,KM gk,L6,L6,Ld[Kw IJ[Ng hj]],Ld[Cy hj],List.getElem?_reverse hj])
 ·show([Kh h,JT,JT],AD k A'.length)
  ·rw [Ld z,Ld z]
  ·rw [KM z,KM z,KM Z5,KM ygX,OB]
def xgU {x:Keyed}(e:xHu[xD2++CI++B]):uI[bubble xs pU[pU-A'.length]][xZx++M++B]:=by
 show((hs:gv pU)=by
  show x1M LO;simp,xAa k,[-toL,getElem?_bubble hs _ IJ k,toL,toL,toL,e,show x62[pU-(pU-A'.length)] by show gH[zg [_,_,_,_][uk qZ][.a xH0 Φ] τ[DF [_,_,_] XL _z Δ IJ]] [_,_,_,_][uk xH0][.a qZ Φ] zcI[NL.K'[ya SZ Δ]]],HI[x9[xD2++CI++B] pU x][V5[JT xD2][KM Z6]],CS);by_cases h1:x62 k
 ·subst h1;rw [Cm,JT,JT,KM ρ];simp
 ·show wG h1;by_cases h2:A'.length<k/\k≤pU
  ·rw [Kq h2,JT xD2,JT,KM[Nj xy],Ld Z4,JT xZx,KM[Cy[Nat.succ_le_of_lt xy]],Ld ygX];congr 1;simp;show Cn[HK zpg[.a V2 V4] zcI[mn AZ xy][NL.K'[ET zj8 V2 XL xy τ]]][Hu [_,_,_,_,_][Il[Bu V2]][.a Ey[d5 Dk]] Ę τ τ[mn Tm xy]]
  ·show(wG h2,AD k A'.length)
   ·rw [JT xD2,JT,Ld z,JT xZx,JT,Ld z]
   ·rw [KM x7P,KM ygX];congr 1;simp
structure At (κ:KeyKind)(sq0:SortSt)(pe:xQV)(l:IA):Prop where
 k:VL
 f:xGv sq0
 p:xMj=pe
 a:xxw=l
 has:qa l
def At.setA (h:Zf l)(e:xHu l')(hm:jH l'[p∈l]):aE[setArr sq0 xs] l':=(h.k,h.f,h.p,e,rG[h.has p[hm ĳ]])
def xwU (hO:κ.OneLt)(h:Zf[P++X++S])(hi:ZQ i)(hj:ZQ j)
  (hq:xyC[wH X[(i)] X[(j)]]):dm[ltAt'[Xi i] fJ]:=by
 show(jE ltAt'_eq kA,EF h1 e1[xwk h.a hi] h2 e2[xwk h.a hj],xKj h1[x3g h2 ?_],Γ ğ[x0a h.k[h.has _ Z6][h.has _ Z6] hq])
def xwf (h:Zf[xD2++B])(ei:x62 i)(ej:j=pU)(hq:∀st',xIh[ynP++B]->x9I):
  dm[reverseSlice' i j]:=by
 subst ei ej;exact wpS_reverse[hq _[h.setA[xho h.a][rG xMV]]]
def xbj (h:Zf[xD2++CI++B])(ei:i=pU)(ej:x62 j)(hq:∀st',xIh[xZx++M++B]->x9I):
  dm[moveDown' i j]:=by
 subst ei ej;show Sc moveDown'_eq[wpS_modify[hq _[h.setA[xgU h.a][rG[by
  simp only [Kx,KD] at hp ⊢;rcases hp with((z|z)|z)|z
  ·show x97[.inl z]
  ·show DD x6B
  ·show x97 x6B
  ·show Dr z]]]]]
def xh8:i'[xCI BW]:=sortPriv%PySem.Builtin.countRun
def xbU (h:ymA)(hx:tQ l[Di y x]):gm[l++CI]:=Sc Kp (h,Z6,λ a ha b hb=>uX[b=x] iU[hx a ha])
def xoD {l:IA}(h:ymA)(hn:n+1=l.length)(hy:y∈l):Di y[l[n]'(LS x7Q)]:=by
 show(Gp hy,AD j n)
 ·exact zy h j n hj[LS x7Q] z
 ·show uX[j=n][JS[LQ[Kk hj hn.symm]] z] TF
structure xsA (κ:KeyKind)(X D0 Eb:IA)(n V':Nat):Prop where
 le:Eb.length=V'+1
 ln:D0.length+Eb.length=n
 eq:W9 Eb[∀v∈Eb,Di u v]
 sd:D0.reverse.Pairwise Di
 lt:W9 Eb[∀d∈D0,qU u d]
 sq0:W0 xCN pT
def xsA.sorted (h:x1s n V'):gm xCN:=Sc Kp (List.pairwise_of_forall_mem_list λ u hu v hv=>h.eq Ģ v hv,h.sd,λ u hu d hd=>yd8[h.lt Ģ d[OF.mp hd]])
def xv5 {X:IA}(hn:ZQ n):X.take[n+1]=pT++[X[(n)]]:=BH Lk[JX hn]
def xsA.next (h:x1s n V')(hn:ZQ n)(RQ:W9 Eb[qU X[(n)] u]):x7G yae [X[(n)]][n+1] 0:=by
 show SL Ss[W9 xCN[qU X[(n)] u]][λ u hu=>by
  show tW hu
  ·exact RQ u z
  ·show(SB T1 zmB e0 zrP,(yA).tr _ _ _[RQ _ e0][h.lt _ e0 u[OF.mp z]])] (rfl,Jm JP OB h.ln,λ u hu v hv=>?_,?_,vdb)
 ·show(Gn zfq zom,vcO)
 ·show Γ N6 MX h.sorted
 ·show(HI zfq,uK,Ss d ?_,tW hd)
  ·exact tD[OF.mpr z]
  ·exact wa[OF.mp z]
 ·show([N6,MX,xv5 hn],Υ[xVL[ylg [X[(n)]]]][ya0 zhT],HI zhU,FU e1[Ss Ô])
def xsA.more (h:x1s n V')(hn:ZQ n)(h1:W9 Eb[Di X[(n)] u])(h2:W9 Eb[Di u X[(n)]]):x7G D0[Eb++[X[(n)]]][n+1][V'+1]:=by
 show(SB T1 zmB e0 zrP,SL hD[∀d∈D0,qU X[(n)] d][λ d hd=>xpz yA[h1 _ e0][h.lt _ e0 d hd]] (BH JP h.le,by rw [JP,<-Lm,h.ln];rfl,λ u hu v hv=>?_,h.sd,vdb))
 ·rcases Kx.mp hu with z|z<;>rcases Kx.mp hv with z2|z2
  ·exact h.eq u z v z2
  ·show uX zon[h2 u z]
  ·show uX zh2[h1 v z2]
  ·show(Gn zh2 zon,vcO)
 ·show tW hu
  ·exact h.lt u z d hd
  ·show uX zh2[hD d hd]
 ·show(Ζ[xv5 hn][xVL[ylg [X[(n)]]]],yz JT JT[(Sm.refl Eb).app[ya0 zhT]],uX zhU[hD x[OF.mp hx]])
def xjy (hO:κ.OneLt){Q:(xAR BW Nat)->Gb}
  (h:Zf[P++X++S]) (hn:Tq=X.length) (ha:AJ a) (han:a≤Tq) (hs:gm[X.take a])
  (hf:∀(x n:Nat) (hn1:xKX) (WA:n<Tq),xWt[f x[bu n]][λ r st'=>st'=sq0/\r=EB[wH[X[n]'(x9V)][X[n-1]'(Mj x9V)]][.done[bu n]][.yield[bu[n+1]]]])
  (hq:∀n,lG a->n≤Tq->gm pT->(n=Tq\/∃RQ:ZQ n,qU X[(n)][X[n-1]'(xZF)])->Q[bu n] sq0):dm[forIn [a:Tq] (bu a) f]:=by
 refine xMG[λ x c st'=>st'=sq0/\c=bu x/\gm[X.take x]] Î[xIS hs]
 ·rintro x c st' hax hxn ⟨rfl,rfl,hs'⟩;refine Np[hf x x[JW ha hax] hxn] ?_;rintro r XN ⟨rfl,rfl⟩;by_cases hc:WF[wH[X[x]'(xPj)][X[x-1]'(Mj xPj)]]
  ·show vw hc[hq x hax[Mz hxn] hs'[zQ xPj hc]]
  ·show(Ζ[Kh hc][Dt Ð],Ζ[xv5[show ZQ x from xPj]][xbU hs'[UV y hy]],qD l1[xoD hs'[by rw [J7,xZD xPj,Of[JW ha hax]]] hy] MW l1[Xf l1[by simpa using hc]])
 ·show(xHi ź rfl hs',pV[BL[max a Tq] Tq[Rh han]] hs'[hq Tq han ρ hs' rh])
inductive CrI {γ:Type} (κ:KeyKind) (X P S:IA) (pe:xQV) (x:Nat) (c:xCZ Jg) (st':SortSt):Prop
 |mk (D0 Eb:IA) (V':Nat) (e:c=oG x V') (hD:x1s x V') (hA:xIh[P++(D0++Eb++xWV)++S]):CrI κ X P S pe x ź
inductive CrQ {γ:Type} (κ:KeyKind) (X P S:IA) (pe:xQV) (n Tq:Nat) (c:xCZ Jg) (st':SortSt):Prop
 |mk (m:Nat) (D0 Eb:IA) (V':Nat) (e:c=oG m V') (h1:m≤Tq) (h2:n+1≤m) (hD:x1s m V') (hA:xIh[P++(D0++Eb++xxI)++S]):CrQ κ X P S pe n Tq ź
def xgi (hO:κ.OneLt)(h:Zf[P++X++S])(XG:SK=P.length)(hn:Tq=X.length)(h1:AJ Tq)
  (hq:∀m Y st',AJ m->m≤Tq->x7R m->x3R->W0 Y[X.take m]->xIh[P++(Y++xxI)++S]->Q[some m] st'):dm[xh8 SK Tq]:=by
 subst XG;show xxD up[gL sq0 X[Zf[P++X++S]][∀(hXn:Tq=X.length) (n:Nat) (hn1:xKX) (WA:n<Tq) {Q:xMS->Gb},xyC[wH[X[n]'(Kk WA hXn)][X[n-1]'(Mj[Kk WA hXn])]]->dm[ltAt'[Xi n][Xi n-1]]]][by
  intro sq0 X h hn n hn1 WA Q hq;show Sc[BL[Xi n-1][Xi[n-1]][P6 hn1 _]][xwU hO h x9V[Mj x9V] hq]][xjy hO h hn[JZ 1] h1 Î λ n hn1 WA hs hor=>?_]
 ·cases X with
  |nil=>simp
  |cons x X=>simp
 ·intro x n hn1 WA;show(Gh[up h hn n hn1 WA ?_],x3G)
  ·show xDZ
  ·show xDZ
 dsimp-zeta only;show SB same[P++X++S=P++(pT++ygY)++S][by rw [Ky]] lt[BF pT n][by rw [J7,KY[JW WA x7Q]]]
 by_cases e1:n=Tq
 ·show xU5 e1[hq n pT sq0 hn1 WA lt hs Ay[same▸h]]
 show(vQ[aS[TD[e1 xxe]] ?_] RQ X1[hor.resolve_left e1],Ty hn5[Kk RQ hn.symm] h00[Kw Bz RQ])
 extract_lets v1 v2 jp
 have hjp:∀st1,aE st1[P++(x4n++ygY)++S]->(W9 pT[∀v∈pT,Di u v])->gN yar Q st1:=by
  intro st1 hA1 heq;show(Gh x5n,SB hprev[(X[n-1]'(xZF))∈pT][Sc List.mem_take_iff_getElem[ZK[n-1][yc1 (Ng hn1,xZF)]]] hX0[W9 pT[qU X[(n)] u]][λ u hu=>x0x X1[heq _ hprev Ģ]],AH hD0[x7G x4n [X[(n)]][n+1] 0][by
   refine(rfl,BH OB lt,λ u hu v hv=>?_,Sc MX hs,vdb)
   ·show(Gn zfq zom,vcO)
   ·show(HI zfq,FU e1[hX0 d[OF.mp hd]])
   ·show([MX,xv5 RQ],CJ[ya0 zhT] e1 zhU,FU e1[hX0 Ô])] hA0[aE st1[P++(x4n++[X[(n)]]++X.drop[n+1])++S]][by
   show([JT x4n,OQ,-Ll RQ],hA1)][wpS_bind[rD[CrI κ X P S pe][CrQ κ X P S pe n Tq][yq _ _ 0 hD0 hA0]]])
  ·rintro x c VM hax hxn ⟨D0,Eb,V',rfl,hD,hA⟩;show((hax':n+1≤x)=hax,Ty T2 hD.le Su hD.ln,SB hxX[ZQ x] xPj lC[Tq=CZ[D0++Eb] xWV][by show([JP,JP,Kc,Su,xZC hxX],hn)],(hc1:(D0++Eb++xWV)[x]'(x9E)=X[(x)])=by
    rw [Nz[kh[JQ Su]],NY];simp only [JP,Su,Nn,NA],Ty hE[LS[JQ T2.symm]] XD[J6[MN n] hax'],SB YN[x-1=D0.length+V'][by rw [<-Su,T2];rfl] hc2[(D0++Eb++xWV)[x-1]'(Mj x9E)=Eb[V']' hE][by
    rw [NG[Γ JP Su[Ng XD]],Nz[Sc YN gk]];simp only [YN,L6]],xxD hEl[(Eb[V']' hE)∈Eb][Ms _][up hA lC x XD hxn ?_],yhv hc1 hc2);cases e:wH X[(x)][Eb[V']' hE] with
   |true=>
    show(vC zd2,Θ hN[hD.next hxX λ u hu=>x0x e[hD.eq _ hEl Ģ]] fin[∀T5,aE T5[ybN[P++D0]++(xWV++S)]->aE T5[P++(yae++[X[(x)]]++X.drop[x+1])++S]][λ T5 h3=>by
     show([JT yae,OQ,-Ll hxX],xxm h3)])
    by_cases hneq:V'>0
    ·show vC hneq[wpS_bind[xwf zrb λ T5 hA3=>KQ[yq _ _ 0 hN[fin T5 hA3]]]]
    ·show(tB zrc[by
      show((y,e)=yjn[T2.trans[xUW[OI hneq]]],xAm)][aS hneq[KQ[yq _ _ 0 hN[fin VM ?_]]]] hrev,xxm hA)
   |false=>
    show(xS Z9,jE[P6 XD][xwU hO hA[Mj x9E] x9E ?_],yhv hc1 hc2);cases e2:wH[Eb[V']' hE] X[(x)] with
    |true=>exact x9D[KQ[cF x D0 Eb V'[Ks hxn] hax' hD hA]]
    |false=>
     show(Aw Z9[KQ[yq D0 _[V'+1][hD.more hxX[λ u hu=>Xf e2[hD.eq _ hEl Ģ]][λ u hu=>Xf[hD.eq Ģ _ hEl] e]] ?_]],[-JT D0,JT[D0++Eb],OQ,-Ll hxX],hA)
  ·rintro c VM ⟨D0,Eb,V',rfl,hD,hA⟩;show(DA[max[n+1] Tq] Tq[Rh hn5],(this':max v1 Tq=Tq)=this);rw [this'] at hD hA ⊢;exact cF Tq D0 Eb V' ρ hn5 hD hA
  ·rintro c VM ⟨m,D0,Eb,V',ec,hm1,hm2,hD,hA⟩;subst ec;show Ty T2 hD.le Su hD.ln;dsimp-zeta only
   extract_lets r1 r2 r3 r4 jp3
   show SB er3[m=r3] rfl er4[V'=r4] rfl
   clear_value r3 r4
   subst er3 er4;have Zc:∀T5,aE T5[ybN[P++D0]++(xxI++S)]->gN[jp3 ()] Q T5:=by
    intro T5 hA3;show ω hm0[J6[MN n] hm2][wpS_bind[xwf (M:=yae) (xxm hA3) rfl[xLF OB Su][UV U2 Y0]]];rw [N6,MX] at Y0;show(SB lY[CZ Eb D0.reverse=m][by rw [JP,OB,MM,Su]] lYX[Tq=CZ xCN xxI][by show([JP,lY,Kc,Lj[JW hm1 x7Q]],hn)],xxD hA5[aE U2[P++(xCN++xxI)++S]][xxm Y0][xjy hO hA5 lYX hm0 hm1 Î λ n2 hn3 hn4 Vj _=>?_])
    ·show Γ[Ln[JQ lY.symm]][Kg[JQ lY]] hD.sorted
    ·intro x n2 hn3 hn4;show(Gh[up hA5 lYX n2 hn3 hn4 ?_],x3G)
     ·show xDZ
     ·show xDZ
    refine KQ[hq n2 _ U2[JW hm0 hn3] hn4[by rw [J7,<-lYX,KY hn4]] Vj Î]
    ·show(Gn[Jv xCN xxI n2=xCN++uO xxI n2 m][by
      rw [MS,Kg[oE lY hn3],lY]][X.take n2=X.take m++uO xxI n2 m][by
      rw [<-Q4,Lj hn3]],Γ ğ[hD.sq0.app Ay])
    ·show(HI[uQ xCN xxI n2=X.drop n2][by
      rw [Ra,Mb[oE lY hn3],KN,lY,MC,Lj hn3]],xCl e1 Ky hA5)
   clear_value jp3
   by_cases hneq:V'>0
   ·show vC hneq[wpS_bind[xwf zrb λ T5 hA3=>Zc T5 hA3]]
   ·show(tB zrc[by
     show((y,e)=yjn[T2.trans[xUW[OI hneq]]],xAm)][aS hneq[Zc VM ?_]] hrev,xxm hA)
 clear_value jp
 by_cases hgt:n>1
 ·show(vC hgt ?_,jE[P6 hn1][xwU hO h h00 xZF ?_]);dsimp only;cases er:wH[X[0]' h00][X[n-1]'(xZF)] with
  |true=>exact x9D[KQ[hq n pT sq0 hn1 WA lt hs Ay[same▸h]]]
  |false=>
   show Aw Z9[wpS_bind[xwf ?_ rfl[by rw [lt]] λ T5 hA3=>hjp T5[xxm hA3] λ u hu v hv=>?_]]
   ·show((e0:P++pT++(ygY++S)=P++X++S)=by rw [JT P,<-JT pT,Ky,<-JT],Sc e0 h)
   ·show(FR l1[xoD hs[by rw [lt,Of hn1]] hu] MW l1,Gp hv,x0p,BU l2[Di[X[0]' h00][X[j]'(W3[oE lt[Ks RQ]])]][by
     rcases Oh j with rfl|z
     ·exact TF
     ·show gD[zy hs 0 j[NU z hj] hj z] MW MW this][Xf l1[Xf er l2]])
 ·show Aw hgt[hjp sq0 ?_ λ u hu v hv=>?_]
  ·show(wB zpD,Ir same,HI[(X.take 1).reverse=X.take 1][by
    cases X with
    |nil=>rfl
    |cons x X=>rfl],xFk h)
  ·show(wB zpD,Gp hu,dR q YW[K9.mp hv],Gn[j=0][xUX[lt▸hj]][q=0][xUX[lt▸YW]],vcO)
inductive BiI {γ:Type} (κ:KeyKind) (Y R P S:IA) (pe:xQV) (ok k:Nat) (c:yih) (st':SortSt):Prop
 |mk (e:c=bu ()) (Y':IA) (h1:Y'.length=k) (h2:ylO) (h3:W0 Y'[Y++xQa k ok]) (h4:xIh[P++(Y'++xRT)++S]):BiI κ Y R P S pe ok k ź
inductive BjI {γ:Type} (st':SortSt) (k:Nat) (L U:cm) (x:Nat) (c:xCZ Jg) (XN:SortSt):Prop
 |mk (e0:XN=st') (l r:Nat) (e:c=oG l r) (h1:l≤r) (h2:r≤k) (h3:r-l≤k-x) (h4:∀i,i<l->L i) (h5:∀i,HE r->U i):BjI st' k L U x c XN
inductive BjQ {γ:Type} (st':SortSt) (k:Nat) (L U:cm) (c:xCZ Jg) (XN:SortSt):Prop
 |mk (e0:XN=st') (l r:Nat) (e:c=oG l r) (h1:l≤k) (h4:∀i,i<l->L i) (h5:∀i,HE l->U i):BjQ st' k L U c XN
def xgo (hO:κ.OneLt)(h:Zf[P++(Y++R)++S])(XG:SK=P.length)(hY:x3R)(lY:x7R ok)(h1:AJ ok)(hok:lG ok)(hn:n≤ok+R.length)
  (hq:∀Y' st',Y'.length=n->ylO->W0 Y'[Y++xQa n ok]->xIh[P++(Y'++xOd n)++S]->xPa st'):dm[binarySort' SK n ok]:=by
 subst XG;show Gh[Np[xMG[BiI κ Y R P S pe ok] (Q:=BiI κ Y R P S pe ok n) ?step ?fin ?init] ?post]
 case post=>
  rintro c st' ⟨rfl,Y',e1,e2,e3,e4⟩;show xBI[hq Y' st' zcE e4]
 case init=>
  show(Bj[max ok 1=ok][Nat.max_eq_left h1],Ζ e (rfl,Y,lY,hY,à))
  ·show bE Nn Ol Ku Ay
  ·show Γ Nn MR h
 case fin=>
  rintro c st' ⟨rfl,Y',e1,e2,e3,e4⟩;rw [Rh[ymk (hok,JW h1 hok)]] at e1 e3 e4;show pK rfl Y' zcE e4
 case step=>
  rintro k c st' hak Wj ⟨rfl,Y',e1,e2,e3,e4⟩;show(SB hak'[ok≤k][JW[Nat.le_max_left _ _] hak] hkr[xOg[k-ok]][VZ zpg[xQB V4] ST hn Wj[xxJ zcB hak']],SB lC[CZ Y' xRT=k+(R.length-(k-ok))][xLF Kc e1] hkC[k<CZ Y' xRT][lC▸Mm[OV hkr]]);clear lC;show SB hx[(Y'++xRT)[k]' hkC=R[(k-ok)]][by
   rw [Nz[JQ e1],NY];simp only [e1,Nn,NA]] hy[∀m (hm:m<k),(Y'++xRT)[m]'(NU hm hkC)=Y'[m]'(xxC hm)][λ m hm=>NG[xxC hm]]
  extract_lets v1 v2
  let L0:cm:=xD3[∀hik:i<k,Di[Y'[i]'(xxC hik)] R[(k-ok)]]
  let U0:cm:=xD3[∀hi:i<k,qU R[(k-ok)][Y'[i]'(xxC hi)]]
  show Gh[Np[xMG[BjI st' k L0 U0] (Q:=BjQ st' k L0 U0) ?istep ?ifin ?iinit] ?ipost]
  case iinit=>exact FD rfl 0 k Bz ρ[LK _ 0][uo Ď hi[Qx _]][λ i h1 h2=>absurd h2[jr h1]]
  case ifin=>
   rintro c XN ⟨rfl,l,r,rfl,hlr,hrk,hm,XG,hhi⟩;show uX[l=r][xk4 hlr hm][Io rfl l l hrk XG hhi]
  case istep=>
   rintro x c XN _ hxk ⟨rfl,l,r,rfl,hlr,hrk,hm,XG,hhi⟩;dsimp only;by_cases Uq:l≥r
   ·show DA l r[JS hlr Uq];clear hlr;show gB[xyj ρ[KQ[Io rfl l l hrk XG hhi]]]
   ·show(SB hmr[(l+r)/2<r] Z5 hml[l≤(l+r)/2][zg [_,_,_][ZN[Ar Ey]][C7[D8 oq 2]] hmr zj],ω hmk[J6 hmr hrk][aS Uq[wpS_bind[xwU hO e4 hkC[NU hmk hkC] ?_]]],yhv hx[hy _ hmk]);cases X1:wH R[(k-ok)][Y'[(l+r)/2]'(xxC hmk)]
    case true=>
     show(vC rfl[KQ[FD rfl l[(l+r)/2] hml[Ks hmk][JW[Ni[Nj hmr] _][Sc QU[Ni hm 1]]] XG[Ο i Ç]]],AD[(l+r)/2] i)
     ·exact x0x X1[zy e2 _ i[xxC hmk][xxC h2] z]
     ·show uX[i=(l+r)/2][JS z h1] X1
    case false=>
     show(Aw Z9[KQ[FD rfl[(l+r)/2+1] r hmr hrk[JW[QF[NM hml] _][Ni hm 1]][Ο i Ç] hhi]],AD i[(l+r)/2])
     ·exact Xf[zy e2 i _[xxC h2][xxC hmk] z] X1
     ·show DA i[(l+r)/2][JS[LQ h1] z];clear h1;show gB X1
  case ipost=>
   rintro c XN ⟨rfl,l,r,rfl,Ys,XG,hhi⟩;show(SB hd[xRT=R[(k-ok)]::xOd[k+1]][by
    show([Ll hkr],[Rf hak'])] hA[aE XN[(P++xGS)++xGT++[R[(k-ok)]]++(xOd[k+1]++S)]][by
    show(wL hd e4 e0[(P++xGS)++xGT++[R[(k-ok)]]++(xOd[k+1]++S)=P++(Y'++R[(k-ok)]::xOd[k+1])++S][by
     show([JT P,Ky],xNZ)],Sc e0 e4)],AH lt[BF xGS l][by rw [J7,e1,KY Ys]] ld[BF xGT[k-l]][by rw [Kc,e1]][wpS_bind[xbj hA[by rw [JP,lt,ld,Lm,Lj Ys]][UU lt] λ T5 hA3=>KQ (rfl,xGS++[R[(k-ok)]]++xGT,à,à)]])
   ·show([JP,JP,lt,ld],et[l+1+(k-l)=k+1] Nat.add_right_comm[Lj Ys])
   ·show(SB m1[tQ xGS[Di y R[(k-ok)]]][λ y hy=>by
     show(Gp hy,xCi lt,Sc MW[XG ÿ[W3 Ys]])] m2[tQ xGT[Di R[(k-ok)] y]][λ y hy=>by
     show(Gp hy,xCi ld,Sc NY[yd8[hhi _ gk[Mn hj]]])],yz JT Kp (e2.sublist xSg,vda))
    ·show([OQ,Mu],AX m2[e2.sublist[Q3 _ _]])
    ·show tW hb
     ·show DA b R[(k-ok)] jL
      clear hb;show gB[m1 a ha]
     ·exact Xf[m1 a ha][m2 b z]
   ·show((e5:xQa[k+1] ok=xQa k ok++[R[(k-ok)]])=by
     rw [Rf hak',xv5 hkr],[e5,-JT],CJ[xVL[e3.app[Sm.refl [R[(k-ok)]]]]] sw[W0[xGS++([R[(k-ok)]]++xGT)][xGS++(xGT++[R[(k-ok)]])]][yia[ya0 yA[λ y hy x hx=>by
     show DA y R[(k-ok)] xVM
     clear hy;show(xFX,Gp hx,xCi ld,Sc NY[hhi _ gk[Mn hj]])]]])
    rw [<-JT,<-JT,Ky] at sw;exact sw
   ·show xxm hA3
def dP (o:Nat):xCf->Dn
 | []=>[]
 |r::Rs=>yhw o::dP[xCg o] Rs
theorem xvF (o):∀Rs,BF[dP o Rs] Rs.length
 | []=>rfl
 |r::Rs=>gK[aO[dP _ Rs] 1=_][xvF _ Rs]
theorem xvE (o):∀As Bs,dP o[As++Bs]=dP o As++dP[xMf o] Bs
 | [],Bs=>by simp [dP]
 |r::As,Bs=>by
  show yhw o::dP[xCg o][As++Bs]=yhw o::(dP[xCg o] As++_);rw [xvE _ As Bs,LG,JP,Lm]
theorem xmn {α β:Type}(f:α->β):∀(l:FO) (i:Nat),(ylA).map f=yml f i
 | [],_=>rfl
 |a::l,0=>rfl
 |a::l,i+1=>yM[f a::(ylA).map f=f a::yml f i][xmn f l i]
abbrev two (e:xBk Jg):Jg:=((e.1,Az e))
def Uk (Rs:xCf)(pe:xQV):Prop:=ykp=dP 0 Rs
theorem Uk.size {pe:xQV}(h:x0b pe):pe.size=Rs.length:=by
 have:=jz h;show(xJH xvF LO this,xB4)
theorem Uk.push (h:x0b pe)(e1:SK=Rs.flatten.length)(e2:n=r.length):Uk[Rs++[r]][pe.push ((SK,n,pw))]:=by
 show xBJ Uk;subst e1 e2;rw [Q2,J8,h,xvE,Lr];rfl
theorem Uk.modify (h:x0b pe)(i)(hf:∀e,two[f e]=two e):x0b[pe.modify i f]:=by
 show(xBJ Uk,[-h],xAa j,[KS,KS],xD1[(pe.modify i f).toList[j]?=DM i j[(ygG).map f] ygG][by
  rw [Qg,Qg,Array.getElem?_modify]])
 split
 ·cases e:ygG with
  |none=>rfl
  |some v=>show yM[m7[two[f v]][two v]] hf
 ·rfl
theorem Uk.at (h:Uk[As++X::Bs] pe)(hi:x6o i):∃pw,B8 pe[xVc X.length pw]:=by
 subst hi;show(pM Uk,Bj[x9 ykp As.length ynN][by
  rw [h,xvE,KM[Sc xvF ρ],xvF,Nn,Lr];rfl],TV KS Qg);cases e2:pe[As.length]? with
 |none=>show lK e2
 |some v=>
  show(wL e2 e e3[two v=ynN][Kr e],(v1,v2,v3)=v,Ty e4[congrArg Prod.fst e3] e5[congrArg Prod.snd e3]);dsimp only at e4 e5;clear e e2 e3;subst e4 e5;exact dJ v3
def Uk.merge (h:Uk[As++X::Y::Bs] pe)(hi:x6o i)(hZ:Z.length=xBz):
  Uk[As++Z::Bs][x3r[pe.setIfInBounds i[xVc xBz pw]] i 1]:=by
 subst hi;show(hs=h.size,xBJ Uk);rw [JP,Ki,Ki] at hs;show(HI[uI[x3r[pe.setIfInBounds zqb] As.length 1][(pe.toList.set zqb).eraseIdx[As.length+1]]][xCU Array.eraseIdxIfInBounds[dif_pos[Bx Pi[HJ[A7 xOK] ST Iu ST[JQ hs.symm]]]] Array.toList_eraseIdx QK],[e1,xmn,List.map_set,h,xvE,xvE]);show((dP 0 As++((xMf 0,X.length))::((xMf 0+X.length,Y.length))::dP[x2V[xMf 0+X.length]] Bs).set As.length[yi7 xBz]).eraseIdx[As.length+1]=dP 0 As++((xMf 0,Z.length))::dP[xMf 0+Z.length] Bs;show(lA=xvF 0 As,[List.set_append,Kh[QX.mpr[JQ lA]],lA,Nn,List.set_cons_zero,List.eraseIdx_append_of_length_le[Nat.le.intro[congrFun[congrArg HAdd.hAdd lA] 1]],lA,BL[As.length+1-As.length] 1[Og _ 1],hZ,Lr],yM[_++(_::dP _ Bs)=_] Lm)
structure xeN (κ:KeyKind)(a0:IA)(sq0:SortSt)(L:Nat)(Rs:xCf)(tail:IA):Prop where
 at':∃pe,Zf[xWn tail]/\x0b pe
 so:∀r∈Rs,r.Pairwise Di/\0<r.length
 len:Rs.flatten.length=L
 st':W0[xWn tail] a0
def xk7 (hO:κ.OneLt)(h:xW5 sq0 L[As++X::Y::Bs] tail)(hi:x6o i)
  (hq:∀st' Z,xW5 st' L[As++Z::Bs] tail->xPa st'):dm[mergeAt' i]:=by
 show(((pe,hA,hP),so,hlen,Uh)=h,EF sX nX[so X Z6] sY nY[so Y Z6],(ef:yaE[As++X::Y::Bs]=As.flatten++X++Y++(yio))=xNZ,EF pw p1[hP.at hi] pw2 p2[Uk.at (As:=As++[X]) (X:=Y) (Bs:=Bs) (pe:=pe) (i:=i+1) yeM[by simp [hi]]],xhl hO (P:=As.flatten) (X:=X) (Y:=Y) (S:=yio) (pw:=pw) (pw2:=pw2) hA.k hA.f[rG[hA.has p[A3 hA.a hp hp]]][by rw [hA.a,ef]] sX sY nX nY[Sc hA.p p1][V5 hA.p p2] λ st' Z b1 b2 b3 b4 b5 b6=>?_,SB lZ[Z.length=xBz][by rw [x4h yA b6,JP]] ez[yaE[As++Z::Bs]=As.flatten++Z++(yio)] xNZ,SL st1[W0[yaE[As++Z::Bs]][yaE[As++X::Y::Bs]]][bE ez ef[JT As.flatten X][(yia b6).app Ay]][hq st' Z (DT (vbq,by rw [b4,ez],rG[hA.has p[Sm.mem yA st1 hp]]),UV r hr,?_,st1.trans Uh)])
 ·show Sc hA.p[hP.merge hi lZ]
 ·show tW hr
  ·exact so r FN
  ·clear b4 b6 ez st1 hr;show yZ z z
   ·show AX b5[Dd [_,_,_][.a Ep Φ] JA zcV nY[JQ lZ.symm]]
   ·exact so r FN
 ·rw [<-hlen];simp [lZ,Lm]
theorem xsU {α:Type}:∀{Rs:FO} {j:Nat},j+1<Rs.length->∃As X Y Bs,Rs=As++X::Y::Bs/\x6o j
 | [],j,h=>Ed
 | [x],j,h=>Ed
 |x::y::Rs,0,_=>([],x,y,Rs,Ú)
 |x::Rs,j+1,h=>xxx As X Y Bs e hj[xsU (Rs:=Rs) (j:=j) (by show Ed;assumption)] (x::As,X,Y,Bs,xAm,by simp [hj])
theorem xoN:∀{Rs:xCf},mq r Rs[0<r.length]->Rs.length≤Rs.flatten.length
 | [],_=>ρ
 |r::Rs,h=>by
  show(oO[h r Z6][xoN (Rs:=Rs) λ q hq=>h q[by simp [hq]]],az LG Ki,x3 [_,_,_][.a zcV] Φ Φ Ç)
inductive AlI {γ:Type} (κ:KeyKind) (a0:IA) (x:Nat) (c:xCZ Nat) (st':SortSt):Prop
 |mk (Rs:xCf) (tail:IA) (L:Nat) (e:c=bu L) (h:x2g tail) (hx:x≤L):AlI Ĳ x ź
inductive AlQ {γ:Type} (κ:KeyKind) (a0:IA) (c:xCZ Nat) (st':SortSt):Prop
 |mk (Rs:xCf) (L:Nat) (e:c=bu L) (h:x2g []):AlQ Ĳ ź
inductive xnQ {γ:Type} (κ:KeyKind) (a0:IA) (L:Nat) (t:IA) (n:Nat) (c:yih) (st':SortSt):Prop
 |mk (e:c=bu ()) (Rs:xCf) (h:x2g t) (hl:lG Rs.length):xnQ Ĳ L t n ź
inductive Ag {γ:Type} (κ:KeyKind) (a0:IA) (L:Nat) (t:IA) (c:yih) (st':SortSt):Prop
 |mk (e:c=bu ()) (Rs:xCf) (h:x2g t):Ag Ĳ L t ź
def SrP (κ:KeyKind)(a0:IA)(x:Nat){γ:Type}(r:ForInStep[xCZ Nat])(st':SortSt):Prop:=match r with
 | .done c'=>AlQ Ĳ zd9
 | .yield c'=>AlI Ĳ[x+1] zd9
def xky (h:1<n):n-2+1<n:=yj [_,_] Jr Iu[YF C4[Ar AZ] xyI h]
def wpS_sortAll (hO:κ.OneLt)(hk:VL)(hf:xGv sq0)(hp:xMj=#[])(Ss:qa xxw)
  (h:∀st',xGv st'->yj3 Di->W0 (xMP).toList xxw->x9I):dm sortRuns':=by
 show(xFK a0 ha0 a0[xxw=a0] Dy,xxD hsz[xW0=a0.length][by rw [<-ha0,LO]] kA)
 extract_lets size Ve SK
 have hsize:size=a0.length:=hsz
 clear_value size
 show xxD tot[∀{st' L Rs tail},x2g tail->L+tail.length=size][λ {st' L Rs tail} hR=>gD[x4h yA hR.st'] JP hR.len[this.trans hsize.symm]][rD[AlI Ĳ][AlQ Ĳ] ?_]
 rotate_left
 ·rintro c st' ⟨Rs,tail,L,rfl,hR,hx⟩;show(t=tot hR,uX[tail=[]][L8.mp[(Oj t).trans[Qf hx]]][JH Rs L hR])
 ·exact yq [] a0 0[JH[ZK #[] (hk,hf,hp,ha0,λ p hp'=>Ss p[Sc ha0 hp'])][xGR h h] Ay] ρ
 ·rintro c VM ⟨Rs,L,rfl,hR⟩;show Ty hlen[tot hR] Uq[xoN (Rs:=Rs) λ r hr=>(hR.so r hr).2]
  rw [hR.len] at Uq;show Gh[rD[λ x=>xnQ Ĳ L [][x0L[size-x]]][xnQ Ĳ L [] 1][xJv Rs hR[JW Uq[oE hlen[yke _]]]]]
  ·rintro x c T5 _ hx ⟨rfl,XY,SN,SV⟩;show(Gh kA,(pe,hA,hP)=SN.at',(hs4:xUx T5=XY.length)=Sc hA.p hP.size)
   extract_lets p i before i2
   by_cases h1:p.size≤1
   ·show(CJ[xyj h1[KQ[xJv XY SN ?_]]] UR[xUx T5≤1] h1,M3 hs4.symm UR)
   ·show(xS h1,SB UR[¬xUx T5≤1] h1 hi2[i2+1<XY.length][by
     show(Gn[i=xUx T5-2] rfl[i2=i-1\/i2=i][by
      show ug _ _ _=i-1\/ug _ _ _=i
      split
      ·show DD rfl
      ·show Dr rfl],hs4▸Kw[NM[e2.elim[y9[e▸IJ]] JQ]][xky[N7 UR]])])
    clear_value i2
    show(xHg As X Y Bs rfl hj[xsU hi2],π,Υ[wpS_bind[xk7 hO SN hj[Ο U2 Z S8]]][x0B[KQ[xJv _ S8 ?_]]]);simp only [JP,Ki] at SV ⊢;exact JW[Nj[(Std.le_max.1 SV).resolve_left[TD[Nat.not_succ_le_zero _[M0[JW xDD z]]]]]][yke _]
  ·rintro c T5 ⟨rfl,XY,SN,SV⟩;show Iv rfl XY SN[JW SV[ymk (ρ,oE[Nn size] Bz)]]
  ·rintro c T5 ⟨rfl,XY,SN,SV⟩;show sO pe hA hP SN.at'[KQ[h T5 hA.f Î]]
   ·rw [hA.a,Ku];rcases XY with _|⟨r,_|⟨_,R⟩⟩
    ·simp
    ·simpa using(SN.so r Z6).1
    ·cases M0 SV
   ·show Γ ha0 hA.a SN.st'
 rintro x c st1 _ hx ⟨Rs,tail,L,ec,hR,hxL⟩;subst ec;have t:=tot hR
 extract_lets SK jp force nf
 have elo:SK=L:=rfl
 clear_value SK
 subst elo;by_cases Uq:SK≥size
 ·show uX[tail=[]][L8.mp[(Oj t).trans[Qf Uq]]][xyj Uq[KQ[JH Rs SK hR]]]
 show(Bn[aS Uq ?_] pe hA hP hR.at',Gh[xgi zsl (X:=tail) (S:=[]) (by simpa using hA) hR.len.symm[BL[size-SK] tail.length[NJ[Oj t]]][(Nat.le_sub_iff_add_le'[Ks xYx]).mpr xYx] λ m Y VM m1 m2 lY sY tY hA2=>?_],x4l m2'[m≤tail.length][JW m2[xVH[Oj t]]])
 extract_lets n0
 have hjp:∀n Y tail' T5,x7R n->0<n->x3R->W0 xJS tail->aE T5[xWn[xJS]]->
   gN[yar n][SrP Ĳ x] T5:=by
  intro n Y tail' T5 lY nY sY tY hA3;show xxD SN[xW5 T5 SK Rs xJS] ((pe,hA3,hP),hR.so,hR.len,(yia tY).trans hR.st') kA
  extract_lets v1 jp2
  have Zd:∀U2 XY,xW5 U2 SK XY xJS->gN ztg U2:=by
   intro U2 XY S8;show((pe4,Y0,hP4)=S8.at',xxD ef[d9[XY++[Y]] tail'=XY.flatten++(xJS)] xNZ[wpS_modify[KQ[yq[XY++[Y]] tail'[SK+n] (Dt[(x3U).push ((SK,n,0))][zd Y0.k Y0.f[Sc ef Y0.a][rG[Y0.has p[A3 ef hp hp]]]],UV r hr,?_,Sc ef S8.st')[JN hxL nY]]]])
   ·show Sc Y0.p[hP4.push S8.len.symm lY.symm]
   ·show tW hr
    ·exact S8.so r z
    ·show(DA r Y jL,Xk this.symm,AX sY[Kk nY lY.symm])
   ·have:=S8.len;simp only [Mq,JP,LG,List.flatten_nil,Ku];rw [this,lY]
  clear_value jp2
  cases hb:(pendingOf T5).back? with
  |none=>
   have:gN ztg T5:=Zd T5 Rs SN;simpa only [hb] using this
  |some e=>
   obtain⟨s1,n1,p1⟩:=e;simp only [hb];show Gh[Np[xMG[λ _=>Ag Ĳ SK xJS] (Q:=Ag Ĳ SK xJS) ?_ xDi[k8 Rs SN]] ?_]
   ·rintro x2 c U2 _ _ ⟨rfl,XY,S8⟩;show(Gh kA,(pe4,Y0,hP4)=S8.at',(hs4:xyT=XY.length)=Sc Y0.p hP4.size)
    by_cases h2:xyT>1
    ·show((As,X,Y1,Bs,rfl,hj)=xsU (Rs:=XY) (j:=xyT-2) (hs4▸xky h2),(pw,p1)=hP4.at (i:=xyT-2) hj,HI[UF[ug[xyT>1] (x3U)[xyT-2]? none][xVc X.length pw]][by
      rw [Kq h2,<-p1,Y0.p]],CS);dsimp only;show EC[xv7[KQ[k8 _ S8]][wpS_bind[xk7 hO S8 hj[Ο st5 Z hR5]]]][x0B[KQ[k8 _ hR5]]]
    ·show(HI[Ω[ug[xyT>1] (x3U)[xyT-2]? none]] xyH,xFk[KQ[k8 XY S8]])
   ·rintro c U2 ⟨rfl,XY,S8⟩;show(Gh[wpS_modify[Zd _ XY ?_]],sO pe4 Y0 hP4 S8.at' (DT[zd Y0.k Y0.f Y0.a Y0.has],S8.so,S8.len,S8.st'));show Uk XY[(x3U).modify[xyT-1] _];show Sc Y0.p[hP4.modify _[y9 rfl]]
 clear_value jp
 by_cases RQ:m<Ve
 ·show(xWD[xyj RQ ydf][xgo zsl (Y:=Y) (R:=xMg) (S:=[]) hA2 hR.len.symm sY lY m1[VF m[xQb[size-SK]][yjo[Ks RQ]]][show xQb[size-SK]≤m+(xMg).length by show Γ Kc[Lj m2'][JW DU[xVH[Oj t]]]] λ Y' T5 lY' sY' tY' hA3=>?_],CJ[x0B[Np[xYT Y'[yhf[xQb[size-SK]-m]] T5 lY'[J6 m1[yjo[Ks RQ]]] sY' ?_[by simpa using hA3]] λ r st' q=>by cases r<;>exact q]] e1[W0[Y'++yhf[xQb[size-SK]-m]][(tail.take m++uO xMg[xQb[size-SK]] m)++yhf[xQb[size-SK]-m]]][(tY'.trans[tY.app Ay]).app Ay]);rw [JT,Ky,Ky] at e1;exact e1
 ·show(Aw RQ[Np[hjp m Y xMg VM lY jc sY ?_[by simpa using hA2]] λ r st' q=>by cases r<;>exact q],qD e1[tY.app[Sm.refl zqI xMg]] Ky e1 e1)
universe SG
namespace SG
open PySem PyProof.Rows
abbrev ltI:Fz[xx5 Int]:=λ a b=>vo a b
abbrev xpU {β:Type} (p:Int×β):Int:=Bt
def xym:SM.Ord ltI:=(λ a=>LL ykq,λ a b c h1 h2=>JY[ylq[J5 h2]],λ a b c h=>by
  show xOJ;by_cases c1:a<b
  ·show DD[JY c1]
  ·show Dr[JY[Int.lt_of_le_of_lt[ybX c1] this]],λ a b h1 h2=>xRt[PP h1][PP h2])
def ð:KeyKind where
 α:=Int
 blt:=λ a b=>vo a b
 irrefl:=λ a=>LL ykq
 trans:=λ a b c h1 h2=>JY[ylq[J5 h2]]
 negTrans:=λ a b c h=>by
  show xOJ;by_cases c1:a<b
  ·show DD[JY c1]
  ·show Dr xIK
 total:=λ a b h1 h2=>xRt[PP h1][PP h2]
 keyOf:=λ v=>match v with
  | .int n _=>some n
  |_=>none
 dflt:=0
def kInt_one:ð.OneLt:=by
 intro prog w A E s x y a b Q hx hy hq;cases x with
 |int n t=>
  cases y with
  |int m u=>
   cases hx;show EL hy[oneLt_int hq]
  |_=>cases hy
 |_=>cases hx
theorem pw_small {α:Type}{R:dS α α}:∀{l:FO},l.length<2->l.Pairwise R
 | [],_=>.nil
 | [x],_=>by simp
 |x::y::l,h=>by show(Ed,JE[rK C4 x8d xyI h])
universe SG
namespace L2
open PySem PyProof.Rows QQ
theorem xmJ:∀{l1} {x} {l2} {m},PR[l1++x::l2] m->∃m1 y m2,m=m1++y::m2/\PR l1 m1/\EO t[Yo=Sf Zu]/\RelV y.2 ZF/\PR l2 m2
 | [],x,l2,m,h=>by
  cases h with
  |cons a b c=>exact EV [] _ _ .nil a b c
 |z::l1,x,l2,m,h=>by
  cases h with
  |cons a b c=>
   show(TL,(m1,y,m2,rfl,vbF)=xmJ c,ZC[EV[_::m1] y m2[xXL b h1] zbT h4])
def xdc (g:PR l1 m1)(h:PR l2 m2):PR[l1++l2][m1++m2]:=by
 induction g with
 |nil=>show aq
 |cons a b _ ih=>exact xXL b ih
def xbW (h:xT8){k:Int}(hn:∀z∈l,¬WF[yb0 IM k z]):∀z∈m,¬WF[x58 k z]:=by
 induction h with
 |nil=>intro z hz;cases hz
 |cons a b c ih=>
  intro z hz;show yZ hz hz
  ·show xAL t a[je[Kj ..]]
  ·exact ih[λ u hu=>hn u[AU hu]] z hz
theorem xjl:∀{l' l:xZy} {m},x2D IM l' l->xT8->eE[x3s SG.xpU m' m/\PR l' m']
 | [],l,m,hs,h=>by
  have e:=ycQ x3A hs;cases h with
  |nil=>show Ef [] ydo .nil
  |cons a b c=>show Hy
 |x::l',l,m,hs,h=>by
  show(Ty O x3A hx[SM.Sm.mem O hs[xQ7 x l']],xHg l1 y l2 rfl hy h1[SM.xry (x,hx,SM.xqn (blt:=SG.ð.blt) (kf:=IM) O x)],Θ e[hs[IM x]] n1[l1.filter[yb0 IM[IM x]]=[]][MD.mpr h1]);rw [Kv[SM.xqn O x],KP,n1,KN,Kv hy] at e;show(xOm rfl e2[MJ e] ht[x2D IM l'[l1++l2]][λ k=>by
   by_cases hk:WF[yb0 IM k x]
   ·show(z=SM.xuB.mp hk,wB[IM x=k][x61 _ zbE],bE KP n1 KN e2)
   ·show(xEj e3[hs k] xp KP xp e3,Sc KP e3)],(m1,y,m2,rfl,p1,(t,hy1),p2,p3)=xmJ h,ka m' _C[xjl ht[xdc p1 p3]],AH hkx[IM x=Zu][by
   show(TL,xOm x1 x2 x e9[x1=Sf Zu] hy1);subst e9;show π;rfl] km[∀z∈m1,¬WF[x58 Zu z]][A3 hkx h1[xbW p1 h1]][Dt[y::m'][Gf k]])
  ·by_cases hk:WF[x58 k y]
   ·show(z=SM.xuB.mp hk,wB[Zu=k][SG.xym.tot _ _ zbE],ZY n2[m1.filter[x58 Zu]=[]][MD.mpr km] q[q1 Zu]);rw [KP,n2,KN] at q;rw [Kv hk,KP,n2,KN,Kv hk,q]
   ·show(FR q[q1 k] KP q,[xp,KP,xp,q])
  ·show(EF x1 x2 x y1 y2 y,.cons (t,hy1) p2 q2)
def xiW {σ:St}
  (I:W1) (ho:IS a[xVf n]) (fa:vp a) (hl:its.length=ks.length) (Sl:ymB)
  (hcall:∀(Td:Χ) (s':RD) (E':BQ) (i:Nat) (x:RC) (k:Int),V7 its->B8 ks k->xLh H s'->qH zmn E' s')
  (h:∀(s':RD) (out:Wp) (kv:DC),xDc->(∃e,s'.heap.get? a=some (seqObj "list" (out.map (·.2)) e))->x4J ks->ye1->yev IM xBn->P[yfd .none] s'):
  qH[ykn Dl xFj] P E s:=by
 show([xgv],(ha:xAY a)=KJ ho,vt[listItems_at ho zd2][xQc ho ?_],xFK e1 ho1 e1[ZS x8F a xYv][PL[PF ho[λ _=>#[]]]],jC I1[x0C x8F][I.turn fa] hs1[xVb (x8F).objs.size][Heap.size_update ..] x8F h1,vt[yc7 ho1 ?_][wpAny_newTuple ?_],nz x3d yap,SB XE[ZS xZL a xYv][tU[tU ho1]] I3[x0C xZL][xVy s.toks[λ b o e=>tU yK]],SB hc3[ZS xZL x0S[xwZ ([]:DC).toArray 0]] Bb hcs[xAQ x0S][by show([size_push',hs1],Au x9x)],SB fc[vp x0S][x3h hcs hcs] nac[a≠x0S][Lc[J6 ha hcs]]);show qH _ P E[kR xZL];show xw0 x0S c xZL h3;dsimp only;show vt[Ot ?_][wpAny_forIn_array' _[λ rest _ s'=>∃(i:Nat) (kv:DC),rest=its.drop i/\i≤its.length/\x4J[ks.take i]/\xDc/\xxi a xYv/\∃e2,xxi c[ymx e2]] _ Î _ _ (0,vbB,Bz,.nil,I3,XE,0,hc3)]
 ·rintro x rest _ s' ⟨i,kv,hr,hi,hkv,I',hoa,e2,Wf⟩;show(SB hx[V7 its][by
   have:x9[its.drop i] 0 x:=x7q hr
   rw [NE] at this;show xLW] Ue[i<its.length][rB hx],SB hk[B8 ks ks[(i)]][JX[Dd zee _Z oV Ue]] hrest[rest=its.drop[i+1]][A3[Ll Ue] hr (MJ hr).2],ω Ip[I'.pinned (fp:=[a,c]) (CG[by
   clear ho ha ho1 XE;show xR
   ·exact fa
   ·show xFo fc])[CG[by
   clear ho ha ho1 XE;show xR
   ·show jd hoa xrA
   ·show xFo[De Wf xrA]]]][JV[OA[cb[hcall _ s' _ i x ks[(i)] hx hk Ip][Ο r VD z9] e e]]],((t,hrv),I'')=z9);subst hrv;show(SB hoa'[UF[VD.heap.get? a] xYv] (I''.pin _[ycq Z6 hoa]).1 hoc'[UF[VD.heap.get? c][ymx e2]] (I''.pin _[ycq Z6 Wf]).1,Θ I2 I''.unpinned Ys[kv.length=i][xJ1 hkv.length J7])
  dsimp only;show nz[xQc hoc' yu (hsz:=by show([Ko,Ys,Om],Ej ù xWS xGl Sl hi)) (hsz2:=by show([Array.size_push,Ko,Ys,Om],x3 ù xWS zkf hi))] (i+1,kv++[Sf ks[(i)]],hrest,Ue,?_,I2.turn fc,à)
  ·show Γ Lk hk[xid hkv]
  ·show xFV c _ a=_;show xFf nac hoa'
  ·show qD e[PF hoc'[λ x=>x.push[xGG ks[(i)]]]] List.push_toArray e[PL e]
 ·rintro _ s' ⟨i,kv,hr,hi,hkv,I',hoa,e2,Wf⟩;have hie:xGr i:=by
   show ZE[jz hr] Kc;simp at this;show gH[lu _I hi] zj7[qE JA] ST zZ τ
  rw [hie,hl,K0] at hkv;show(SB Ys[xGr kv.length][by rw [hkv.length,hl]] hz[xGr yg8][by show(Dq Array.size_zip,Mx ydJ)],SB I4[rN[x4w yag]][I'.turn fc] hoa4[ZS yag a xYv][xFf nac hoa],SL fin (∀out:Wp,ye1->yev IM xBn->P[yfd .none] (x4w ((yag).update a (Obj.mapSeq λ _=>out.map (·.2))))) (by
   intro out hp hs;have e5:=PF hoa4 (λ _=>out.map (·.2));generalize yag=h4 at*;show(Fx I5[rN[x4w[yiQ a]]][Inv.turn (s:=x4w h4) I4 fa][yiQ a] h5,o6 out kv I5[PL e5] hkv hp hs))[JV[listItems_at Wf zd2]]);by_cases h2:its.toArray.size<2
  ·show(qC[Kq h2] h2,Du yu,jR StateT.run_pure yu);dsimp only;show(vt[xQc Wf ?_ (hsz:=(by show([Ko,Ys,Om],FX D5 SZ xGl Sl)))] x7S,vt[yc7 hoa4 ?_][xQc hoa4 ?_ (hsz2:=by show(E1 Array.size_map[yg8≤_],[hz,Om],FX D5 SZ zkf))],ylB Mt OR,Kn[fin _[SG.pw_small ?_] ?_])
   ·show(E1 LO[yg8<2],A3 Ko h2[lt_of_eq_of_lt hz h2])
   ·have:uI xLN xBn:=Z6;show SM.Sm _ _ (xLN).toList _;show x1N ydo
  ·show(pJ h2 xyH,wL Ko h2 hkk[keyKind' kv.toArray=pure oneType'][by
    match kv,hkv,Ys with
    | [],_,Ys=>simp at Ys;show JE[aX C4 xIQ xIR[KW h2] ydJ]
    | [_],_,Ys=>simp at Ys;show JE[aX C4 xIQ Tm[KW h2] ydJ]
    |v₁::v₂::vs,hkv,_=>exact keyKind_ints hkv],jR hkk yu,AH hzl[uI xLN xBn] Z6 hik[jH (arrOf[yjU xLN #[] 7 none]).toList[SG.xkb SG.ð p]][by
    intro p hp;show((hp':p∈xBn)=C8 hzl hp,(n,t,e)=hkv.all _ (Pz hp').1,AX n xAm)][JV[cb[SG.wpS_sortAll SG.kInt_one (sq0:=yjU xLN #[] 7 none)
    (Q:=λ _ st'=>yj3[SG.xqo SG.ð]/\xGv st'/\x2D IM (xMP).toList xBn)
    rfl Ð hik λ st' a1 a2 a3=>(a2,a1,C8 hzl a3)] ?_ e e]])
   rintro⟨⟨⟩,st'⟩ VD ⟨rfl,hp,hf,hs⟩;have hsz9:xGr (xMP).size:=by rw [<-LO,ycQ x3A hs,OM,Ys,Nat.min_self]
   dsimp only;show(vt[xQc Wf ?_ (hsz:=(bE Ko Ys Om[Ga Sl]))] x7S,vt[yc7 hoa4 ?_][xQc hoa4 ?_ (hsz2:=by show([Array.size_map,hsz9,Om],FX D5 SZ zkf))],[hf],ylB Mt OR,UN[fin _ hp hs])
def xhq {σ:St}
  (I:W1) (hp:ycv its.toArray) (hl:its.length=ks.length) (Sl:ymB)
  (hcall:∀(Td:Χ) (s':RD) (E':BQ) (i:Nat) (x:RC) (k:Int),V7 its->B8 ks k->xLh H s'->xUr X.A.in1.in1 zmn E' s')
  (h:∀(s':RD) (l:RA) (out:Wp) (kv:DC),xDc->vp l->(∃e,s'.heap.get? l=some (seqObj "list" (out.map (·.2)) e))->x4J ks->ye1->yev IM xBn->qM s'):
  jx[xA6 "sorted" Cw xFj] Q E s:=by
 refine call_function_entry_kw kind_sorted plain_sorted entry_sorted[xgz _ _] ?_;unfold Builtin.«sorted»;show(Υ[x16[checkCount "sorted" 1 1 _] yu][JV[collect_list hp ?_]],Du x3d,SB hsz (((s.heap.push[seqObj "list" #[] 0]).update s.heap.objs.size (Obj.mapSeq (·++its.toArray))).objs.size=Iy)[by
  rw [Heap.size_update,size_push']] hoL (ZS (((s.heap.push[seqObj "list" #[] 0]).update s.heap.objs.size (Obj.mapSeq (·++its.toArray))).push[seqObj "list" its.toArray 0]) Iy[xVf 0])[C8 hsz Bb],(I2:x0C[yiu[xVf 0]])=x5p[λ b o e=>
  tU[xFf xYu yK]],ZO _ _[kR[yiu[xVf 0]]],[hsz],SL fl[vp Iy][x3h nr nr][xPC[wpAny_call_entry_kw slot_list_sort[xxu hoL] entry_list_sort[xiW I2 hoL fl hl Sl hcall λ s' out kv a1 a2 a3 a4 a5=>x3D][xfF _ _]]],UN[AK[h s' _ out kv a1 fl a2 a3 a4 a5]])
def xbr (K:Frag)(sp:Sp)(t:TA):TE:=λ σ H Q=>uB zs (∃(p:RA) (xs:SC) (ks:Ya),zs=Cw/\x1B p xs/\xXc ks.length/\Hc xs.length/\
 (∀(i:Nat) v k,xEY->B8 ks k->sp [v] H1[xY r[r=x9p/\H2=H1]] E0)/\
 ∀l m,CU l->(m.map (·.1)).Pairwise (·≤·)->x3s SG.xpU m[ks.zip xs]->qM (upd H1 l (.lst (m.map (·.2)))))
def xnh {fe:RJ}{p:Pos}{kp:Pos}{pos:Pos}{y:Str}{t:TA}(F:xU7 RZ k Ò [y] sp)(hr:xGe[k+2])(hb:xFJ X.K [y] [])(hg:xGA "sorted")(hm:xNh "sorted")(hf:xJW fe Xl)(ha:oK [e] t)
  (he:AM[xMQ[e:: []]=EX::xPh]) (VH:yiE)
  (Ss:AM ((backToKw zgZ).all (·.1.isSome)=true))
  (hkw:AM ((backToKw zgZ).any (·.1.isNone)=false))
  (hfm:AM ((backToKw zgZ).filterMap (·.1)=[("key":Str)])):
  Ax[xUv "sorted" p [e] [(some "key",fe,kp)] pos][xbr X.K sp t]:=by
 intro RN s σ H Q I h;show(Υ[MK[xTC[show yhh "sorted" "sorted" from Z8] ?_]][yjr e (rest:=[]) xSN he VH Ss hkw],xLO zd3,Gj[kws_cons[Ý[hf zcv[xY v[v=Xl/\H2=H1]] I1 jl] λ fv s2 ⟨v,H2,I2,r2,e1,e2⟩=>kws_nil ?_]] I1);subst e1 e2;show(Fv[fv=Value.ref f] r2,[hfm],TL,(p,xs,ks,rfl,hq,hlen,Sl,Wz,q)=q1,ka zbS ru[xpw r1]);clear r1;show(Fv[u=Value.ref p] ru,TL,DS its zbV hz[I2.list hq],Ue=rv.length,ZO _[xA6 "sorted" Cw xFj] s2,xhq (ks:=ks) I2 pl.isList Z5[oE Ue.symm Sl][λ Td s' E' i x k' hx hk I'=>?_] λ s' l out kv I' fl ⟨en,ho⟩ hkv hp hs=>?_)
 ·show(YE v hv rvv v[xEY/\RelV v x][by
   show(ZZ hix xKm[Jx[rB hx][yhS Ue.symm]],ka u e3 r3[xWq i (x:=xs[(i)]) (JX hix)],A8 hx e3 e3,jd[JX hix] r3)],P4[Pf[x4c X.A.in1.in1 s' H2[BC CI] CI [v] _ E0 hr.in1.in1 I'.env0.in1.in1[hb s' CI I'.kIn rfl][jt rvv][Wz i v k' hv hk]][Ο r VD hq]]);clear k fd fe kp pos y F hr hb hg hm hf ha he VH Ss hkw hfm s I I2 hlen Sl Wz pl hz Ue x hx hk hv rvv;cases r with
  |error e=>show b9
  |ok fl=>
   cases fl with
   |ret u=>
    show xHg v' H' I'' rr ğ[I'.after hq];subst e1 e2;show(π,AX rr I'')
   |next=>show b9
   |brk=>show b9
   |cont=>show b9
 ·show(rq m Uh hpr[xjl hs[xdT hkv rv]],Ty hvals[xcN hpr] hml[xdU hpr],tB hol[xGr out.toList.length][by rw [ycQ x3A hs,OM,hkv.length];lia] (Fu Hm _ (I'.adopt fl (its:=out.toList.map (·.2)) hvals[by show([JO],sr Om)] (n:=en) (by rw [ho,<-Array.toList_map]))[q l m fl.1 ?_ Uh]) LC);intro i j hi hj hij;rw [JO] at hi hj;show(ZY key[jJ i h[i<m.length] h2[i<out.toList.length][IM[out.toList[i]' h2]=m[(i)].1]][by
   intro i hi hi2;show(rq t v e[xeD hpr[JX hi]],(e':out.toList[(i)]=((Sf m[(i)].1,v)))=Kr[(JX hi2).symm.trans e],CM e')] l1[zy hp i j Z5 Z5 hij],[List.getElem_map,List.getElem_map],(l2:A2[SG.ð.blt[IM[out.toList[j]' Z4]][IM[out.toList[i]' Z4]]])=l1);rw [key Ď,key ÿ] at l2;show BU l3[¬m[(j)].1<m[(i)].1][TD[by
   have:WF[SG.ð.blt m[(j)].1 m[(i)].1]:=xJf;show A8 this l2 l2]][Int.not_lt.mp l3]
universe L2
namespace PM
abbrev Bd:=xBk LE
def pairs:DK->DK
 |a::b::r=>((mj+Ig,xSA++uD))::x6b
 |_=>[]
def occ (R:DK)(p:Nat):Nat:=(xX2 b[m9 uD]).sum
def Tj (B:DK):Prop:=B.Pairwise λ a b=>mj≤Ig
def xr4 {a b:LE}(h:a.Perm b):a.sum=b.sum:=by
 induction h with
 |nil=>rfl
 |cons x _ ih=>simp [ih]
 |swap x y l=>show Cy[Nat.add_left_comm _ _ _]
 |trans _ _ h1 h2=>exact h1.trans h2
def xm2 {R S:DK}(h:R.Perm S)(p:Nat):qT=Fj S:=xr4[h.map _]
def xno (R S:DK)(p:Nat):Fj[R++S]=qT+Fj S:=by simp [occ]
def xt3 (b:Bd)(S:DK)(p:Nat):Fj[b::S]=m9 uD+Fj S:=by simp [occ]
def part {R U X Y:DK}(h:wI R U[X++Y]):∃RX RY UX UY,R.Perm[RX++RY]/\U.Perm[UX++UY]/\X.Perm[RX++UX]/\Y.Perm[RY++UY]:=by
 induction R generalizing X Y with
 |nil=>exact([],[],X,Y,.nil,h,x63,x63)
 |cons r R ih=>
  show((hr:r∈X++Y)=h.subset Kj,gU hr hX hY)
  ·show(Gr e[OY hX] h2[wI R U[X.erase r++Y]][ymT[e.append_right Y]] gE,(RX,RY,UX,UY,vbu,h5,h6)=ih h2,ZC (r::RX,RY,UX,UY,h3.cons r,h4,e.trans[h5.cons r],h6))
  ·show(Gr e[OY hY] h2[wI R U[X++Y.erase r]][ymT[(e.append_left X).trans OE]] gE,(RX,RY,UX,UY,vbu,h5,h6)=ih h2,ZC (RX,r::RY,UX,UY,(h3.cons r).trans OE.symm,h4,h5,e.trans[h6.cons r]))
def xhV:∀(n:Nat) {B RP UP:DK},xSV->Tj B->wI RP UP zE->mq r RP[W9 UP[r.1≤u.1]]->
  ∃R U,wI R U B/\mq r zqY/\xOP[x6p 2]/\EG p[qT=Fj RP]/\∀r∈R,∃q∈RP,∃x∈B,Dw=r.1+Yo:=by
 show xDV
 induction n with
 |zero=>
  intro B RP UP hB _ h _;show(Bj zth,DX);have:RP=[]/\UP=[]:=xPu x64
  show ja zlh
 |succ n ih=>
  intro B RP UP hB hs h hle
  match B,hB,hs,h with
  | [],_,_,h=>
   have:RP=[]/\UP=[]:=xPu x64
   show ja zlh
  | [x],_,_,h=>
   have:RP=[]/\UP=[]:=xPu x64
   show ja this[rE [] CI x63[xyD Ed] zhR]
  |a::b::r,hB,hs,h=>
   show((hs':Tj r)=xXp[xXp hs],Ty ha[xXf hs] hb[xXf[xXp hs]],SB hab[mj≤Ig][ha b Kj] hm[((mj+Ig,xSA++uD))∈RP++UP][h.symm.subset Kj],gU hm hR hU)
   ·show(Θ e[OY hR] h2[wI[RP.erase ((mj+Ig,xSA++uD))] UP x6b] ((e.append_right UP).symm.trans h).cons_inv,(R,U,vbu,h5,h6,h7)=ih[by show(xHs,Mz hB)] hs' h2 λ x hx u hu=>hle x[Qd hx] Ģ,FR hl e.length_eq Ki hl,(a::b::R,U,(h3.cons b).cons a,à,Gf p,?_))
    ·intro x hx u hu;have hur:u∈r:=h3.subset[tD hu];clear hs hm hl;show yZ zcN
     ·exact ha u[AU hur]
     ·clear hs ha;show yZ zcN
      ·exact hb u hur
      ·exact h4 Ô Ģ
    ·rw [Ki,Ki,h5];lia
    ·rw [xm2 e p,xt3,xt3,xt3,h6 p];show _=m9[xSA++uD]+_;show sr Os
    ·show xFF;clear hs ha hm hl;show yZ zcN
     ·exact pY hR b Z6 rfl
     ·clear hs;show yZ zcN
      ·exact pY hR a Z6[MM _ _]
      ·show F7 ġ y hy e[h7 Ô] (q,Qd hq,y,AU xIc,e)
   ·show(Θ e[OY hU] h2[wI RP[UP.erase ((mj+Ig,xSA++uD))] x6b] (OE.symm.trans[(e.append_left RP).symm.trans h]).cons_inv,(R,U,vbu,h5,h6,h7)=ih[by show(xHs,yj zb0 SZ hB)] hs' h2 λ x hx u hu=>hle Ô u[Qd hu],SL key[lF R[Yo≤mj/\Yo≤Ig]][by
     show(xFF,(q,hq,y,hy,e)=h7 Ô,ZY h8[Dw≤mj+Ig][hle ġ _ hU] h9[hb y hy],AX[HK [_,_,_,_,_][.a xYj Xs][Bu[uk JD]] ST dC h8 h9][HK [_,_,_,_,_][AV[.a xYj Xs]][C7[Bu[uk JD]]] XL hab dC[JN h8 h9]])] (R,a::b::U,à,h5,h6,UV Ô))
    ·exact OE.trans[(OE.trans[h3.cons b]).cons a]
    ·intro x hx u hu;clear hB hs h ha hab hm hU h2;show yZ hu hu
     ·exact(key Ô).1
     ·clear hB hs h hb;show yZ hu hu
      ·exact(key Ô).2
      ·exact h4 Ô Ģ
    ·show F7 ġ y hy e[h7 Ô] (q,hq,y,AU xIc,e)
inductive Lev (sg:DK):RB DK
 |zero:x9i ż
 |step {k:Nat} {B B':DK}:x9i k B->B'.Perm[sg++zE]->Tj B'->x9i[k+1] B'
def sgl (wt:Ea) (p:Nat):Bd:=((xSm,[p]))
def xmM {wt:Ea}{L:LE}{RX UX:DK}(h:(ZL).Perm[RX++UX]):∃RL UL,L.Perm[RL++UL]/\RX=RL.map ky/\UX=UL.map ky:=by
 show SL g[Eg[RX++UX][ky[(uD).headD 0]=b]][by
  intro b hb;show x3Q p rfl[h.symm.subset hb];rfl] (xAu (RX.map (·.2.headD 0)) (UX.map (·.2.headD 0)) Î)
 ·show(uJ (h.map (·.2.headD 0)) Mv J8,Bj[((λ b:Bd=>(uD).headD 0)∘ky)=id][by funext p;rfl],vH e List.map_id zge)
 ·rw [Mv]
  conv=>lhs;rw [<-List.map_id RX]
  exact O9[CG (g b[wa hb]).symm]
 ·rw [Mv]
  conv=>lhs;rw [<-List.map_id UX]
  exact O9[CG (g b[tD hb]).symm]
theorem wE {wt:Ea}:∀{M:LE} {p:Nat},Fj[M.map ky]=M.count p
 | [],p=>rfl
 |q::M,p=>by
  show([L5,xt3,wE],et[m9 [q]+_=_] Pj Pj,Cy[MM _ _])
theorem xms {p:Nat}:∀{M:LE},M.Nodup->p∈M->M.count p=1
 | [],_,h=>Ed
 |a::M,hn,h=>by
  show(hn'=PH.mp hn,[Pj]);by_cases e:a=p
  ·show(DX,Dq[NO hn'.1])
  ·show((hm:p∈M)=by
    show lh h h h
    ·show Dv h.symm e
    ·show aq,[xms hn'.2 hm],x92)
def xz4 (R:DK)(k:Nat)(S:LE):Nat:=x4M[λ p=>2^(k-qT)]
def xhW {S:LE}{f:Ea}{c:Nat}(h:jH S[f p=c]):x4M f=xCh c:=by
 induction S with
 |nil=>rfl
 |cons a S ih=>
  show([L5,OS,eJ a,ih[rG[uA ĳ]],Ki,Nat.mul_succ],MM _ _)
def xhx {S:LE}{f g:Ea}(h:jH S[f p=g p]):x4M f=x4M g:=by rw [O9 h]
def xaH {wt:Ea}{L:LE}(hL:L.Nodup)(hw:jH L[0<xSm]){k:Nat}{B:DK}(lv:xO8 k B):Tj B/\xAw[0<Ig]/\
  ∀R U,wI R U B->mq r zqY->∃S T,L.Perm[S++T]/\(jH S[AJ qT/\qT≤k/\ky p∈R])/\EG p[p∉S->qT=0]/\2*xz4 R k S+2^k*R.length=xCh[2^(k+1)]:=by
 induction lv with
 |zero=>
  show xJP zhE[λ R U h _=>?_];have:R=[]/\U=[]:=xPu x64
  show ja this ([],L,x63,xyD Ed,WJ,rfl)
 | @step k B B' _ hp hs ih=>
  show((hsB,UA,ih)=ih,SL pos_pairs[∀(n:Nat) (B:DK),xSV->xAw[0<Ig]->Eg zE[0<Ig]][by
   show xDV
   induction n with
   |zero=>intro B hB _ b hb;show(wB zmY,xR1)
   |succ n ih2=>
    intro B hB h b hb
    match B,hB,h,hb with
    | [],_,_,hb=>show xR1
    | [x],_,_,hb=>show xR1
    |x::y::r,hB,h,hb=>
     show xR
     ·have:=eJ x;show gY[0<Yo+Zu][Nat.add_pos_left this _]
     ·exact ih2 r zlB Ì] (hs,uL,λ R U h hle=>?_))
  ·show gU ycR hb hb
   ·show(TL,dR p hpL[MY.mp hb],ZC[hw p hpL])
   ·exact pos_pairs _ B ρ UA Ì
  ·show(TL,(RX,RP,UX,UP,vbF)=part[h.trans hp],(RL,UL,h5,Ú)=xmM h3,SB mR[∀b,b∈RL.map ky\/b∈RP->b∈R][CG[h1.symm.subset[Kx.mpr hb]]] mU[∀b,b∈UL.map ky\/b∈UP->b∈U][CG[h2.symm.subset[Kx.mpr hb]]],(R',U',h6,h7,h8,h9,h10)=xhV _ ρ hsB h4.symm λ r hr u hu=>hle r[mR r[.inr hr]] u[mU u[.inr hu]],(S,T,VB,h12,h13,h14)=ih R' U' h6 h7,π,SB hocc[∀p,qT=RL.count p+Fj R'][λ p=>by rw [xm2 h1 p,xno,wE,h9 p]] hndR RL.Nodup[yj5[h5.nodup_iff.mp hL]],SB hndS S.Nodup[yj5[VB.nodup_iff.mp hL]] hsub[jH S[p∈RL]][by
    intro p hpS;show((hpL:p∈RL++UL)=h5.subset[VB.symm.subset[wa hpS]],gU hpL hh hh)
    ·exact hh
    ·show(TL,Xh ġ Ô e[h10 _[Et[h12 p hpS]]]);have:=hle q[mR q[.inr hq]] _[mU _[.inl[QA hh]]];show Θ hx0[UA Ô] e'[Dw=xSm+Yo] e;have:Dw≤xSm:=this;show JE[rK [_,_,_][uk[A7 Ep]] Jt[Ge e.symm[JN this hx0]]]],SL hcnt[jH RL[RL.count p=1]][rG[xms hndR hp]] (RL,UL,h5,λ p hpR=>(à,mR _[.inl[QA hpR]]),UV p hpR,?_))
   ·show Γ hocc[hcnt p hpR][KL 1 _]
   ·rw [hocc,hcnt p hpR];by_cases hpS:p∈S
    ·have:=Az[h12 p hpS];show Bg zdI ST zB Η this
    ·show Bx[h13 p hpS][xxA[ir AZ]]
   ·rw [hocc,NO hpR,h13 p[TD[hpR[hsub p z]]]]
   ·
    show(SB hspl[RL.Perm[S++x5t zfJ]][by
     show tB e1[RL.Perm[RL.filter[kP p[p∈S]]++x5t zfJ]] (List.filter_append_perm _ _).symm[e1.trans[List.Perm.append_right j_]][List.perm_ext_iff_of_nodup[hndR.filter _] hndS];intro p;simp only [M7,decide_eq_true_eq];show AX[VT o4][VT (hsub p h,h)]] hkr[xz4 R[k+1] RL=xz4 R' k S+2^k*(x5t zfJ).length][by
     unfold xz4;show(E7[(RL.map λ p=>2^(k+1-qT)).sum=(RL.map λ p=>2^(k-Fj R')).sum][by
      show(xhx pL,[hocc,hcnt ĳ,show k+1-(1+Fj R')=k-Fj R' by lia])],[e2,xr4[hspl.map _],J8,NZ]);congr 1;refine xhW pL
     simp only [M7,QZ,decide_eq_false_iff_not] at hp;rw [h13 p hp.2,NQ]],Ty hlR h1.length_eq hlS hspl.length_eq);rw [JP,JO] at hlR;rw [JP] at hlS;rw [hkr,hlR,LA 2[k+1],LA 2 k];rw [h8,LA 2 k] at h14;show(xw0 (x5t zfJ).length xl[2^k] q,[hlS],SB e0[∀z,q*2*z=2*(q*z)][TD[by rw [Lx q 2,Lh]]] e00[∀z,q*2*2*z=4*(q*z)][TD[by show([Lh[q*2] 2 z,e0[2*z],Q1 q 2 z],pI[xTZ Dx][vR 4][vR 4][xTZ Dx])]],SB e3[q*(x6p 2)=2*(x6p q)][by rw [Q1]] e4[xCh[q*2]=2*(xCh q)][e0 _],SB e5[q*2*(xxo xl+RP.length)=2*(xCh q)+2*(q*xl)+2*(x6p q)][by
     show([e0,NK q,NK q],Cn[Xo [_,_,_][xTZ xBW][.a[Be oq] T8]][Xo [_,_,_][.a[Be oq] T8][xTZ xBW]])] e6[q*2*2*(xxo xl)=4*(xCh q)+4*(q*xl)][Γ e00[NK q][NK 4 _ _]],[e5,e6]);rw [e3,e4] at h14;show Cn[dN [_,_,_,_][Be xIV] T8[rH zqX][JB 4[rQ 4]][JQ h14]][dN [_,_,_,_] T8[Be xIV][JB 4[rQ 4]][rH zqX][JQ h14.symm]]
theorem xfN:∀(n:Nat) {B:DK},xSV->BF zE[B.length/2]
 |0,[],_=>rfl
 |_+1,[],_=>rfl
 |_+1,[_],_=>by simp [pairs]
 |n+1,a::b::r,hB=>by
  show(iY[x19 n r[by show(xHs,yj zb0 SZ hB)]],[pairs,Ki,h1,Ki,Ki],Cn[Fs 2 [_,_,_][Be[Ar xOK]][C7[D8 oq 2]] _Z ER zj][Fs 2 [_,_,_][G8 oq][.a[D8 Dx 2] xOK] ST Tm zj ER])
theorem xmP {L:LE}:∀(n:Nat) {B:DK},xSV->xAw[jH uD[p∈L]]->Eg zE[jH uD[p∈L]]
 |0,[],_,_,_,hb=>by cases hb
 |_+1,[],_,_,_,hb=>by cases hb
 |_+1,[_],_,_,_,hb=>by cases hb
 |n+1,x::y::r,hB,h,b,hb=>by
  show xR
  ·exact rG[ki hp[eJ x p][uA y Kj p]]
  ·exact xmP n zlB Ì
def xc0 {L:LE}{wt:Ea}{k:Nat}{B:DK}(lv:xO8 k B):Eg B[jH uD[p∈L]]:=by
 induction lv with
 |zero=>intro b hb;cases hb
 | @step k B B' _ hp hs ih=>
  intro b hb;show gU ycR hb hb
  ·show HD p hpL rfl[MY.mp hb][λ q hq=>Sc ygZ hpL]
  ·exact xmP _ ρ ih Ì
def xcz {L:LE}{wt:Ea}{k:Nat}{B:DK}(lv:xO8 k B):IP*2^k+1≤2^k*B.length+IP+2^k:=by
 induction lv with
 |zero=>simp
 | @step k B B' _ hp hs ih=>
  show(xEj hl hp.length_eq JP JO[x19 _ B ρ] hl,[hl,LA],Fx h2[xUR[2*(B.length/2)+1]][iO [_,_][D8 oq 2][Ar oq] zj][B.length/2] h,xw0 B.length b L.length n);generalize 2^k=q at*;show(SB h3[q*b≤q*(2*h+1)][JU _ h2] e1[q*(2*h+1)=2*(q*h)+q][by show([NK,Q1],xG[Be[xC7 1]] xH9 xH9[Be[xC7 1]])],SB e2[2*n*q=2*(q*n)][by rw [Lh,Lx n]] e3[2*n*(q*2)=4*(q*n)][by show([-Lh,e2],pI[.w Dx 2][vR 4][vR 4][.w Dx 2])],(e4:q*2*(n+h)=2*(q*n)+2*(q*h))=bE[Lx q 2] Lh[NK q][NK 2 _ _],[e3,e4],A3 e2 ih[Hu [_,_,_,_,_,_][Um Dx xOA][.a[tF[Il T8]][qN[xSJ Dk]]][Ar[vR 4]][.a[.a[Be oq] T8][.w Dk 2]] ih h3[JQ e1]])
def best {L:LE}{wt:Ea}(hL:L.Nodup)(hw:jH L[0<xSm]){m:Nat}{B:DK}(lv:xO8 m B)(hn:bB 2)(hm:jf[2^m]):
  (jH L[AJ yaR/\yaR≤m])/\EG p[p∉L->yaR=0]/\
  (L.map λ p=>2^(m-yaR)).sum≤2^m:=by
 show(xBh hs UA hpart[xaH hL hw lv],SB hlen[pO[IP-2]][by
  show(Θ h1[xcz lv] h0[0<2^m] yR,gJ B.length[IP-2] h h)
  ·exfalso;show(yp h2[2^m*(xB6 3)≤2^m*(IP)][JU _[Dd [_,_,_][TO[vd 2 2]][C7 oq] IU oq h[DF C4 xyI SZ xyI Dx hn]]] NK h2,A3[Lx IP] h1[aX [_,_,_,_][Be[G8[Bu[xC7 3]]]][xSJ[HV[HY[Bu Dx]]]][xEZ hm][x0G h2]])
  ·show aq] hRl[BF xPl[IP-2]][Ji[KY hlen]],SB hsplit[wI xPl[B.drop[IP-2]] B][by rw [Ky]] hle[∀r∈xPl,W9[B.drop[IP-2]][r.1≤u.1]][by
  have:Tj[xPl++B.drop[IP-2]]:=Sc Ky hs
  exact Et[Kp.mp this]],(S,T,vbF)=hpart _ _ hsplit hle,π);rw [hRl] at h4;generalize xPl=R at*;show(FR hlL h1.length_eq JP hlL,(hT:T=[])=by
  show iw[Oh T.length] h
  ·exact L8.mp h
  ·exfalso;show(SB h0[0<2^m] yR h5[xCh[2^(m+1)]≤2^m*(IP-2)][by
    have:xCh 2≤IP-2:=(Hu [_,_,_,_][rH qZ[rH Ep T8]][xSE[xSH[yy 2]]] Dx ST[Ct 2 hlL.symm][xEZ h] τ);show Γ LA Lh[JU _ this]],SB VO[xz4 R m S=0][xTq[ET [_,_,_][HV xH9] EA Hg[JQ h4] h5]] hS0[S=[]][by
    match S,VO with
    | [],_=>rfl
    |p::S',VO=>
     exfalso;unfold xz4 at VO;rw [L5,OS] at VO;have:0<2^(m-qT):=yR;show Au[rK [_,_][xWs Ep] DN[Ge VO this]]])
   subst hS0;show wL VO h4 h6[2^m*(IP-2)=0][by simpa using h4]
   rcases Nat.mul_eq_zero.mp h6 with h|h<;>lia)
 subst hT;rw [Ku] at h1;rw [ON,NA] at hlL;show SL hkL[xz4 R m S=(L.map λ p=>2^(m-qT)).sum] (xr4[h1.map _]).symm[Dt pL[rG[h3 p[TD[hp[h1.symm.subset z]]]]]]
 ·show((a,b,_)=h2 p[h1.subset hp],AX a b)
 ·rw [<-hkL];rw [<-hlL,LA] at h4;show(Bj[2^m*(IP-2)+2*2^m=2^m*2*L.length][by
   rw [Lx 2[2^m],<-NK,Lh];congr 1;show Cn[El Jr oq Jr oq[DF C4 xyI SZ xyI Dx hn]][El oq Jr oq Jr τ]],Au[xAI 2 [_,_,_,_][tF[Be XL]][Bu[C7 oq]] n_[Ge h4 dC]])
def xbT {wt:Ea}{p:Nat}{k:Nat}{B:DK}(lv:Lev[[p].map ky] k B):k=0\/B=[ky p]:=by
 induction lv with
 |zero=>show DD rfl
 | @step k B B' hq hp hs ih=>
  right
  show(DA zE [][by
   show Sx ih
   ·show zL hq
   ·rfl],A3 this hp[List.perm_singleton.mp hp])
def ģ (P:LE)(wt:Ea)(m:Nat)(ln:Ea):Prop:=
 (jH P[AJ xKh/\xKh≤m])/\EG p[p∉P->xKh=0]/\yff[λ p=>2^(m-xKh)]≤2^m
def ģ.perm {P L:LE}{wt:Ea}{m:Nat}{ln:Ea}(h:ģ L wt m ln)(hp:L.Perm P):ģ P wt m ln:=BI h_ h[λ p hpP=>h1 p[hp.symm.subset hpP]][λ p hpP=>h2 p[TD[hpP[hp.subset z]]]][C8[xr4[hp.map _]] h3]
def xao {L:LE}{wt:Ea}(hL:L.Nodup)(hw:jH L[0<xSm]){m:Nat}{B:DK}(lv:xO8 m B)(h1:yea)(hm1:AJ m)(hm:jf[2^m]):
  ģ L wt zhL:=by
 by_cases hn:bB 2
 ·show(Bj[x0L[IP-2]=IP-2] Z5,Vz[best hL hw lv hn hm])
 ·match L,h1,hn,hL,hw,lv with
  | [p],_,_,_,hw,lv=>
   show iw[xbT lv] rfl
   ·show JE[aX C4 zB xIR hm1 wc]
   ·show AH e[∀q,xSn[[ky p].take[x0L[2* [p].length-2]]]=xxV [p]][Ei[by
     show xSn [ky p]=_;show E1 xt3[xxV [p]+xSn []=_];rfl]] ep[m9 [p]=1] Z6[Dt xRE xRE]
    ·show([ygZ,e,ep],AX ρ hm1)
    ·show Vz[NO hq]
    ·rw [L5,QL,OS,List.sum_nil,e,ep];have:2^(m-1)≤2^m:=xr[LK _ 1]
     assumption
  |a::b::r,_,hn,_,_,_=>show Dv Z6 hn
universe PM
namespace SM
theorem xqd {kf:β->κ}(O:x6Z)(φ:α->β):∀{mm:yhM} {Z:FO},bJ mm[Z.map φ]->∃Z',mm=Z'.map φ/\x2x[TD[xPs z]] Z' Z
 | [],Z,h=>by
  show(qv e[x4h O h] e,uX[Z=[]][L8.mp e.symm][ID [] Ay])
 |x::mm,Z,h=>by
  show(hx=xVK h[xQ7 x mm],(z0,hz0,ez0)=MY.mp hx,(l1,y,l2,rfl,hy,h1)=xry (p:=TD[x9Q[φ z]]) (ys:=Z) (z0,hz0,Sc ez0 xSl),Θ e[h we] n1[(l1.map φ).filter x9Q=[]][MD.mpr λ u hu=>HD z hz rfl[MY.mp hu][h1 z hz]])
  rw [J8,L5,Kv xSl,KP,n1,KN,Kv hy] at e;obtain⟨ex,e2⟩:=MJ e;subst ex;show((ht:bJ mm[(l1++l2).map φ])=λ k=>by
   rw [J8,KP];by_cases hk:xDl k[φ y]
   ·show(z=ygW,wB zqc,Γ n1 KN e2)
   ·have e3:=xg;rw [J8,L5,xp,KP,xp] at e3;exact e3,sO Z' rfl hs[xqd O φ ht][ID[y::Z'][Gf k]],FR hs'[hs k] KP hs',[KP]);by_cases hk:WF[xxg[TD[xPs z]] k y]
  ·show Θ z ygW ek zqc;subst ek;have n2:l1.filter[xxg[TD[xPs z]][xPs y]]=[]:=MD.mpr λ u hu=>h1 Ģ
   rw [n2,KN] at hs' ⊢;rw [Kv hk,Kv hk,hs']
  ·rw [xp,xp,hs']
def xlW (ψ:α->γ){kf':α->κ}(hk:∀z,kf' z=kg[ψ z])(h:x2x kf' Z' Z):x2x kg[Z'.map ψ][Z.map ψ]:=λ k=>by
 show([Qy,Qy],Bj[(xxg kg k∘ψ)=xxg kf' k][by
  funext z;show xxg kg k[ψ z]=xxg kf' k z;show Hf eqv hk],[e,xg])
universe SM
namespace D6
open PM SM
abbrev xyz (b:Bd):Int:=xPi
inductive xzS (sg:DK):RB DK
 |zero:xQd ż
 |step {k:Nat} {B B':DK}:xQd k B->Sm SG.ltI xyz B'[sg++zE]->Tj B'->xQd[k+1] B'
def xzS.lev (h:xQd k B):x9i k B:=by
 induction h with
 |zero=>exact .zero
 |step _ hs hso ih=>exact .step ih[xuI SG.xym hs] hso
def xvu {B:DK}(h:Tj B):B.Pairwise[Le SG.ltI xyz]:=h.imp λ {a b} hab=>gY[A2[vo xPi[Tl mj]]][LL Z5]
def xzS.uniq (h:xQd k B)(h':xQd k B'):B=B':=by
 induction h generalizing B' with
 |zero=>show zL h'
 |step _ hs hso ih=>
  cases h' with
  |step h2 Vj hso2=>
   have:=ih h2;show gB[xqe SG.xym[xvu hso][xvu hso2][hs.trans Vj.symm]]
universe D6
namespace QQ
open PySem PyProof.Rows
def xg8 {i:Nat}(hq:xEI)
  (he:IsEnum s.heap e it i old) (hit:ybR l i) (hl:ycd l) (hx:Ω items[i]?)
  (hQ:xAA[x1A->x9L tV]):yk[pyNext zD]:=by
 show((hT:s.TypeIs zD "enumerate")=xxu he,x9u[OA[MU hT QE
  (N8 QE hT PySem.F.entry_enumerate_next ?_[PySem.F.args_enumerate_next_1 _])]],ZO _[field zD 2>>= _] _,vt[LP he Ð ?_][xgg hq hit hl hx λ h' x he' hx'=>?_],(o,ho,hc)=hx',Du[x3o[xZ ho hc] ?_],UN[hQ _ he'])
universe QQ
namespace L2
open PySem PySem.Spec PyProof.Rows QQ
def Ite (K:Frag)(a:RA):It:=
 (λ i H=>∃xs x,Zq/\uG,λ i H v H'=>∃p x,pF/\v=Dc/\H'=sG H p [x7l,x]/\∀xs,Zq->uG,λ i H=>xAC[Zq/\ynQ])
def xhI {K:Frag}(a e it)(T1:e≠it):
  x9c w K[x5d k pos] xI2 [e,it] e[λ i h=>EO old[IsEnum h e it gy old]/\yk4 a i] where
 mem:=Z6
 obj:=λ i h st b hb=>by
  show(vc9,lh _J)
  ·show(xWE,jd he[λ v z=>by
    show((z':xW6 _ ydU)=z,xCQ)])
  ·obtain zF0:=xGa;show(yfL,Dj o e' c d hit[xZ e'[λ v z=>xm d]])
 keep:=λ i h h' st k=>by
  show(vc9,AX (old,k e Z6 _ he)[hit.at λ o x=>k it Z6 o x])
 item:=by
  intro X hP hw hK hc i RN s σ H E I hf st hg;show TL
  subst hP hw hK;show(((old,he),hit)=st,ve9,xHB e0 zcE e4 e5 e Z6,xHB zdY,π,SB elt[xAY e][KJ he] ilt[xAY it][xVG o e' x9b[KJ e']],xa hT ybV jo[wpAny_pyNext_enum_item he hit zpY T1 λ h1 ho hit1 ht hsz kk=>?_][AK[wpAny_letOwnedTupleGo_enum ho[Ο h2 he2 Vj]]],SB kept[∀b o,Zx->b≠it->CR=LT->h2.get? b=LT][λ b o n1 n2 x=>zV Vj b n1[kk b o ï x]] Yz[UF[h2.get? s.heap.objs.size][xAG "tuple"[.seq #[HR s.toks,u]]]][zV Vj _[LJ elt] ht],SB hT2[∀b o,CR=LT->xF4 b][λ b o x=>Lc[KJ x]] nT[∀b o,Gk=LT->xF4 b][λ b o x z=>Ek hT x x],SB nE[∀b o,Gk=LT->Zx/\b≠it][λ b o x=>xJ6[Ek e0 x x][Ek f0 x x]] he3[IsEnum h2 e it[jT] u][by
   show(DA[jT][gy+1][Nat.ToInt.add_congr Ð],x1N he2)],AH hit2[h2.IsListIter it a[i+1]][hit1.at λ o x=>zV Vj it T1.symm x] I2[kc[sG H s.heap.objs.size [x7l,x]][Vu h2 xN3]][by
   refine yfe [e,it] uL[λ b o _ _ hb x _=>kept b o zhg x][λ b o _ _ hb x _=>xGx[kept b o zhg x]][λ b o _ x n=>Κ[hT2 b o x] n][λ b o hb x=>x1Q[kept b o zhg x]][λ b xs x=>Κ[nT b _ x] x][λ b o u x=>Κ[nT b _ x] x][λ b ps x=>xOh[V5[ak[nT b _ x]] x]][UV m hm][Ο b o x] I.bare
   ·show lh _J
    ·show FU hb (e3,e1,e4,e5)
    ·obtain zF0:=xGa;show(yfL,Iv f3 f1 f4 f5)
   ·show(TL,Xh o es' ep ho' r hm,AG o es' ep[kept _ o[NB e1][NB f1] ho'] r)
   ·by_cases hb:xVb b
    ·show(CN hb ae x x,Iv tT [HR s.toks,u][si Dy ru][zd _ Yz È])
    ·show(xOq Yj x[xGH b o x[λ c v hc' q=>?_][λ c q=>Κ[nT c _ q] q][λ c xs q=>Κ[nT c _ q] q]],HQ hc')
     ·clear es k pos T1 hu ru e1 e2 e3 e4 e5 h1 ho hit1 ht hsz kk he2 Vj Yz hT2 nT;show FU z[kept c v (nE c _ x).1 (nE c _ x).2 q]
     ·exact kept c v (nE c _ z).1 (nE c _ z).2 q][Io i6 _ I2[yq _ x hT rfl[λ ys hy=>Sc[yl7 hq] hx]] ((u,he3),hit2) uL],lh _J)
  ·show(x0J,Κ[Lc elt] e0)
  ·obtain zF0:=xGa;show(yfL,Κ[Lc ilt] f0)
 done:=by
  intro X hP hw hK hc i RN s σ H E I hf st hg;show TL
  subst hP hw hK;show(((old,he),hit)=st,vez,xHB zdY,π,jA hl rv.length[xg8 I.hq he hit znI λ h' eb=>Fw[xKJ[λ b o hb e=>eb b o hb e]]])
 self:=x42 h[by
  show(vc9,yjH h)]
inductive ĸ (K:Frag) (R:xDg) (vs:SC) (H1:Hp):Prop
 |mk (l:_) (xs:_) (h0:vs=xSt) (h1:x1B l xs) (h2:R[Ite K l] H1):ĸ K zcL
def xd7 (K:Frag)(ta:TA):TI:=λ σ H R=>xX5 vs[ĸ K zcL]
def xtL {X:Cx}(hg:xGA "enumerate")(hm:xNh "enumerate")(ha:oK t8 ta)(hs:AM[sR t8=[nN a]]):
  PI X[x5d k q][xXu "enumerate" p t8][xd7 X.K ta]:=by
 intro RN s σ H R I h;show(xU[Call_[xTC boot_enumerate[Nd xSN hs rfl]]] zd3,(l,xs,e,hq,q)=q1,DX);cases r1 with
 |cons r rr=>
  show(xOl rr r,x2o rv p hz[I1.list hq],call_enumerate_list p.isList λ h' he hit hsz hk=>?_,SL I2[kc H1 {s1 with heap:=h'}][xVy s1.toks hk][yjH (ym4 1,[ym4 1,s1.heap.objs.size],_,_,H1,rfl,I2,xhI l _ _[Nat.succ_ne_self _],(PL he,hit),uL,q)],BU WQ[s1.heap.objs.size≤b][by
   show lh _J
   ·show Sc hb nr
   ·show xFo ρ][I1.fpOk WQ[I1.hok.fresh WQ]])
def xaQ {K:Frag}{g:TG}{tt:TT}{te:TE}{R:jq}(Pv:DQ xIv)(h0:Pv ż xCp)(hl:∀i ys H,me->Vc->Zq)
  (hs:∀i x ys σ H p,uG->Vc->xTb->pF->g Dc zrs[xJZ[λ c H5=>xLA c zk4]])
  (hd:∀ys H,ydC H->R H) (mg:∀x σ H (A B:F9),rF[xZa->xZb]->oh A->oh B) (mtt:∀σ H (A B:Pt),(IH zdN)->xZ5 H A->xZ5 H B) (mt:∀σ H (A B:VK),(IH zdN)->oj A->oj B):
  Yh[SC->F9][x1m/\∀i m ys σ' H',dt->
   (xS6 xI2/\R H')\/(xTs xI2/\∀x H2,xTh xI2 x H2->xE4[xJZ[λ c H5=>xLA c[λ y H4=>
    X7=oZ/\pW/\eE[m'<m/\fq[i+1]]][eE[m'<m/\xNB zdE]]]])]:=by
 show x8 zgU;rintro i m ys σ H ⟨rfl,hi,hn,p⟩;have q:=xEt ys H hi p;by_cases RQ:xKm
 ·show(bK[xT0 (vcR,q,xXx)],(p1,x1,SI,e1,e2,y)=y);subst e1 e2;show FJ[mg _ _ _ _ zml[xEu x1 ys σ _ p1[y xs q] p hn SI]];cases c with
  |true=>
   show pV Cm zkJ
  |false=>
   show pV yaf znE
 ·show aw[ao i] zhh
universe L2
namespace K26.S
open PySem L2 QQ PM D6
seal PE PA PS Ó PT PW PG PI
inductive xlU (vs:SC) (H:Hp) (Q:VK) (RW:XK):Prop
 |mk (a:RA) (B:LE) (hi:Nat) (h0:vs=sZ[vN hi]) (h1:Α=ve) (h2:xAw[b≤hi]) (h3:AJ B.length) (h4:xUR 300) (h5:(∃b∈B,0<b)) (h6:x7m):xlU Ã
def xag:XV xBi xBi xzw:=Uf
def io (R:LE):Bw=yhx[xX2 b qI]:=CM Mv
def xlu {f fA fW:RA}(F:Ρ zh3 xBi)(AW:ycL zdn zea)(W:xRc)(T:FW):xyS xBi xlU:=by
 show(xxp tt ht T.things xag[λ RO A outer s H vs Q E hr h=>?_],(a,B,hi,vbp,h1,h3,(b0,hb0,YX),k)=h,aR U3 2,hn=xFU,DR[xHm[IX[xpx AW W T] U3 AW 0[eu Yk]] ZD[xDE[xmD xvz xvz aj vP[Ft 300 ht tt]][yG cZ[ylW[xiR hn] T.max vk] aj]]] (ě,B,0,Á,hB,λ b z=>xDX[qW z] xK4[IE[lu _I this]],Á,Br),xJL (_U,BZ hB,Ć,xDP[JY[Ex[Int.toNat_le.mp h1]]] h)[Io ă È[xDP[JY[Ex[yjS rfl h3]]] h]][xW a[B.map ya5][hJ hB][yem JO][Ο n hn hmax]]);have:lG[Tl b0]:=hmax _[QA hb0];refine xRy
 try dsimp only
 show Sc[oF[vo 0 n] xIK] k
inductive _d (vs:SC) (H:Hp) (Q:VK) (RW:XK):Prop
 |mk (a:RA) (B:LE) (m:Nat) (h0:vs=sZ o7) (h1:Α=ve) (h2:xAw[xNS b]) (h3:AJ B.length) (h4:xUR 300) (h5:(∃b∈B,0<b)) (h6:AJ m) (h7:zi m) (h8:Ez[B.filter[kP _E]][2^m]) (h9:wg):_d Ã
def xcT:XV nK nK xvx:=Uf
def ndC:xEk ["count"]:=Z8
def xbL {f fT fA fW:RA}(F:Ρ zii nK)(Th:ykh xzw xBi fT fdT)(AW:ycL zdn zea)(W:xRc)(T:FW):xyR nK _d:=by
 show(EF tc hc T.count tm zgh,BA xcT[λ RO A outer s H vs Q E hr h=>?_],(a,B,m,vbp,h1,h3,UA,m1,m2,hfit,k)=h,xQ,Av[xTe[Je[xlu Th AW W T] Th 0[B9[Ft 1000000 hc tc]]][xTe[IX[xuq W T] Si W 1[WX xYN]][d8 cZ[SD xtX T.len O0[B9[xpE (N:=["count"]) (g:=ou) zmO ze2 Z8[xu1 AB]
   (λ fp s H=>xSW ndC)[λ fp s H=>xKp AB][λ fp s H=>AB]]]][xDk χ] pX]]] (_t,B,1000000,vbp,h1,h3,UA,Á,x98),xCs,SL e1[JL[Fm Ih aP&&Fm aP 12]][BH[JY[VF Ih aP[Int.toNat_le.mp m1]]][JY[show zi aP by show Au[IE[Z1 f6 f6 m2]]]]] (Á,aP,1,12,vbJ),CS,Dp[AK x98],Υ[gX a hB gQ][xty zfZ (l:=l) (xs:=vU) (n:=1) (g:=ou) zmO
  (λ i ys H'=>ys=AY[xG3 xBH _E]/\B1=oZ/\AA)[k8 ae gw][λ i ys H' _ z9=>by show(xMb sm,jV[oR hB])] zdp ?_])
 ·rintro i x ys σ H' hx ⟨rfl,hl,sm⟩ hσ;show(Mk b SH hx,(Ue:i<B.length)=x99,B5 u0 u0 zg3,SL hlen[xQu[xG3 xBH _E]][JW[Oc _ _][Ji[xOi h3]]][zl ĝ x_],[x0c,KP])
  try dsimp only
  by_cases h0:0<b
  ·show Ζ[Kq[JY[Kl IF qI yfF]]][xW hl[cz[Ex[Ga hlen]]] ?_ ae xJ7]
   ·show BH[Kv xVO] J8
   ·show bp xDh
  ·show Ζ znN
   ·show Dq[KH xVO]
   ·exact hl
 ·rintro ys H' ⟨rfl,hl,sm⟩;show(xCJ K0 hl,(l,Á,BZ hl,Ø,(xK4,(IE[Z1 f6 BB m2]),Z9),Ć,xXK[HG sm]));exfalso;show(uJ Jq JO KG,E7[Ih*2^m=Tl[2^m]][Dq Rx],xLM e2[aX zcq AO hfit Ua])
 ·exact λ x σ H A B h z=>lI
 ·exact λ σ H A B h z9=>by show((vbw,c,e4,z)=z9,(vbw,c,e4,lI))
 ·exact λ σ H A B h z9=>BI v e1 z z9 v e1 lI
def Bun (H:Hp)(A:Ξ)(t:RA)(b:Bd):Prop:=∃l,t∉A/\l∉A/\rk [vN Ig,Hm]/\Vw=Bc uD
inductive xru (vs:SC) (H:Hp) (Q:VK) (RW:XK):Prop
 |mk (t l:RA) (n:Nat) (h0:vs=[yd]) (h1:rk [FY,Hm]) (h2:lQ FY):xru Ã
def xan:XV xGK xGK xuo:=Uf
def pc (F:Ρ "weight_of" xuo xGK):f7 xGK xru:=by
 show(BA xan[λ RO A outer s H vs Q E hr h=>?_],IG t l n rfl ht k,xLz x8i (vcg,zq,k))
inductive Sy (H:Hp) (A:Ξ):dS Ξ DK
 |nil:xUe i_
 |cons {t:RA} {b:Bd} {ts:Ξ} {bs:DK}:Bun H A t b->uR->xUe[t::ts][b::bs]
def Sy.keepA {H H':Hp}{A:Ξ}{bs:DK}(h:uR)(s:∀c o,c∉A->Μ=LT->Bo=LT):yew H':=by
 induction h with
 |nil=>show zG
 |cons a _ ih=>
  show F7 l ï Ç a[xUN (l,n1,n2,FV n1 h1,FV n2 h2)]
def Sy.keep {H H':Hp}{A:Ξ}{bs:DK}(h:uR)(s:AA):yew H':=h.keepA λ c o _ e=>s c o e
def Sy.sub {H:Hp}{A A':Ξ}{bs:DK}(h:uR)(s:∀a∈A',a∈A):Sy H A' ts bs:=by
 induction h with
 |nil=>show zG
 |cons a _ ih=>
  show F7 l ï Ç a[xUN (l,TD[n1[s _ z]],TD[n2[s _ z]],é)]
def Sy.app {H:Hp}{A:Ξ}{bs cs:DK}(h:uR)(g:xUe us cs):xUe[ts++us][bs++cs]:=by
 induction h with
 |nil=>exact g
 |cons a _ ih=>show xj a
def Sy.len {H:Hp}{A:Ξ}{bs:DK}(h:uR):ts.length=bs.length:=by
 induction h with
 |nil=>rfl
 |cons a _ ih=>rw [Ki,Ki,ih]
theorem Sy.at {H:Hp}{A:Ξ}(h:uR):∀{i:Nat} {b},B8 bs b->JM[B8 ts t/\Bun H A t b]:=by
 induction h with
 |nil=>intro i b h;show Ed
 |cons a _ ih=>
  intro i b h;cases i with
  |zero=>show(Ed,FU h[AK a])
  |succ i=>show Ed;simpa using ih h
def xaS:∀n {B} {i} {a b},xSV->HC B[2*i] a->HC B[2*i+1] b->B8[zE] ((mj+Ig,xSA++uD)):=by
 show xDV
 induction n with
 |zero=>intro B i a b hB h1 _;show(wB zmY,x7F)
 |succ n ih=>
  intro B i a b hB h1 h2
  match B,hB,h1,h2 with
  | [],_,h1,_=>show x7F
  | [x],_,h1,h2=>simp at h2
  |x::y::r,hB,h1,h2=>
   cases i with
   |zero=>simp at h1 h2;subst h1 h2;rfl
   |succ i=>
    show xDR[BL[2*(i+1)][2*i+1+1][NJ[Nat.succ_add _ 1]]] h1;simp at h1 h2;show gY[(x6b)[i]?=_][ih[by show(xHs,Mz hB)] Ç]
def xuk {ts:Ξ}{i:Nat}(h:B8 ts t):(cq)[i]?=υ t:=BH KS h
def xdA (m)(h:nP m):yb5 1 aP 2/\x2M 1 m 2=Tl[m/2]:=by
 show(SL e[x2M 1 m 2=Tl[m/2]][by
  show ykG Z9
  split<;>lia] (?_,e),(f:∀i,HE 0->i<100000->WF yiZ)=λ i h0 h1=>by
  show(yi8,BH xIK xIK),ymy e)
 try dsimp only
 rw [f 1 Ċ,f aP Z5[ku[AI h]],f 2 Ċ,f[Tl[m/2]] wM[ku[Dd [_,_] x8v[EI 2000] Tm x4x h ER]],Kq Z9,f[aP+(2-1)] Z5 Z5];simp
inductive Ŝ (vs:SC) (H:Hp) (Q:VK) (RW:XK):Prop
 |mk (p av:RA) (ts:Ξ) (B:DK) (h0:vs=Cw) (h1:H p=xDb) (h2:EO o[H av=LT]) (h3:Sy H xKO ts B) (h4:xGz) (h5:xAw[Ez uD 8000000]) (h6:bL l RA us Ξ Hp[AA->DP->B1=Ak xVm->Sy H' xKO us zE->BD]):Ŝ Ã
def xvW:XV ["bundles","pairs","place","first","second"] xMY xub:=Uf
def xas {P:RE}{K:Frag}(F:Ρ "in_pairs" xub xMY)(T:FW):f7 xMY Ŝ:=by
 show(BA xvW[λ RO A outer s H vs Q E hr h=>?_],(p,av,ts,B,_R,(oav,hav),hB,hBl,hsm,k)=h,CY[Em 1 xvW.nd yw[zU[xmy zj2[eu[yT vP]]] 2 xvW.nd[DJ 3 xvW.nd[Hh[uW Ε]] 4 xvW.nd[Hh Ε][xJ5 χ[aT[IB[Ee sf xCA][HA sf xCA]]]]]] χ],ω Ww hB.len M',Gd[IQ zdF],Ty s0 xPo Vj[xdA ts.length[ET ù xWS Cg hBl xOx]],Ai g1 (ß,Á,BZ[sQ hp],1,_,2,ts.length/2,rfl,Z9,Ex Vj.1,Ex Vj.2,PZ Z9,xnn (D:=Ym) (lo:=1) (c:=2) (n:=ts.length/2)
  (λ i σ H2=>∃(v2 v3 v4:EE) (us:Ξ),σ=[Bh,zt,v2,v3,v4]/\pG=Ak xVm/\Sy H2 [l,av] us[(zE).take i]/\Yp)[JG zdd none [] ae .nil s0] Î))
 ·show x4;rintro i σ H2 hi ⟨v2,v3,v4,us,rfl,UQ,hus,sm⟩;show(SB l0[2*i<B.length][Hu [_,_,_,_] zn0 x8I ST xOx[xEZ hi] ER] l1[2*i+1<B.length][Hu [_,_,_,_] zn0[Ar x8I] ST xOx[xEZ hi] ER],SB g0[HC B[2*i] B[(2*i)]][JX l0] g1[HC B[2*i+1] B[(2*i+1)]] xZ8,Ty z0[hsm _[Ms l0]] z1[hsm _[Ms l1]],Es hpa[xaS _ ρ g0 g1],(t0,ht0,la,_,_,YS,XT)=(hB.keep sm).at g0,(t1,ht1,lb,_,_,vbg)=(hB.keep sm).at g1,π,xw0 B[(2*i)] ba B[(2*i+1)] bb,Gn[Ih+ui*2=xV[2*i]][Uw[Hj[xSB[wQ 2]] x8I] x8I[xSB[wQ 2]]][xV[2*i]-1=Tl[2*i]] Z5,Sw=x9y,CS,uH g2[FD zc3 _ Ð ?_])
  try dsimp only
  show(x0v,IZ[zl p _ _ _[RV.of Sw][aF[xuk ht0]] ZV],oW g2 (Ŷ,Û,RV.of Sw,aF[xuk ht1],ZV) g2,FR hul hus.len J7 hul,CJ (Á,Zy UQ,Á,t0,Û,Sr.of YS,zq,Á,t1,Û,Sr.of SH,zq,Ć,t0,Û,Sr.of YS,zp,Á,t1,Û,Sr.of SH,zp,la,lb,Å,XT,UE,(by show(xLC JO Om,IY zbh[D8[.n 8000000] 8000000] xGl z0 z1)),UV q nq) e3[V.int[Tl xQe+Tl xQf]=vN[xQe+xQf]][xMy xKs],Θ s3[DI[AY ba.2++AY xHr] nq] h3q[(EN H2 zrw) q=xf ba.2 xHr] xD0,XJ=Dz UQ,lD H2 zrw H3,EJ tT[UV t nt])
  try dsimp only
  show([e3],XM s4[xSM [vN[xQe+xQf],xx0]] h4t[Hl[(sG H3 zqq) t] [vN[xQe+xQf],xx0]],Ty h4l[Fp XJ] h4q[Fp h3q],Fx nql[q≠l][TD[Ek UQ nq nq]][sG H3 zqq] H4,SL sm4[xQr H4] xVP (vbd,h4l,cz[y8[HK [_,_,_,_][AV[Um T8 qZ]][Yb xYt] Cg hBl l0[Ge hul DU]]],Ν[2*i+1],υ t0,υ t1,us++[t],rfl,à,xJ7))
  ·show Zn
  ·show([Lk,hpa],(kk:∀c o,c∉ [l,av]->xKP=LT->(nO H4[xVm++xxW t]) c=LT)=λ c o n e=>W8[TD[n FN]],Cc h2av[oR hav] ntl[t∉ [l,av]][TD[by
    simp only [Kt,Qi,or_false] at z;clear s0 h4l;show Sx z
    ·show A8 XJ nt nt
    ·show A8[Dz h2av] nt nt]] nqa[q∉ [l,av]][TD[by
    simp only [Kt,Qi,or_false] at z;clear s0 XJ h4l;show Sx z
    ·exact nql rfl
    ·show A8 h2av nq nq]],(hus.keepA λ c o n e=>xT7 n[sm4 _ _ e]).app[jt (q,ntl,nqa,xT7 ntl h4t,xT7 nqa h4q)])
  ·show bp[sm4 _ _ xDh]
 ·rintro σ H2 ⟨v2,v3,v4,us,rfl,UQ,hus,sm⟩;show A3[Kg[Sc[x19 _ B ρ][JQ[congrFun[congrArg HDiv.hDiv Ww.symm] 2]]]] hus[xP3[yg us H2 sm nl UQ[hus.sub λ a h=>by show(Ed,x91)]]]
theorem Sy.zip {H:Hp}{A:Ξ}{bs:DK}(h:uR):∀z∈ts.zip bs,Bun H A zbE:=by
 induction h with
 |nil=>intro z hz;show x7t
 |cons a _ ih=>
  intro z hz;rw [List.zip_cons_cons] at hz;show yZ hz hz
  ·exact a
  ·exact ih z hz
theorem xtE:∀(as:Ξ) bs,(bs.map[xFG xPi]).zip[as.map V.ref]=(as.zip bs).map[λ z:RA×Bd=>Yd[xPO z] gA]
 | [],bs=>by simp
 |a::as,[]=>by simp
 |a::as,b::bs=>by
  have:=xtE as bs;simp only [L5,List.zip_cons_cons,this]
theorem Sy.take {H:Hp}{A:Ξ}{bs:DK}(h:uR):∀n,xUe[ts.take n][bs.take n]:=by
 induction h with
 |nil=>show(xDV,Γ List.take_nil List.take_nil .nil)
 |cons a _ ih=>
  show xDV;cases n with
  |zero=>show zG
  |succ n=>exact xXL[ih n]
theorem xtP {H:Hp}{A:Ξ}:∀{Z:rW RA Bd},mq z Z[Bun H A zbE]->xUe (Z.map (·.1)) (Z.map (·.2))
 | [],_=>.nil
 |z::Z,h=>.cons[eJ z][xtP λ y hy=>uA y hy]
def xje {L:LE}(lv:xO8 k B):xAw[Ez uD[2^k]]/\xUR IP:=by
 have ps:∀n q B,xSV->xAw[Ez uD q]->Eg zE[Ez uD[2*q]]:=by
  show xDV
  induction n with
  |zero=>intro q B hB _ b hb;show(wB zth,xR1)
  |succ n ih=>
   intro q B hB h b hb
   match B,hB,h,hb with
   | [],_,_,hb=>show xR1
   | [x],_,_,hb=>show xR1
   |x::y::r,hB,h,hb=>
    show xR
    ·show oO[eJ x][uA y Kj];show CZ ZF y.2≤_;show Bx JP[Dd zj6[C7 XL] Δ T8 Ç]
    ·exact ih q r[by show(xHs,Mz hB)][CG[uA b xYp]] Ì
 induction lv with
 |zero=>show AX[CG[by simp at hb]] Bz
 | @step k B B' _ hp hs ih=>
  show Ty T6[x19 _ B ρ] hl hp.length_eq;rw [JP,JO,T6] at hl;show(EJ uL[by have:=ih.2;show Au[Fs 2 [_,_,_,_][Be[Bu T8]][rH Φ[xSJ Dk]] SZ oq[Ct 2 hl][xKo this]]],ql[AJ[2^(k+1)]] Nat.one_le_two_pow,gU ycR hb hb)
  ·show(x3Q p rfl hb,h1)
  ·have:=ps _ _ B ρ ih.1 Ì;show Bx LA[lu [_,_] oq[xC7 2] this]
inductive Ŕ (vs:SC) (H:Hp) (Q:VK) (RW:XK):Prop
 |mk (p av:RA) (ts:Ξ) (L:LE) (wt:Ea) (m:Nat) (h0:vs=[Dc,o7]) (h1:H p=xDb) (h2:EO o[H av=LT]) (h3:Sy H xKO ts ZL) (h4:Tj ZL) (h5:yea) (h6:x9r) (h7:AJ m) (h8:zi m) (h9:∀(l:RA) (us:Ξ) (B:DK) (H':Hp),AA->DP->B1=Ak xVm->Sy H' xKO us[xGN zdk]->xzS ZL m B->BD):Ŕ Ã
def xrp:XV ["singles","most","bundles","step"] xVj xwP:=Uf
def xad {P:RE}{K:Frag}{f xzF fW:RA}{fd fdP XX:RG}(F:Ρ zhG xVj)(Pa:ymD xub xMY xzF fdP)(We:ylQ xuo xGK zcj)(T:FW):xyS xVj Ŕ:=by
 show(BA xrp[λ RO A outer s H vs Q E hr h=>?_],(p,av,ts,L,wt,m,_R,(oav,hav),hB,hso,n1,n2,m1,m2,k)=h,tS _H Uj 3,ω hn xFU[DT[Em 2 xrp.nd[x6J xvH Ly vk][zU[xrO zj2[B9[uW χ]]] 3 xrp.nd[qP 2 xrp.nd[xnh (sp:=xru) (pc We) Uj We.b Z7 zrQ[B9[HA AB[wZ[xas Pa T] Pa 2]]]]]][Xc Ε[ylW[xhR hn] T.max[WX[uW[wx vP]]]]]]],qv Ww hB.len Ww,xHS,Gd[Hn p[BZ hp][bf l0 nl0]],Θ s0[DI cq nl0] lv1[xzS ZL 1 ZL][.step .zero[Γ[Js[pairs ([]:DK)] []] Ku ydo] hso],SL e1[aP-1=Tl[m-1]][mE m1][UZ xEo])
 try dsimp only
 show(xFl[xAu[Tl[m-1]] rfl[Ph[2^62] _] Z5],Ζ KG[xKu Ym 0[m-1][λ i σ H2=>∃(lb:RA) (us:Ξ) (B:DK) (v3:EE),σ=[Bh,xKU,υ lb,v3]/\H2 lb=Ak xVm/\Sy H2 xKO us B/\xzS ZL[i+1] B/\Yp][cF l0 ts _ none ae[hB.keep s0] lv1 s0] Î])
 ·show x4;rintro i σ H2 hi ⟨lb,us,B,v3,rfl,hlb,hus,lv,sm⟩;show(xOm hsz hBl[xje lv.lev] hsz2[Eg B[Ez uD 8000000]][CG[by
   show(Cc h1[hsz Ì] h2[2^(i+1)≤2^12][xr[VZ [_,_,_][AV[HV Tm]][x0r EA] f6 m2 hi IJ]] h3[rV 2^12=4096] Z9,JW h1[Ga h2])]],ω T6[x19 _ B ρ] (Ï,lb,av,us,B,rfl,hlb,PL[oR hav],hus,(ET [_,_][xSJ SZ][rH xxY oq] D5[xEZ n2] hBl),hsz2,λ l ps H3 s3 nl hl hps=>?_),ω hpsl hps.len (p,vbd,Dz x9y,hl,(by show(xLC JO Om,IY zsn xGl zlV)),UV q nq),Cc s4[DI[cq++VW] nq] Ss[Sy[xFt q[cq++VW]] xKO[ts++ps][ZL++zE]][((hB.keep ymm).app hps).keep s4] h4q[(xFt q[cq++VW]) q=Ak[xBD[ts++ps]]] xD0,sm4=(ymm).trans s4,lD H3 q[cq++VW] H4,ω YR Ss.len[FD q[xBD[ts++ps]][Xg[ZL++zE] b xPi][RV.of h4q][X8 JO YR][by show(Fn JP,IY zsn D5 zlV)][λ j v kk hv hk=>?_][λ lo mm nlo hpw hstb=>?_]])
  ·show xHH hk;cases e:(ZL++zE)[j]? with
   |none=>show yf hk hk
   |some b=>
    rw [e] at hk;show((t,ht,lt,_,_,é)=Ss.at e,veG)
  ·show(yp hz[(Xg[ZL++zE] b xPi).zip[xBD[ts++ps]]=((ts++ps).zip[ZL++zE]).map[λ z:RA×Bd=>Yd[xPO z] gA]][xtE _ _] hz hstb,zc Z' zoW,Cc hZ zoo[ymN xyz[ZL++zE]][Jw[SM.xlW zoC JC U8][Qk x4r]] hZB[yjD[ZL++zE]][ylR[Qk x4r]],(hso':ykf)=by
    rw [Mv,P3] at hpw;show xI0 Tj P3[hpw.imp[λ {a b} h=>BU h'[xPO a≤xPO b] h[QP.mp h']]],ω s5[yiA nlo][cF lo ymn ymo[xBB[0+ui]] Î[.step lv hSB hso'][sm4.trans s5]])
   ·show Jm ae Mv Mv
   ·exact x7T[xtP λ z hz=>Ss.zip z yjV]
 ·rintro σ H2 ⟨lb,us,B,v3,rfl,hlb,hus,lv,sm⟩;rw [show m-1+1=m by show Cn[UK[xDz AZ m1]][El ST zdD τ]] at lv;show(xRY,(_,hBl)=xje lv.lev,ω hul hus.len (Ŷ,Á,BZ x9y,Å,xEa,Å,Ö,?_),E7[ug[Ψ 2*xWL cq-2>1][Ψ 2*xWL cq-2] 1=Tl[x0L[IP-2]]][by
   show Fn Ww;split<;>lia])
  try dsimp only
  show Ζ e2[xZm lb hlb[UV zcO]]
  try dsimp only
  show([xzE,-MF],jA s5[xKn[xBD[us.take[x0L[IP-2]]]]][Fl l5 B _ ym5[x5z sm] ae[x7T[hus.take _]] lv])
structure FnL (K:Frag)(mg:Τ)(x:Str)(st:RM)(ps:C6)(f:RA)(fd:RG):Prop where
 F:∃dV,xFA x x Ò
 m:cY=aM
 b:eB
 d:JM[xNV [Sf 6]]
theorem FnL.kp (F:FnL Â x zb6):X4:=F.F.elim λ _ z=>z.kp
def xzN (C:LE)(p:Nat):Nat:=C.getD p 0
def pos (C:LE):LE:=xw9 C.length[kP p[0<CQ p]]
def LnOf (C:LE)(m:Nat)(ln:Ea):Prop:=∃(L:LE) (B:DK),Tj[x2p CQ]/\x3s xyz[x2p CQ] xRH/\xzS[x2p CQ] m B/\ln=occ[xGN zdk]
theorem LnOf.uniq (h:x9j m ln)(h':x9j m ln'):ln=ln':=by
 show(TL,IG L B zd1 a4,(L',B',vbq,b4)=h',Ty e[SM.xqe SG.xym[xvu a1][xvu b1][a2.trans b2.symm]] el[jz e],xCJ JO el);rw [<-e] at b3;have:=a3.uniq b3;clear b3;show(xFX,π,[a4,b4,el])
def Sy.fresh {H:Hp}{A:Ξ}(h:uR)(n:Bf av):Sy H xKO ts bs:=by
 induction h with
 |nil=>show zG
 |cons a _ ih=>
  show((l,_,_,é)=a,xj (l,TD[ai h1 n xXh],TD[ai h2 n xXh],é))
def í (h:j<n):UF[Ĩ n[Tl j]] j:=by
 show yX Ĩ[Kq wM][Kq[NS.mpr h]];simp
def set_range {f f':Ea}(h:∀p,f' p=f p+ m9 [q]):(xSu[λ p=>vN[f p]]).set q[vN[f q+1]]=xSu[λ p=>vN[f' p]]:=by
 show(MB[Gf i],[List.getElem?_set,JO,Ml,KS,KS]);by_cases hi:i<n
 ·rw [N1 hi];by_cases e:q=i
  ·show(DX,[Cm,Kq hi,N3,h q]);simp
  ·show([xRo,N3,N3,h i],DA[[q].count i] 0[NO[Cy yex]],[this,NA])
 ·show(E7[Ω (List.range n)[i]?][KZ[Sc Ml[KW hi]]],x0v);by_cases e:q=i
  ·clear h e2;show(DX,BH Cm[Kh hi])
  ·show CM xRo
inductive xj4 (vs:SC) (H:Hp) (Q:VK) (RW:XK):Prop
 |mk (a:RA) (C:LE) (m:Nat) (h0:vs=sZ o7) (h1:Α=Ak xNA) (h2:(Eg C[xNS b])) (h3:AJ C.length) (h4:C.length≤300) (h5:(∃b∈C,0<b)) (h6:AJ m) (h7:zi m) (h8:Ez[yhC _E][2^m]) (h9:xQu xVE) (h10:x5H xVE) (VB:Ez xVE[2^m]) (h12:bL l RA ln Ea Hp[DP->AA->B1=Ak[x1X xKh]->ģ xVE CQ m ln->x9j m ln->BD]):xj4 Ã
def xvY:XV ["counts","most","singles","lengths","bundle","place"] nK xpA:=Uf
def xi5:xEk ["place","count"]:=Z8
def xi7:TE:=yaA 1[rT[x7y lg]]
def xi0:TT:=xZg[xAn i j[j<i]] 1 xQw
def ok_lengths {P:RE}{K:Frag}{mg:Τ}{base:RI}{f fN fT fA fW' fL xzF fW:RA}{fd fdN fdT fdA fdW' fdL fdP XX:RG}(F:FnL Â ztj nK Ò)(Ne:FL zii nK zdu)(Th:ykh xzw xBi fT fdT)(AW:ycL zdn zea)(W:x4U fW' fdW')
  (Li:FL zhG xVj fL fdL) (Pa:ymD xub xMY xzF fdP) (We:ylQ xuo xGK zcj) (T:FW):xQs nK xj4:=by
 show((dV,F0)=F.F,fH[F0.ok xvY λ RO A outer s H vs Q E hr h=>?_] _,(a,C,m,_S,hC,c1,c3,UA,m1,m2,hfit,p30,p1,pm,k)=h,AH zec BM zgz BM[DT[Iz[Je[xbL Ne Th AW W T] Ne 0 Yk][qg xvY.nd[xnh (sp:=xru) (pc We) Uj We.b Z7 zrQ[B9[xpE (N:=["place","count"]) zm2 (te:=xi7) ze2 Z8
   (xtL Z7 T.enum vk)[λ fp s H=>xIe[mF 0 xi5[mF 1 xi5 xz8]]]
   (λ fp s H=>xKp χ)[λ fp s H=>aT[AL 1[aK vk]]]]]][Em 3 xvY.nd[xZX yc vP][vn[IX[xad Li Pa We T] TQ Li 2 Yk] 4 xvY.nd[ag[vn xCA 5 xvY.nd[ag[xz5[Rd[vA Ab EH]][xuf Ab EH xur]]]]]] Ab]]]],Gd (ě,C,m,_S,hC,c1,c3,UA,m1,m2,hfit,bf l_),xAd YS CV[UZ[xZm a YS gQ]][xaQ zfZ (l:=l) (xs:=xNA) (n:=2) zm2 (te:=xi7)
  (λ i ys H2=>∃ts:Ξ,ys=cq/\pG=oZ/\Ap/\Sy H2 [l] ts[(xw9 zsQ).map[sgl CQ]])
  ([],į,gw,.nil)[λ i ys H2 _ z9=>by show((_,_,_,sm,_)=z9,jV[oR YS])] zdp ?_])
 ·show x4;rintro i x ys σ H2 p hx ⟨ts,rfl,hl,sm,hb⟩ hσ hp;show(Mk c hc hx,SB Ue[xXR i][rB hc] hcw[CQ i=c][Jm xzN Kb hc])
  obtain⟨u0,u1,rfl⟩:∃u0 u1,σ=[u0,u1]:=match σ,hσ with| [u0,u1],_=>ZK u0 u1
  show(Ty sp[jN [yig,uF] hp] hlp[sp _ _ hl],Fx hpp[Hl[(p7 p [yig,uF]) p] [fV,uF]] ae[p7 p [yig,uF]] H3,Υ (p,Á,Sr.of hpp,vbG,ø)[zl ĝ x_],qv Ww hb.len Ww,(hfl:xQu[xw9 zsQ])=JW[Oc _ _][Sc Ml[JW[Ks Ue] c3]])
  try dsimp only
  rw [Pm,KP];by_cases h0:0<c
  ·show(yz[Kq[JY[Kl IF[Tl c] yfF]]][Kv[Sc hcw[JY h0]]][Zv zjd[λ q nq=>uY tT t nt]],Ty sq[DI [fV] nq] hlq[sq _ _ hlp],SB hqq[(xFt q [fV]) q=Ak [fV]] ae nql[q∉ [l]][TD[cx xXh hlp nq nq]],lD H3 q [fV] H4,Ty st[xSM [uF,xx0]] RQ[Xd hlq],Cc hqt[Xd hqq] XR[Hl[(sG H4 t [uF,xx0]) t] [uF,xx0]] ae ntl[t∉ [l]][TD[cx xXh hlq nt nt]],xNq H4 t [uF,xx0] H5,AH s25[xQr H5][(sp.trans sq).trans st] kk[∀c' o,c'∉ [l]->H5 c'=LT->(nO H5[cq++xxW t]) c'=LT][λ c' o n e=>W8[TD[n FN]]] (RQ,cz[y8[ET zbh[yy 300] Cg xOx hfl]],rfl,ts++[t],CM J8,ae,HL c' o,?_))
   ·show bp[s25 _ _ xDh]
   ·show Ζ J8[(hb.keepA λ c' o n e=>xT7 n[s25 _ _ e]).app[jt (q,ntl,nql,?_,xT7 nql hqt)]];show UF _[HO.tup [vN[CQ i],xx0]];show Sc hcw[xT7 ntl XR]
  ·show(yz[Kh[ym xC3 Z4]][KH[by show([hcw],xVO)]][xAk rfl ts hlp[sm.trans sp] ?_],Γ List.filter_nil Ku[hb.keep sp])
 rotate_left
 ·rintro x σ H3 A' B' hAB ⟨a',xs,e,hq,hl',v,r,e2,v2,r2,e3,e4,h⟩;exact(a',xs,e,hq,hl',v,r,e2,v2,r2,e3,e4,hAB _ _ h)
 ·exact λ σ H A B h z9=>by show((vbw,c,e4,z)=z9,(vbw,c,e4,lI))
 ·exact λ σ H A B h z9=>xxx v e1 v2 e2 n1 z z9 (v,e1,v2,e2,n1,λ q nq=>IQ (z q nq).1 t nt[wK[(z q nq).2 t nt]])
 rintro ys H2 ⟨ts,rfl,hl,sm,hb⟩;show wL JO hb WQ[Sy H2 [l] ts xRH] hb;clear hb;show(qv YR WQ.len YR,FD l cq[Xg xRH b xPi] xWP[bE JO JO JO YR][y8[ET ù[EI 300] D5 p30[JQ YR]]][λ j v kk hv hk=>?_][λ lo mm nlo hpw hstb=>Al])
 ·show xHH hk;cases e:(xRH)[j]? with
  |none=>show yf hk hk
  |some b=>
   rw [e] at hk;show((t,ht,lt,_,_,é)=WQ.at e,veG)
 show x4;rw [xtE] at hstb;show(zc Z' zoW,Cc hZ zoo[ymN xyz xRH][Jw[SM.xlW zoC JC U8][Qk[Ex x4r]]] hZB[yjD xRH][ylR[Qk[Ex x4r]]],(hso':ykf)=by
  rw [Mv,P3] at hpw;show xI0 Tj P3[hpw.imp[λ {a b} h=>by show((h':xPO a≤xPO b)=h,yj zcB[ycw h'])]],(L,UL,hLp,eL,eU)=xmM (RX:=ymo) (UX:=[]) (Sc Ku hZB.symm),(eU':UL=[])=by simpa using eU.symm)
 subst eU';rw [Ku] at hLp;show(Ty s5[yiA nlo] hbs[x7T[xtP λ z hz=>WQ.zip z yjV]],ZY XG (UF ((upd H2 lo (.lst ((Z'.map[λ z:RA×Bd=>((((z.2.1:Nat):Int),V.ref z.1))]).map (·.2)))) lo) (.lst ((Z'.map (·.1)).map V.ref)))[Jm ae Mv Mv] sm3 ym5);generalize upd H2 lo (.lst ((Z'.map[λ z:RA×Bd=>((((z.2.1:Nat):Int),V.ref z.1))]).map (·.2)))=H3 at*;rw [eL] at hbs hso' hSB;generalize ymn=ss at*;clear hZ hZB hstb U8 hpw eL eU hl WQ sm s5 YR;show(Ty hLl hLp.length_eq s03[s1.trans sm3],ω ha3[s03 _ _ ha][UZ[uY E9 l4 n4]],zf s4[DI xSZ n4] h44[(xFt l4 xSZ) l4=Ak [TC]][xFt l4 xSZ] H4,Dp (_U,BZ[Fp ha3],vca,h44,Z5,Ex[ku[AI c3]],(X8 KG[bQ[by show(aQ[1*C.length],FX xxY[vR 1] Cg c3)]]),bf zcO),(ez:xKE[iE (xNA).length]=x1Y)=by
  show([KG,JO],et[xKE C.length=ybi[λ _=>TC]] Rk Ml);generalize C.length=n
  induction n with
  |zero=>rfl
  |succ n ih=>show zm LF LG ih LF)
 try dsimp only
 show([ez],XM s5[xKn x1Y] h55[(Tn x1Y) l5=Ak x1Y],Ty hb5[x7T[(hbs.keep s4).fresh n5]] hlo5[xCM XG],s05=(yc3).trans s5,Fx n05[Bf l5][x5z yc3][Tn x1Y] H5);clear s4 s5 h44 n4 n5 ez;show(Ai g1 (Ï,lo,l5,ss,L,CQ,m,rfl,hlo5,PL h55,hb5,hso',ykr hLl,(ET ù[EI 300] xxY p30[JQ hLl.symm]),m1,m2,λ lb ub B H6 s6 nlb hlb hub lv=>?_),Ty h65[ij h55] s06 ymp,SB X2[ģ L CQ zhL][by
  refine xao[hLp.nodup_iff.mp ?_] pL lv.lev[ykr hLl] m1[M3 hLl.symm pm]
  ·exact List.Pairwise.filter _ List.nodup_range
  ·show Jx (yjW hp).2[J5 this]] hwR[Eg[xGN zdk][oN uD[xXR q]]][λ b hb q hq=>Jx[xc0 lv.lev b[KA hb] ġ][OG.mp (yjW this).1]],Fx hln[x9j zhL] (L,B,hso',hSB,lv,rfl)[xGN zdk] R,Θ hulR hub.len hlb5[lb≠l5][sM h55 nlb]);clear hb5 hlo5 h55 hso' hbs XG;refine Kd lb[xAU hlb][mr K lb[ub.map V.ref][λ i σ H7=>∃v4 v5:EE,σ=[Cs,xKU,υ lo,xQm,v4,v5]/\H7 l5=Ak[x1X xPU]/\∀c o,Eu l5->H6 c=LT->H7 c=LT][zd zdd h65 yaQ][λ i σ H7 _ z9=>by show(yb4 z9,jV[DY hlb5 hlb])] Î]
 ·show x4;rintro i y σ H7 hi ⟨v4,v5,rfl,h7,kp⟩;show(SB Ue[xOg i][rO[rB hi] JO[yhS hulR]] hRi[B8 R R[(i)]] xCY,(t,ht,lq,nt,nq,é)=hub.at hRi,(hy:y=yd)=A3[xuk ht] hi[xHp hi])
  subst hy;show(RQ=hwR _[Ms Ue],Fx e1[∀p,Fj[R.take[i+1]]=xPU+m9 R[(i)].2][λ p=>(by
   show([Lk,hRi],HF[Fj[xMh++[R[(i)]]]=_] xno xt3))] R[(i)] bb,AH nq'[lq≠l5][TD[nq FN]] nt'[t≠l5][TD[nt FN]] (ė,Sr.of[DY nt' h1],zp,lq,rfl,xAU[DY nq' h2],mr K lq[AY xHr][λ j σ H8=>∃v5:EE,σ=[Cs,xKU,υ lo,xQm,υ t,v5]/\H8 l5=Ak[x1X[xPU+m9 xPY]]/\∀c o,Eu l5->H6 c=LT->H8 c=LT][Kd v5[by simpa using h7] kp][λ j σ H8 _ z9=>xF0 kp z9[RV.of[DY nq' h2]]] Î))
  ·rintro j y σ H8 hj ⟨v5,rfl,h8,kp8⟩;show(Mk ġ hj,SB hqn[xXR q][RQ q[Lq hq]] hg[x9[x1X[xPU+m9 xPY]] q[vN[xSn xMh+xxV xPY]]][BH KS[N1 hqn]],SL e2[Tl[xSn xMh+xxV xPY]+1=xV[xSn xMh+xxV xPY]][Qb _] (vcc,Û,RV.of h8,aF hg,ø))
   try dsimp only
   show Ζ e2 (vcc,_,_,q,Ú,h8,í[X8 Ml hqn],xEA,vfp)
   ·show([ae,set_range (f:=λ p=>xPU+m9 xPY) (f':=λ p=>xPU+m9[(xHr).take[j+1]]) (Gf p)],[xvD hq,Os,Lm])
   ·show Κ n[kp8 _ _ n e]
  ·show(xPG H8 v5 rfl h8 kp8,xCJ K0 h8,tN[nj j_ kp8] h8);congr 2;show tN[O9 λ p _=>?_][e1 p]
 ·rintro σ H7 ⟨v4,v5,rfl,h7,kp⟩;show(xJH hulR K0 h7,xP3[Fl l5 H7 n05[λ c o e=>DY[pq n05][s06 _ _ e]] h7[X2.perm hLp.symm] hln])
universe K26.S
namespace K26.Tb
open PySem L2 QQ W13 BP
seal PE PA PS Ó PT PW PG PI
inductive xkS (vs:SC) (H:Hp) (Q:VK) (RW:XK):Prop
 |mk (a:RA) (L:LE) (h0:vs=Dl) (h1:Α=ax) (h2:vE) (h3:(Eg zdh)) (h4:xEE):xkS Ã
def xhv:XV Jaf Jaf xr8:=Uf
def xgj (F:Ρ ziq Jaf)(Y:WZ):BY 3 Jaf xkS:=by
 show(TL,yko T W Y,EF tb hb T.bits tm hm T.many,π,BA xhv[λ RO A outer s H vs Q E hr h=>?_],ye a L rfl hL hl h6 k,ZH[ig[PW.pt[xVe[iq[Je[xpx AW W T] AW 0[WX[Ft 6 hb tb]]]][Bv kD vP xXI]]] pX] (_t,L,0,6,rfl,hL,λ b z=>xDX[h6 b z] xK4[IE[Z1[.n 6][.n 6] this]],Á,Br) (_U,BZ hL,Ŵ,xej ?_ k),BH JO hl)
inductive Ň (vs:SC) (H:Hp) (Q:VK) (RW:XK):Prop
 |mk (a:RA) (L:LE) (p ah:Nat) (h0:vs=[Aj,xEr,xPN]) (h1:Α=ax) (h2:vE) (h3:p≤272) (h4:zw[yde kH]):Ň Ã
def xro:XV ["lengths","place","ahead","most","again"] xVW xwN:=Uf
inductive ď (H:Hp) (a:RA) (L:LE) (p:Nat) (ah:Nat) (m:Nat) (n:Nat) (σ:St) (H2:Hp):Prop
 |mk (i:Nat) (h0:n=m-i) (h1:σ=[Cs,mi,x0s,xKU,Ν i]) (h2:H2=H) (h3:i≤m) (h4:∀j<i,aA[kH] ah):ď H a L p ah m n ë
def xaf (F:Ρ zir xVW)(T:FW):xyS xVW Ň:=by
 show(EF tm hm T.many ta hma T.mostA,BA xro[λ RO A outer st H vs Q E hr h=>?_],(a,L,p,ah,rfl,hL,hl,hp,k)=h,ω hn xFU[DT[Eh 3 xro.nd[SD zjp Qa[IB[Ft 66 hma ta][yQ xXI χ]]][Em 4 xro.nd aj[xHq[PW.pt[xq9[Bv dX AS Ab][xqC[Bv zj4 Ε]]]][qP 4 xro.nd xYz]] AS]]],Gd (Ø,Ö,Al),YE m em hm1 m[ug[Ψ 272-df<66][Ψ 272-df] 66=aP/\m=x23[272-p]][ZK[x23[272-p]][by split<;>lia]])
 try dsimp only
 rw [em];clear em;show(YM,xCs,FR hrl[xuY ah kH] Kc hrl,x8[ď H a L p ah m][rE m 0 Ð zp8]);rintro n σ H2 ⟨i,rfl,rfl,rfl,hi,Ss⟩;refine(Ï,Ć,Hd)
 ·show(SB h2 zoU e1 zte,SL l1[jG[p+i]][Kk[Mn[J6 h2[oE hm1 HN]]] hl.symm] (Ï,e_))
  try dsimp only
  show(CS,SL hgd[B8[kH] L[(p+i)]][by rw [NE,xZ8]] (a,Û,RV.of hL,uU l1,Á,rfl,Á,ux h3 h3))
  ·show SL h4[L[(p+i)]=ah][yhK h3][Dt[λ σ' H'=>σ'=[Cs,mi,x0s,xKU,Ν[i+1]]/\H'=H2][λ σ' H' z=>EV[m-(i+1)][LH _ _ h2][i+1] zbE jc xD8]]
   ·by_cases e:j=i
    ·show(xG8,[hgd,h4])
    ·exact Ss j[LD[LQ hj] e]
   ·exact VY _ Ÿ
  ·show(CJ xOR h4[xDQ (kH)[i]? ah][by
    show([hgd],vdg)],vH[xnv Ss h4][Mx[JW[Ks h2][oE hm1 DU]]] k k)
 ·show CJ[bD xOR] h2[i=m][by
   have UR:¬(WF[vo gy X9]):=h1;have:¬(gy<X9):=TD[UR xJf]
   exact JS hi[x0w[this[ku z]]]]
  clear hi h1;show(xIA,Θ h5[xsm Ss] e[yde kH=i][JS[JW[ymq (DU,xOi[hl▸hrl])][JQ hm1.symm]][ymq (oE hm1 DU,h5)]],xc k k)
def xbZ:∀P,xF3 P≤9*P.length:=by
 intro P;show(Bj[xF3 P=yff Itm.cost][xpg P],uf);clear e
 induction P with
 |nil=>simp
 |cons x P ih=>
  have:x.cost≤9:=by cases x<;>simp [Itm.cost]
  simp;show IY zdP[D8[CA 9] 9][.m 9 vF] ih this
inductive xkD (C:RA) (vs:SC) (H:Hp) (Q:VK) (RW:XK):Prop
 |mk (p d a:RA) (N0 T0:Nat) (L:LE) (h0:vs=jP) (h1:xBU C H N0 T0) (h2:xQx) (h3:Α=ax) (h4:vE) (h5:(Eg zdh)) (h6:a≠d) (h7:bL Pp mO b Nat Hp[x9B 0 0 Pp 272 b->Vn C zic->o8[Μ=LT->A9->EY->Bo=LT]]):xkD ä
def xzb:XV ["bits","lengths","place","ahead","again"] x52 xpa:=Uf
def ok_puttable (F:Ρ "put_table" xpa x52)(NT:FL ziq Jaf zdu)(AF:FL zir xVW zea)(B:xRe C):xyR x52[xkD C]:=by
 show(Es X B.R.X,BO W B.R.whole S B.needsize,vV O B.ones Pu B.put M B.move,Ty T B.T GP[x2m P w S W O M T X],vdN,BA xzb[λ RO A outer st H vs Q E hr h=>?_],(p,d,a,N0,T0,L,vbz,Yv,ha,hl,h6,nad,k)=h,AH zgz BM nap[uV a][by
  show(TL,(dx,_,_,_,hp,_)=hB,ZC[jh ziZ])][DT[Iz[zS[xgj NT B.R] Uj NT 1][DJ 2 xzb.nd aj 3 xzb.nd aj[ag[xR8 Ε xXI[Eh 4 xzb.nd[Je[xaf AF X] AF 1[jZ 2 3]][Uc[Bv xuS AS xI4][Iz[xQZ Pu GP Uj[yT[Ft 7 hag ta]]][Iz[xQZ Pu GP Uj[yT[yQ AS xI4]]][qP 2 xzb.nd[Ee Ε AS]]]][zX 3 xzb.nd[vA χ Ε][aD[xQZ Pu GP Uj[yD 3 yc]]][qP 2 xzb.nd[Rd Ε]]]]]]]]]],Gd[cF È a L ha hl h6 Al],YM,YM,x8[λ n σ H2=>∃q ah Pp v4,n=272-q/\σ=[Bh,Cs,xEA,x0s,v4]/\q≤272/\x9B 0 0 Pp q ah/\xBU C H2 zic/\(∀c o,Μ=LT->A9->EY->Zt=LT)] (272,0,0,[],none,Ú,Z9,jl,hB,λ c o e _ _=>e))
 rintro n σ H2 ⟨q,ah,Pp,v4,rfl,rfl,hq,hw,U4,kp⟩;refine zl ze6[ux zcl]
 ·show(AH Wb[q<272][Jx xZ9 xNc] hqL eh[Kk Wb hl.symm][Dt[λ σ' H'=>∃q' ah Pp v4,q<q'/\σ'=[Bh,Cs,Ν q',x0s,v4]/\q'≤272/\x9B 0 0 Pp q' ah/\Vn C zic/\(∀c o,Μ=LT->A9->EY->Bo=LT)][λ σ' H' z9=>by show((q',ah,Pp,v4,RQ,z1,z2,z)=z9,(272-q',Mp[J6 RQ z2] RQ,q',ah,Pp,v4,rfl,z1,z2,z))]],Ew hwl[xye hw] hcl[xbZ Pp] XT[DY ha nap nad] hws[xt9 hw hqL],hsz=xmt (a:=ah) hqL,oW g2 (ô,a,L,q,ah,rfl,XT,hl,jc,ZV) g2,TL,(dx,B2,r2,k2,Sw,hd2,br2,YO)=id U4,π,SL no[∀r k,Ω[Vq Fg "put"]][λ r k=>oQ][zl ze6[ux h3 h3]])
  ·show SB h4[rJ xZv][Jx[J5 h3][QP.mp this]] est[oy q ah=.rep xZv][xJV _n h4]
   rw [est] at hws hsz;show(Fx hr66[xZv≤66][Kz 66 _] xZv r,bK (vbo,Fc _,p,d,_,_,7,3,vb4,(Hu zjk Δ zcz zhB),_x,Ο H3 XW Sv),(US,B3,r3,k3,SW,hd3,br3,hk3)=id XW,π,SL er[Tl r-3=Tl[r-3]] Z5 (vcu,SW,Fc _,e_))
   try dsimp only
   show xO er (p,d,_,_,r-3,6,rfl,XW,(Hu zjk xYL zcz zhB),Z9,(by show r-3<2^6;lia),Ο H4 hB4 UO) (vbk,q+r,ah,Pp++[.rep r],Ν r,(El D2 ST Tm Δ h4),?_,by have:=hsz.2;show q+r≤272;show(Bj[(yfg).size=r] rfl,IY [_,_,_,_][C7 xYn][EM 272 Hb] um oV[JN hsz.2 dC]),hws,?_,λ c o e n1 n2=>cI xRg ï)
   ·show E7[xKi+Tl r=Tl[q+r]][Qz _ _]
    try dsimp only
    show CM e2
   ·show([xkU,xzK,bq],(e5:T0+(xJq+xF3 [yfg])=T0+xJq+3+6)=by
     show(kU[xF3 [yfg]=9],iP[HJ XL DV Jt[D8 xYL 6] UW] DV XL[D8 xYL 6] Jt zZ),Sc e5 hB4)
  ·show(SB h4[¬rJ xZv][TD[h3[JY[IE[Wg Ġ Ġ z]]]]] est[oy q ah=.one L[(q)]][by show(Hf _n[Kh h4],x35 hqL)],wL est hws hx6[L[(q)]≤6][h6 _[Ms hqL]],xJL (vdw,uU hqL,?_) (vbo,Fc _,ß,d,_,_,L[(q)],3,vb4,(Hu zjk Δ zcz zhB),Z9,(by show L[(q)]<2^3;lia),Ο H3 XW Sv) (Ø,q+1,L[(q)],Pp++[.one L[(q)]],_,P7 _,rfl,jc,hws,?_,λ c o e n1 n2=>xRg),[xkU,xzK,bq],(e5:T0+(xJq+xF3 [Itm.one L[(q)]])=T0+xJq+3)=by
    show(kU[xF3 [Itm.one L[(q)]]=3],iP[HJ XL D2 Jt xYL UW] D2 XL xYL Jt zZ),Sc e5 XW)
 ·have Wb:q=272:=by
   show(ql[¬(WF[vo xKi 272])] hc,xy5[¬(xKi<272)][TD[h1 xJf]])
  clear hq hc;show FU Wb[k Pp ah H2 hw U4 kp]
universe K26.Tb
namespace C9
def ed (L:LE):Ea
 |0=>0
 |j+1=>2*fD+L.count[j+1]
def Ħ (L:LE) (q s:Nat):Nat:=2*sJ[s-1]+xA5 q s
def _P (L:LE) (j p q:Nat):Option Jg:=ya2[xJw/\(Z2 Jh\/(Jh=j+1/\q<p))] ((xHO Jh,Jh))
def row (L:LE)(j p:Nat):xVI Jg:=xLI L.length[_P L j p]
def codes (L:LE):xVI Jg:=xB7 12 0
def xvJ (L:LE)(j p:Nat):BF xRC L.length:=by simp [row]
def fg {L:LE}{j p q:Nat}(h:eh):x9 xRC q[_P L j p q]:=by simp [row,h]
def xah (L:LE):xB7 0 0=xUD L.length:=by
 show xAa q;by_cases h:eh
 ·rw [fg h,Oy,Kq h];congr 1;show Hf _P[Kh Z5]
 ·rw [KZ[xFp h],KZ[Sc K2[KW h]]]
def xaG (L:LE)(j:Nat):xB7 j L.length=xB7[j+1] 0:=by
 show xAa q;by_cases h:eh
 ·rw [fg h,fg h];congr 1;show x7A;by_cases c:xJw/\(Z2 Jh\/(Jh=j+1/\eh))
  ·show qC[Kq c] Z5
  ·show pJ c[Kh Z5]
 ·rw [KZ[xFp h],KZ[xFp h]]
def xbq {L:LE}{j p:Nat}(h:B7 p[j+1]):xB7 j[p+1]=(xRC).set p[some ((xEB[j+1],j+1))]:=by
 show(SB hp[jG p][rB h] hg[xwY p=j+1][BH Kb h],xAa q);by_cases e:p=q
 ·show(DX,[fg hp,LV[Sc xvJ hp]]);congr 1;show yX _P hg[Kq Z5]
 ·rw [NP e];by_cases hq:eh
  ·rw [fg hq,fg hq];congr 1;show x7A;by_cases c:xJw/\(Z2 Jh\/(Jh=j+1/\q<p))
   ·show qC[Kq c] Z5
   ·show pJ c[Kh Z5]
  ·rw [KZ[xFp hq],KZ[xFp hq]]
def xak {L:LE}{j p:Nat}(h:xDQ L[p]?[j+1]):xB7 j[p+1]=xRC:=by
 show xAa q;by_cases hq:eh
 ·rw [fg hq,fg hq];congr 1;show(x7A,(T1:q=p->Jh≠j+1)=by
   rintro rfl e;apply h;show(TV Kb[JX hq],Sc[JX hq][xxj e]))
  by_cases c:xJw/\(Z2 Jh\/(Jh=j+1/\q<p))
  ·show qC[Kq c] Z4
  ·show pJ c[Kh[by
    show vj;apply c;show(EJ gA ?_,x5r Zs zbf)
    ·show DD z
    ·show(zQ z1 ?_,xy5[uV q][y9[T1 e z1]])]]
 ·rw [KZ[xFp hq],KZ[xFp hq]]
def xoI (L:LE)(j p:Nat):xEB[j+1]=2*fD+xA5 p[j+1]:=rfl
def xmC {L:LE}{j p:Nat}(h:B7 p[j+1]):II[p+1][j+1]=xEB[j+1]+1:=by
 show xCU Ħ Lk h Os;simp;show xG[Be Η][Ar xH9][Ar xH9][Be Η]
def xhM {L:LE}{j p:Nat}(h:xDQ L[p]?[j+1]):II[p+1][j+1]=xEB[j+1]:=by
 show yX Ħ Lk Os;cases e:L[p]? with
 |none=>simp
 |some z=>
  show Ir e;have:z≠j+1:=Ei[h[by rw [q]]]
  simp [List.count_singleton,this]
def xmV (L:LE)(j:Nat):II L.length[j+1]=sJ[j+1]:=BH xoI K0
theorem xoG (L:LE)(a:Nat):∀d,2^d*sJ a≤sJ[a+d]
 |0=>by simp
 |d+1=>by
  have:=xoG L a d;show(yM[_≤2*sJ[a+d]+_] LA,DA[2^d*2*sJ a][2*(2^d*sJ a)][by rw [Lx[2^d] 2,Lh]])
  omega
theorem xjN (L:LE):∀j,fD+L.length≤L.length*2^j
 |0=>by simp [ed]
 |j+1=>by
  have:=xjN L j;have:=yjX[j+1] (l:=L);rw [ed,LA,<-Lh];lia
def xo3 {L:LE}{q s:Nat}(h:kF)(hs:cw):xEO<sJ s:=by
 show(B5 j j[s=j+1] (s-1,x1Z hs),Θ h1[xmC (j:=j) h] h2[II[q+1][j+1]≤sJ[j+1]][by
  rw [<-xmV];unfold Ħ;have:List.count[j+1][List.take[q+1] L]≤List.count[j+1][List.take L.length L]:=Sc K0[yjt xSg]
  exact M5.mpr this],J6[JQ h1.symm] h2)
def xeA {L:LE}{q1 q2 s1 s2:Nat}(h1:B7 q1 s1)(p1:AJ s1)(lt:s1<s2):II q2 s2/2^(s2-s1)≠II q1 s1:=by
 show Cc a[xo3 h1 p1] b[2^(s2-s1)*sJ s1≤II q2 s2][by
  show(ZE[xoG L s1[s2-1-s1]][show s1+(s2-1-s1)=s2-1 by show iP[HJ AO XL _z[NL.K'[zg [_,_,_][HV Tm][C7 Η] lt τ]]] XL AO XL Δ τ],[show s2-s1=(s2-1-s1)+1 by show Cn[HK [_,_,_,_,_][Il x77][uk[d5 Dk]] zck τ[xLE lt]][Hu [_,_,_,_,_][Bu[d5 Φ]][.a Ey V4] Η SZ τ[mn AZ lt][NL.K'[ET zj8 V2 XL lt τ]]],LA]);unfold Ħ;show(Bj[2^(s2-1-s1)*2*sJ s1=2*(2^(s2-1-s1)*sJ s1)][by rw [Lx[2^(s2-1-s1)] 2,Lh]],Ej [_,_,_,_][xSH SZ][xSJ xIV][xSJ XL][xEZ this][JQ e])] c[sJ s1≤II q2 s2/2^(s2-s1)][(P8 yR).mpr[Sc Lx b]];omega
def o_ (m:Nat)(L:LE):Nat:=(Xg[xBo l[0<l]] l[2^(m-l)]).sum
def xos (m:Nat)(L M:LE):o_ m[L++M]=o_ m L+o_ m M:=xCU o_ KP J8 NZ
theorem J_ {m:Nat}(hm:zi m):∀L:LE,mq l L[l≤m]->se L=2^(12-m)*o_ m L
 | [],_=>rfl
 |a::L,h=>by
  show Ty ih[J_ hm L λ l z=>uA l z] ha[eJ a];unfold o_ at ih ⊢;by_cases c:0<a
  ·simp only [Q6,c,decide_true,if_true,L5,OS];rw [ih,NK,<-ML];congr 2;exact NJ[Nat.sub_add_sub_cancel hm ha]
  ·simp only [Q6,c,decide_false,Mt,OR];show x0t
structure Good (L:LE):Prop where
 ne:yea
 le:x9r
 most:∀l∈L,zi l
 some:∃l∈L,0<l
 room:se L≤4096
universe C9
namespace C10
open BP C9
def kle (L:LE)(j:Nat):Nat:=se[xBo l[Z2 l]]
theorem xkY (p:x7f):∀L:LE,se[L.filter p]≤se L
 | []=>ρ
 |a::L=>by
  show Θ ih[xkY p L] e zlK
  by_cases h:WF[p a]
  ·show bE[Kv h][e[L.filter p]][e L][M5.mpr ih]
  ·show Γ[KH h][e L][OL ih]
def xap (L:LE)(j:Nat):kle L[j+1]=kle L j+L.count[j+1]*2^(12-(j+1)):=by
 induction L with
 |nil=>simp [kle]
 |cons a L ih=>
  show Bj zlK
  unfold kle at ih ⊢;rw [Pj];by_cases h1:Z2 a
  ·rw [Kv[Cy[LU h1]],Kv xBg,e[xBo l[l≤j+1]],e[xBo l[Z2 l]],ih,Kh x7P];simp only [NA];exact NJ[Lm _ _[_*2^(12-_)]]
  ·by_cases h2:a=j+1
   ·show(xIA,[Kv Z6,KH Z6,e[xBo l[l≤j+1]],ih,Kq Z6],DA[se [j+1]][2^(12-(j+1))][by
     unfold o_;simp],[this,NI,Nat.one_mul],Cn[Xo zj9 dQ][Xo zdL Jt])
   ·rw [KH[Cy[LD[yiF h1] λ a=>h2[id[NJ a]]]],KH xBg,ih,Kh x4q];simp only [NA]
theorem xjz (L:LE):∀j,zi j->fD*2^(12-j)=kle L j
 |0,_=>by
  unfold kle o_;show xD1[(xG3[xBo l[l≤0]] l[0<l])=[]][by
   rw [List.filter_filter,MD];intro a _;show x7P];simp [ed]
 |j+1,h=>by
  show(Zz[xjz L j[Mz h]],[xap,-ih],EU[(2*fD+L.count[j+1])*2^(12-(j+1))=_] NI[show 12-j=(12-(j+1))+1 by show gH[ET [_,_,_][x0r Ey][D8 V2 12] zck[DF m_ f6 SZ f6 h]] [_,_,_][x0r V2][D8 Ey 12] zck[DF m_ f6 Tm f6 h]] LA);congr 1;rw [Lx 2,Lh,Lx 2]
def xdB {L:LE}(g:vL){j:Nat}(hj:zi j):fD≤2^j:=by
 show Cc h[xjz L ÿ] h1[kle L j≤4096][JW[xkY _ L] g.room] h2[2^j*2^(12-j)=4096][by rw [<-ML,BL[j+(12-j)] 12[Lj hj]]]
 rw [<-h,<-h2] at h1;exact Nat.le_of_mul_le_mul_right h1 yR
def xsk {L:LE}(g:vL){q s:Nat}(h:kF):zi s:=g.most s[Lq h]
def H_ {L:LE}(g:vL){q s:Nat}(h:kF)(hs:cw):xEO<2^s:=
 J6[xo3 h hs][xdB g[xsk g h]]
def xjr {L:LE}{q r s:Nat}(h1:kF)(h2:B7 r s)(e:xEO=II r s):q=r:=by
 have key:∀q r:Nat,kF->q<r->xA5 q s<xA5 r s:=λ q r h1 h=>by
  show(Gn[xPS q 1=L.take q++[s]][BH Lk h1][xA5[q+1] s=xA5 q s+1][V5 e1 Os],(e3:xA5[q+1] s≤xA5 r s)=by
   show(DA[xPS q 1][(L.take r).take[q+1]][by rw [List.take_take,KY Z4]],x1N[yjt xSg]),Vx [_,_,_][HV Tm] EA[JQ e2.symm] e3)
 unfold Ħ at e;rcases QW q r with h|h|h
 ·have:=key q r h1 h;show Cn[iO _I h] (rK [_,_,_][xS3[Be XL]][HV xH9][Ge e.symm this]).elim
 ·show aq
 ·have:=key r q h2 h;show Cn (rK [_,_,_][.a xH9 vF][HY[Be XL]][Ge e this]).elim[xNQ Η ST h]
def xfR (L:LE)(u:D7)(q:Nat):Prop:=B7 q u.length/\AJ u.length/\xHO u.length=xQg
def Beg (L:LE)(u:D7):Prop:=∃q s,kF/\u.length<s/\xEO/2^(s-u.length)=xQg
def xpF {L:LE}{u:D7}{q:Nat}(h:fP u q)(b:x03 u):False:=by
 show(x7z zbT h,F7 q2 s2 zcP b3 b[xeA Ç b2[b3.trans h3.symm]])
def xha {L:LE}{u:D7}{q r:Nat}(h:fP u q)(h':fP u r):q=r:=xjr Gl h'.1[(xDw).trans (Et h').symm]
inductive Res where
 |thing (q s:Nat)
 |bad
 |none
def Due (L:LE)(rest:D7):Fy Res
 | .thing q s=>s≤rest.length/\fP ymP q/\∀j<s,x4d L j
 | .bad=>∃s,s≤rest.length/\(∀j<s,x4d L j)/\¬x4d L s/\∀q,¬fP ymP q
 | .none=>∀j≤rest.length,x4d L j
def Due.uniq {L:LE}{rest:D7}{a b:Res}(ha:lM a)(hb:lM b):a=b:=by
 show(SB tt[∀{q s q' s'},lM xyM->lM[.thing q' s']->s≤s'][λ {q s q' s'} h h'=>by
  show gJ s' s c c
  ·show JE[xpF[Az h'][xDw s' c]]
  ·exact c] tb[∀{q s},lM xyM->lM .bad->False][λ {q s} h ⟨r,h1,h2,h3,h4⟩=>by
  rcases QW s r with c|c|c
  ·exact xpF xy9[h2 s c]
  ·show FU c[h4 q xy9]
  ·exact h3[xDw r c]],SB tn[∀{q s},lM xyM->lM .none->False][λ {q s} h h'=>xpF xy9[h' s Gl]] bn[lM .bad->lM .none->False][λ z9 h'=>F7 r zdA z9[h3[h' r h1]]])
 cases a with
 |thing q s=>
  cases b with
  |thing q' s'=>
   show(Bj[s=s'][JS[tt Ā][tt hb ha]],DX,[xha[Az ha][Az hb]])
  |bad=>show JE[tb Ā]
  |none=>show JE[tn Ā]
 |bad=>
  cases b with
  |thing q' s'=>show JE[tb hb ha]
  |bad=>rfl
  |none=>show JE[bn Ā]
 |none=>
  cases b with
  |thing q' s'=>show JE[tn hb ha]
  |bad=>show JE[bn hb ha]
  |none=>rfl
theorem ľ:∀{a b:D7},a.length=b.length->num a=num b->a=b
 | [],[],_,_=>rfl
 |x::a,y::b,h,e=>by
  have hl:a.length=b.length:=xBs
  rw [xws,xws,hl] at e;show(oO[xzV a][xzV b],wL hl h1 exy[x=y][by
   cases x<;>cases y<;>first|rfl|(exfalso;show xYQ;omega)])
  subst exy;rw [ľ hl[JS[px zhi EA ST[JQ e]][HJ EA JA Ę dC]]]
def xla (u:D7){k:Nat}(h:k≤u.length):num yfh=xQg/2^(xOa k):=by
 show(Bj[xQg=num yfh*2^(xOa k)+num yfi][gD[xv1 yfh yfi] Ky Kc this],FR RQ[xzV yfi] Kc RQ,zm e Lx[Qv yR][O6 RQ])
def xoU (c:Jg):D7:=dig sL pH
def wd_num {L:LE}(g:vL){q s:Nat}(h:kF)(hs:cw):num[xoU ((xEO,s))]=xEO:=xI0 xoU xzx[Mr[H_ g h hs]]
def xnf {L:LE}{q:Nat}(g:vL):(xB3)[q]?=ya2 eh[ya2 xJw ((xHO Jh,Jh))]:=by
 unfold codes;by_cases h:eh
 ·show qC[fg h] h;congr 1;show x7A;have:zi Jh:=Γ Kb[JX h][g.most _[Ms h]]
  by_cases c:xJw
  ·show qC[Kq (c,.inl this)] c
  ·show pJ[TD[c gA]][Kh c]
 ·show pJ h[KZ[xFp h]]
def xgL {L:LE}(g:vL){q:Nat}{c:Jg}(h:x9 xB3 q[some c]):B7 q pH/\AJ pH/\sL=xHO pH:=by
 show(Ir[xnf g],x20)
 ·rename_i hq
  show(xWg h,x20)
  ·rename_i h1
   show(yN,ZK ?_ h1,BH Kb[JX hq])
  ·show yN
 ·show yN
def xkQ {L:LE}(g:vL){q s:Nat}(h:kF)(hs:cw):x9 xB3 q[some ((xEO,s))]:=by
 show(Θ hq[rB h] e[Jh=s][BH Kb h],[xnf g,Kq hq,e,Kq hs])
universe C10
namespace L2
open PySem PySem.Spec PyProof.Rows QQ
section
variable {κ:Type}[DecidableEq κ]
def dw (Sa:xy0)(k:κ):EE:=(Sa.find?[kP zcs]).map (·.2)
def putK (Sa:xy0)(k:κ)(v:V):xy0:=
 EB[xXb zcs][x93 kv[DM A5 k ((A5,v)) kv]][Sa++[((k,v))]]
def dl {k:κ}(e:Bt=k):UF[dw[p::r] k] Bm:=xPH dw e
def xqA {k:κ}(e:¬Bt=k):dw[p::r] k=dw r k:=xPH dw e
theorem xr3 (k:κ):∀Sa:xy0,(xXb zcs)=(xy6).isSome
 | []=>rfl
 |p::r=>by
  rw [List.any_cons];by_cases e:Bt=k
  ·simp only [fK,JY e,Bool.true_or,Option.isSome_some]
  ·show bE fF[LL e] Bool.false_or[xr3 k r]
theorem xmI (k j:κ)(y):∀Sa:xy0,dw[x93 zhN] j=Xg[xMt j] x[DM j k y x]
 | []=>rfl
 |p::r=>by
  show(Zz[xmI k j y r],[L5]);by_cases h:Bt=k
  ·show CD h;by_cases e:Bt=j
   ·rw [dl (p:=((Bt,y))) e,fK,N3,Kq[e.symm.trans h]]
   ·rw [xqA (p:=((Bt,y))) e,fF,ih]
  ·show wG h;by_cases e:Bt=j
   ·rw [fK,fK,N3,Kh[TD[h[e.trans z]]]]
   ·rw [fF,fF,ih]
theorem xmz (k j:κ)(y):∀Sa:xy0,Ω xy6->dw[Sa++[((k,y))]] j=xJr j k y[xMt j]
 | [],_=>by
  by_cases e:k=j
  ·show vw e.symm fK
  ·show w4 yex fF
 |p::r,hn=>by
  show([NN],yp hk[¬Bt=k][TD[A8[dl z] hn hn]][xqA hk] hn,Zz[xmz k j y r hn]);by_cases e:Bt=j
  ·rw [fK,fK,Kh[TD[hk[e.trans z]]]]
  ·rw [fF,fF,ih]
def xpQ (Sa:xy0)(k j:κ)(y):dw[x6H y] j=xJr j k y[xMt j]:=by
 unfold putK;by_cases a:JL[xXb zcs]
 ·rw [Kq a,xmI];rw [xr3] at a;by_cases e:j=k
  ·show((x,hx)=Option.isSome_iff_exists.mp a,[Kq e,e,hx,N3,Cm])
  ·show wG e;cases xMt j with
   |none=>rfl
   |some x=>rw [N3,xRo]
 ·show Ζ[Kh a][xmz k j y Sa ?_];rw [xr3] at a;cases q:xy6 with
  |none=>rfl
  |some x=>show A3 q a (a rfl).elim
def xvB (Sa:xy0)(k:κ)(v):Ez xP5[x6q 1]:=by
 show xNC putK
 ·show y8 x9x
 ·show(xLF Ki ON,Au[xxA[A7 Ep]])
def UC.isSome_eq (r:UC o u):o.isSome=u.isSome:=by
 cases o with
 |none=>cases u with
  |none=>rfl
  |some _=>show xR3
 |some _=>cases u with
  |none=>show xR3
  |some _=>rfl
theorem UC.getD {o:EE}{u:xUp}{d:V}{d':RC}(r:UC o u)(rd:RelV d d'):RelV[o.getD d][u.getD d']:=by
 cases o with
 |none=>cases u with
  |none=>exact rd
  |some _=>show xR3
 |some _=>cases u with
  |none=>show xR3
  |some _=>exact r
def KV.val (r:xy2)(k:κ):UC xy6[x6r vs]:=by
 unfold KV at r
 induction r with
 |nil=>exact True.intro
 | @cons p q ps qs h t ih=>
  show xBm Ç;by_cases e:Bt=k
  ·show(SB e'[Dw=k] x3n b[UF[x6r[q::qs]] IL][xPH valueAt e'],Γ fK b h2)
  ·show(SB e'[¬Dw=k] x8U b[x6r[q::qs]=x6r qs][xPH valueAt e'],Γ fF b ih)
theorem KV.any (r:xy2)(k:κ):(xXb zcs)=vs.any[kP zcs]:=by
 unfold KV at r
 induction r with
 |nil=>rfl
 |cons h t ih=>rw [List.any_cons,List.any_cons,ih,Gl]
def KV.repl (r:xy2)(k:κ)(ry:pE):
  KV[x93 zhN][vs.map λ kv=>DM A5 k ((A5,u)) kv]:=by
 unfold KV at r ⊢
 induction r with
 |nil=>show zG
 | @cons p q ps qs h t ih=>
  show([L5,L5],vQ[xUN ?_] Ç h);by_cases e:Bt=k
  ·show(qC[Kq e] x3n,AX h1 ry)
  ·show(pJ e[Kh x8U],AX Ç)
def KV.put (r:xy2)(k:κ)(ry:pE):KV[x6H y][stored vs k u]:=by
 unfold putK stored;rw [r.any k];by_cases e:JL[vs.any[kP zcs]]
 ·show Γ[Kq e][Kq e][r.repl k ry]
 ·show Γ xRo xRo[ymr[Fw ry]]
theorem KV.length {vs:rW κ RC}(r:xy2):Sa.length=vs.length:=Oz r
universe s
def xtz (r:RelV[kV k] u):WF[(xyh P w).is k u]:=by
 cases k with
 |inl i=>show(iR zsU,A6[xf8 P w i t])
 |inr x=>show(iR zsV,A6[xf4 P w x t])
theorem xml:gL ks us[xxc yep][ItemsAre[xyh P w] ks us]
 | [],_,r=>by show(A8 QL r r,zG)
 |k::ks,_,r=>by
  rw [L5] at r;cases r with
  |cons h t=>exact .cons[xtz h][xml t]
abbrev KT (H:Hp):dS xQN[rW xU8[RA×RC]]:=Paired λ p q=>Bt=Dw/\E2[Az q][xY9 Bt]/\yie[Et q]
def KT.val (r:xRi)(k):UC xy6 ((atKey xs k).map (·.2)):=by
 induction r with
 |nil=>exact True.intro
 | @cons p q ps qs h t ih=>
  obtain⟨h1,_,h2⟩:=h;by_cases e:Bt=k
  ·show(SB e'[Dw=k] x3n b[UF[xZd[q::qs]] IL][xPH atKey e'],Γ fK b h2)
  ·show(SB e'[¬Dw=k] x8U b[xZd[q::qs]=xZd qs][xPH atKey e'],Γ fF b ih)
def KT.repl (r:xRi)(k)(ry:pE):
  KT H[x93 zhN][xs.map[putAt k u]]:=by
 induction r with
 |nil=>show zG
 | @cons p q ps qs h t ih=>
  show([L5,L5],Bn[xUN ?_] h_ h);unfold putAt;by_cases e:Bt=k
  ·show Γ[Kq e][Kq x3n][xS7 h2 ry]
  ·show Γ xRo[Kh x8U][xS7 zbT]
def KT.put (r:xRi)(k)(hb:x1u)(ry:pE):
  KT H[x6H y][storedH xs k b u]:=by
 show Bj[(xXb zcs)=(xZd xs).isSome][by
  rw [xr3,(r.val k).isSome_eq,Q0]]
 unfold putK storedH;show uf;by_cases q:nU[xZd xs]
 ·show Γ[Kq q][Kq q][r.repl k ry]
 ·show Γ[Kh q][Kh q][ymr[k8 hb ry]]
def KT.keeps (r:xRi)(ht:∀b ys,E2 b ys->Hl Xp ys):KT H' Sa xs:=
 yet r (gA,vfu)
def xjB (ok:oX)(e:xE7 u):jX u:=e.ok ok
def xm6 (ok:oX)(e:xE7 Sn):xGq/\xLc/\∃vs,xy2/\yge P w a vs:=
 show jX Sn from xjB ok e
def xnG (ok:oX)(e:dE Sn):xGq/\xLc/\∃vs,xy2/\yge P w a vs:=xm6 ok x6U
def xnq (ok:oX)(e:Hl Α yep):(xVD P w).is h ks a:=by
 show(TL,(_,its,r,o,é,n,h3)=vq[jX[.tup yep]][ok a _ e],ZC (o,its.toArray,n,vbi,by simpa using xml r))
def ul (ok:oX)(e:xE7 xxz):xGq/\xLc/\
  xAC[xRi/\h.DictOfH[xVD P w] ċ]:=by
 show(TL,(z,y,xs,r,va1,vbP)=vq[jX xxz][xjB ok e],π,CJ (z,y,xs,r,va1,vbF,UV Ô,h5) all[gL l m[KT H l m][lF m[(xVD P w).is h Yo[Az x]]]][by
  intro l m q
  induction q with
  |nil=>show(xFF,xXj hx)
  | @cons p q ps qs hq t ih=>
   show(xFF,lh hx e hx)
   ·show A6[xnq ok[C8 hq.1[Az hq]]]
   ·exact ih Ô],all r Ô)
def xef (ok:oX)(e:x1a):xGq/\xLc/\
  xAC[xRi/\h.DictOfH[xVD P w] ċ]:=ul ok x6U
def Ws (H:Hp)(a:RA)(y:V)(r:EE):Prop:=
 (∃Sa k,xE7 Sn/\y=kV k/\r=xy6)\/∃Sa k b,xE7 xxz/\y=VX/\x1u/\r=xy6
def a_ (H:Hp)(a:RA)(y v:V)(H':Hp):Prop:=
 (∃Sa k,dE Sn/\y=kV k/\ydy/\H'=xHP[.dK xP5])\/
 ∃Sa k b,x1a/\y=VX/\x1u/\ydy/\H'=xHP[.dT xP5]
def Ws.t {k:xU8}(e:x1a)(eb:x1u):Ws H a VX xy6:=.inr[rE Sa k b x6U eb rfl]
def a_.t {k:xU8}(e:x1a)(eb:x1u)(hl:ydy):
  a_ H a VX v[xHP[.dT xP5]]:=.inr[JG Sa k b e eb hl rfl]
def Inv.big {σ:St}(I:W1):xAY sysModules:=BU h[xAY mainGlobals] (ybK).lt[NU Z9 h]
def xhY {σ:St}(hu:xPX 1)(I:W1)(g:Ws H a y yV)(ry:pE)(h:∀w' s',xDc->RelV v w'->Q w' s'):
  qH[getItem Aj u] Q E s:=by
 rcases g with⟨Sa,k,e,ey,l⟩|⟨Sa,k,b,e,ey,eb,l⟩
 ·show(TL,veq,HD w' hw rw'[UC.some_of[Sc l x24]][wpAny_getItem_of xX9 dd.mapOf hw[h w' _ uu rw']])
 ·show(vdn,vde,(w',hw,rw')=UC.some_of[Sc l x24],rq ĳ Sw[Option.map_eq_some_iff.mp hw],oS[wpAny_getItem_heap x7U x8Z dd hp ?_] Sw[h w' _ uu rw'])
def xen {σ:St}(hu:xPX 1)(I:W1)(g:Ws H a y o)(ry:pE)(h:qF[xDc->x6T o.isSome s']):
  qH[compareOp .In u Aj] Q E s:=by
 rcases g with⟨Sa,k,e,ey,l⟩|⟨Sa,k,b,e,ey,eb,l⟩
 ·show(xPI,(z,hd,vs,rel,dd)=x5Q e,wpAny_in_of xX9 hd dd.mapOf ?_,xHa x3S zgs)
 ·show(vdn,vde,wpAny_in_heap x7U x8Z hd dd ?_,veH)
def xcL {σ:St}(hu:xPX 1)(I:W1)(g:Ws H a y o)(ry:pE)(h:qF[xDc->x6T[! o.isSome] s']):
  qH[compareOp .NotIn u Aj] Q E s:=by
 rcases g with⟨Sa,k,e,ey,l⟩|⟨Sa,k,b,e,ey,eb,l⟩
 ·show(TL,veq,wpAny_notIn_of xX9 hd dd.mapOf ?_,xHa x3S zgs)
 ·show(vdn,vde,wpAny_notIn_heap x7U x8Z hd dd ?_,veH)
def xtU {σ:St}(I:W1)(mu:Mut Α)(hs:xUS a h')(he:∃q,Xn a q)(new:xNr[xHP ob] h' a ob):
  kc[xHP ob] Tt:=
 yhD mu[λ b q hb z=>xKC hb z] he new
def xnX (z:xGq)(hd:xLc)(rel:xy2)(dd:h'.DictOf[xyh P w] a vs):
  xHC H' h' a Sn:=(z,hd,vs,rel,dd)
def xh0 {σ:St}(hu:xPX 1)(I:W1)(g:a_ H a y v H')(ry:pE)(rv:RelV v r)(h:qF[uq->x0X]):
  qH[setItem Aj u r] Q E s:=by
 rcases g with⟨Sa,k,e,ey,l,eH⟩|⟨Sa,k,b,e,ey,eb,l,eH⟩
 ·show TL
  subst ey eH;show(Xh z hd vs ztN,AH hz[sS vs.length][C8 rel.length z] hl zlb[wpAny_setItem_pairs xX9 dd λ h' dd' hs=>yaH],BU he[∃q,Xn a q][ykE yaj][xtU I yed hs he[xnX hl hd[rel.put k rv] dd']])
 ·subst ey eH;show(fG xMN ry,TL,Xh z hd xs rel dd[xef I.hok e],SB hz nQ[C8[Oz rel] z] hl zlb,bK[wpAny_setItem_heap x7U x8Z dd λ h' dd' hs=>yaH],(q,d_,hq,h2,vbu,_,h5)=dd',FJ[xtU I yed hs yaj (hl,hd,_,(rel.put k eb rv).keeps[Ο c ys ec],q,d_,hq,h2,vbu,h5)],Κ[aN ec e Jf] ec)
def xi1 (i:RJ):Prop:=∀ov iv,x3q i ov iv=yeH [ov,iv] ov iv
def xcp {T id:String}
  (hl:yjQ x5x=pure[xU2 id]) (hs:xi1 slice)
  (h:aY[xxT value][λ o s₁=>aY[xxT slice][λ i s₂=>s₂.TypeIs o T/\xGV[getItem o i] s₂] E s₁] E s):
  yk[xxT[xGi value slice]]:=by
 show(vQ[Subscript_[cb h[λ o s₁ h₁=>cb h₁[Ο i s₂ h₂] x x] x x]] hT h₂ h₂,iu subscriptTail ?_,jR[getitemInPython_of_ne hT.not_modules][wpAny_specialOf hT hl ?_],(fin:aY[x3q slice o i][λ r s₃=>xGV[letTemporaryGo value o r>>= λ _=>pure r] s₃] E s₂)=Sc[hs o i][wpAny_operating[cb h₂[λ r s₃ h₃=>JV[wpAny_letTemporaryGo[Kn h₃]]] x x]])
 first
  |show UN[JV fin]
  |exact xIw[JV fin]
  |exact JV fin
def xhj {σ:St}(I:W1)(g:Ws H a y o):s.TypeIs Aj "dict":=by
 rcases g with⟨Sa,k,e,_,_⟩|⟨Sa,k,b,e,_,_,_⟩
 ·show ygc vs dd[x5Q e] dd.typeIs
 ·show ygc xs dd[x5R e] dd.typeIs
def xdX (td ty:TE):TE:=λ σ H Q=>x0d H[tX x[ty ı[xY y[∃a v,x=Aj/\Ws H2 a y yV/\Q v H2]]]]
def xep (ty td:TE):TE:=λ σ H Q=>ty Ä[tX y[x0d H1[xY x[∃a o,x=Aj/\Ws H2 a y o/\xFN o.isSome H2]]]]
def Do (ty td:TE):TE:=λ σ H Q=>ty Ä[tX y[x0d H1[xY x[∃a o,x=Aj/\Ws H2 a y o/\xFN[! o.isSome] H2]]]]
def xey (td ty tv:TE):TS:=λ D σ H=>tv Ä[tX v[x0d H1[xY x[ty ë λ y H3=>∃a H4,x=Aj/\a_ H3 a y v H4/\xUQ H4]]]]
def xa8 (hu:xWc 1)(ho:xSX td)(hi:Ax i ty)(hs:xi1 i):Ax[xGi o i][xdX td ty]:=by
 intro RN s σ H Q I h;show(xcp PySem.F.slot_dict_getitem.lookup hs[Ý[Sg s H _ I h] λ u s1 ⟨x,H1,I1,rx,q1⟩=>xFu zpW],(y,H2,I2,ry,a,v,ex,g,q2)=z9);clear q1;show(aI[u=JF],AX[xhj I2 g][xhY hu I2 g ry λ w' s3 I3 rw'=>(v,H2,I3,rw',q2)])
def xds (hu:xWc 1)(hi:Ax i ty)(ho:xSX td):xs5 X .In i o[xep ty td]:=by
 intro RN s σ H Q I h;show(vdE,aI[u=JF],xen hu I2 g ry λ s3 I3=>xA ov.isSome H2 I3 q2)
def xib (hu:xWc 1)(hi:Ax i ty)(ho:xSX td):xs5 X .NotIn i o[Do ty td]:=by
 intro RN s σ H Q I h;show(vdE,aI[u=JF],xcL hu I2 g ry λ s3 I3=>xA[! ov.isSome] H2 I3 q2)
def xoh (hu:xWc 1)(ho:xSX td)(hi:Ax i ty)(hv:Ax value tv)(hs:xPw value[ynG i pos'] pos.line=xV8):
  xG6 [ynG i pos'] value pos[xey td ty tv]:=by
 intro RN s σ H D I h;show(wpAny_Assign_Subscript[Ý[hv þ _ I h] λ r s1 ⟨v,H1,I1,rv,q1⟩=>Ý[Sg zfb] λ u s2 ⟨x,H2,I2,rx,q2⟩=>xxb[xKA s2 H2 _ I2 q2] iv s3] hs,(y,H3,I3,ry,a,H4,ex,g,q3)=z9);clear q2;show(aI[u=JF],xh0 hu I3 g ry rv λ s4 I4=>xDu H4 I4 q3)
def xai (h:RI)(hb:ymQ):xHC H zmU xXC:=
 (veY,[],.nil,Heap.DictOf.new h)
def xaW (h:RI)(hb:ymQ):xHC H zmU iF:=
 (veY,[],.nil,_,#[],0,Bb,xIS rfl,Ú,List.nodup_nil)
def xdf:TE:=λ _ H Q=>∀p,pF->xEM[vD p iF]
def xow:Ax[.Dict zdq] xdf:=λ RN s σ H Q I h=>
 wpAny_Dict_empty[Fu i6 _[I.laid zkc[xaW s.heap I.big]][o6 jo]]
def xjp {K:Frag}{g:TG}{tb:TS}{D:Ends}(Pv:x0I)(h0:GX 0)(hl:∀i σ H,me->lV->Zq)
  (hs:∀i x p σ H,uG->pF->lV->g Dc zrs[ie D zfu]) (hd:∀σ H,ynE->lN):
  Yh F9[x07 H/\∀i m σ H,x06 H->
   (xVt xI2 H/\lN)\/((xI2).go i H/\∃N,rF[xRd->eE[m'<m/\x1V zeU]]/\IH x[xWe xI2 H x H'->x00[ie D N N]])]:=by
 show x8 zlu;rintro i m σ H ⟨rfl,hi,p⟩;have q:=xEt Ä hi p;by_cases RQ:xKm
 ·show(xXG (veM,xZV),(p1,x1,SI,e1,e2,y)=y);subst e1 e2;exact xEu x1 p1 σ zgd SI p
 ·show Bj[ao i] xCK;clear hi RQ;show A6[jk zoP]
universe L2
namespace K26.C
open PySem L2 QQ C9 C10
seal PE PA PS Ó PT PW PG PI
def io (R:LE):Bw=yhx[xX2 b qI]:=CM Mv
def IsL (H:Hp)(x:V)(L:LE):Prop:=∃a,x=Aj/\Α=ax/\∀l∈L,zi l
def xuL (H:Hp)(x:V):Fy[Option Jg]
 |none=>xAr x
 |some c=>JM[x=yd/\rk [vN sL,vN pH]]
def xzh (H:Hp)(xs:SC)(cs:xVI Jg):Prop:=xXc cs.length/\∀(i:Nat) x c,uG->xKl c->xuL H x c
def xuL.keep {H H':Hp}(h:xuL H x c)(k:∀t ys,rk ys->Hl[H' t] ys):xuL H' x c:=by
 cases c with
 |none=>show aq
 |some c=>show BI t e z h t e[Yq z]
theorem xzh.keep (h:yt H cs)(k:∀t ys,rk ys->Hl[H' t] ys):yt H' cs:=(Gl,λ i x c h1 h2=>(o4 i x c Ç).keep k)
theorem xzh.set {H:Hp}(h:yt H cs)(hy:xuL H y d):xzh H[xs.set p y][cs.set p d]:=by
 show EJ[Γ N2 N2 Gl][λ i x c h1 h2=>?_];by_cases e:p=i
 ·show(DX,yp hp[iZ p][by
   have:=yaz
   rwa [N2] at this][LV hp] h1,A8[LV[C8 Gl hp]] h2 h1,EL h2 hy)
 ·show(xDR[NP e] h1,o4 i x c Ç)
theorem xzh.none (H:Hp)(n:Nat):xzh H[List.replicate n .non][xUD n]:=by
 show(EJ[by rw [K2,K2]][λ i x c h1 h2=>?_],xDR Oy h1)
 split at h1
 ·show(uP,A8[Kq[by assumption]] zci);rfl
 ·show uP
def ndL:xEk ["length"]:=Z8
inductive _j (vs:SC) (H:Hp) (Q:VK) (RW:XK):Prop
 |mk (a:RA) (L:LE) (h0:vs=Dl) (h1:Α=ax) (h2:mq l L[zi l]) (h3:x9r) (h4:Ja[WD[se L]]):_j Ã
def FS:XV Jaf Jaf xnK:=Uf
abbrev xjk:TE:=Ą zrF[UJ[i-j][xw 12] lg]
abbrev xnw:TT:=xZg zil xQw
def xbP (F:Ρ ztk Jaf)(T:FW):xyS Jaf _j:=by
 show(xxp tm zgh FS[λ RO A outer s H vs Q E hr h=>?_],ye a L rfl hL hb hl300 k,hn=xFU,ZH[Cj[SD[xaL hn] T.sum PyProof.Rows.boot_sum[B9[xpE (N:=["length"]) (g:=ou) zsp ze2 Z8[xu1 AB]
   (λ fp s H=>xSW ndL)[λ fp s H=>xKp AB][λ fp s H=>xDk[yQ xYN AB]]]]]][gX a hL gQ][xty zfZ (l:=l) (xs:=Vt) (n:=1) (g:=ou) zsp
  (λ i ys H'=>ys=AY[Xg[xG3[L.take i] _E] b[2^(12-b)]]/\B1=oZ/\AA)[k8 ae gw][λ i ys H' _ z9=>by show(xMb sm,jV[oR hL])] zdp ?_])
 ·rintro i x ys σ H' hx ⟨rfl,hl,sm⟩ hσ;show(Mk b SH hx,Θ hb12[qW x7O] Ue[jG i] x99,B5 u0 u0 zg3,SL hlen[xQu[xG3[L.take i] _E]][JW[Oc _ _][Ji[xOi hl300]]][zl ĝ x_],[x0c,KP])
  try dsimp only
  by_cases h0:0<b
  ·show Ζ[Kq[JY[Kl IF qI yfF]]] (Ø,Å,(Z5,Z5,Z9),hl,cz[X8 JO[Ga hlen]],vbJ,ae,xJ7)
   ·show([Kv xVO,J8,J8],HI[Ih*2^U9[Ψ 12] qI=Tl[2^(12-b)]][V5[show U9[Ψ 12] qI=12-b by lia] Rx])
    try dsimp only
    show CM e1
   ·show bp xDh
  ·show Ζ znN
   ·show Dq[KH xVO]
   ·exact hl
 ·rintro ys H' ⟨rfl,hl,sm⟩;show(xJH K0 io hl,CJ[nj l xWP ?_] e[(qc[Xg ztl]).sum=Tl[se L]][by
   unfold o_;generalize Xg ztl=Y
   induction Y with
   |nil=>rfl
   |cons y Y ih=>simp only [L5,OS];show Dq ih],Vz[HG sm])
 ·exact λ x σ H A B h z=>lI
 ·exact λ σ H A B h z9=>by show((vbw,c,e4,z)=z9,(vbw,c,e4,lI))
 ·exact λ σ H A B h z9=>by show((vbw,i2,j2,e4,e5,c,z)=z9,(vbw,i2,j2,e4,e5,c,lI))
inductive xkL (vs:SC) (H:Hp) (Q:VK) (RW:XK):Prop
 |mk (x:V) (L:LE) (h0:vs=CI) (h1:IsL H x L) (h2:vL) (h3:wg):xkL Ã
def xhO:XV Jaf Jaf xup:=Uf
structure Lns (K:Frag)(mg:Τ):Prop where
 X:FW
 whole:x1U
 arewhole:yfP zdn
 things:Ι zh3 xBi
 room:Ι ztk Jaf
def wf {P:RE}{w:RF}(F:Ρ zrB Jaf)(Y:Lns Â):xyR Jaf xkL:=by
 show(TL,yjq T W AW Th Ro,Uv tm zgh,BA xhO[λ RO A outer s H vs Q E hr h=>?_],(x,L,vfq,G,k)=h,Av[xTe[Je[S.xlu Th AW W T] Th 0[B9 xYN]][d8 cZ[jO[xbP Ro T] Ro 0][xDk xYN] pX]] (_t,L,12,vbp,G.ne,G.le,G.some,Á,x98),Υ[cF È a L hB hb G.le[UV H' s1]] (Å,(_x,Z9),Ć,xXK[HG s1]));exfalso;show(xOJ,Θ g G.room e[Ih*2^(Ψ 12).toNat=4096] Z9,xLM e[aX C4[Um[.n 4096] SZ][rM 4096] Ua g])
def Ł {α:Type}(x:α)(k):Fh k CI=ykX x:=by
 induction k with
 |zero=>rfl
 |succ k ih=>show zm LF LG ih LF
def xbf (hl:x9r)(hj:zi j):fD≤1228800:=by
 show(Cc h[xjN L j] h1[2^j≤2^12][xr hj] h2[L.length*2^j≤300*4096][Ru hl h1],Ej [_,_,_] xBW[C7[.m 300[.n 4096]]][.n 1228800] h h2)
def xbz (L)(j):II 0[j+1]=2*fD:=Dq xoI
def í (h:i<n):UF[Ĩ n ui] i:=by
 show(xJV Ĩ Z5,xBs)
inductive xj2 (vs:SC) (H:Hp) (Q:VK) (RW:XK):Prop
 |mk (x:V) (L:LE) (h0:vs=CI) (h1:IsL H x L) (h2:vL) (h3:∀l xs H',DP->AA->B1=Gq->yt H' xB3->BD):xj2 Ã
def xyr:XV ["lengths","codes","code","size","place","length"] Jaf xwx:=Uf
def xjR {P:RE}{w:RF}{mg:Τ}{base:RI}{f fN:RA}{fd fdN:RG}(F:Ρ zi4 Jaf)(N:FL zrB Jaf zdu)(Y:Lns Â):xQs Jaf xj2:=by
 show(lX Y.X,xxp tm zgh xyr[λ RO A outer st H vs Q E hr h=>?_],(x,L,vfq,G,k)=h,Av[Iz[jO[wf N Y] N 0][gO xyr.nd[xZX[B9 dj] vP][Em 2 xyr.nd aj[zU[yhu Z7[WX[Rd xYN]]] 3 xyr.nd[qg xyr.nd[rR xtY Ε][ag[x2E[xtL Z7 T.enum vk][xIe[mF 4 xyr.nd[mF 5 xyr.nd xz8]]][d8 bM EH Ab[ad[xz5[aT[jZ 2 3]][xuf χ AS xur]]
     (qP 2 xyr.nd[Rd Ε])]]]]]] χ]]][VY L[Kd a hB hb] G[bf l_]],ω SV G.le[UZ[uY E9 l0 n0]],s2=DI [.non] n0,Dp (_U,BZ[xPz hB],l0,Å,ae,Ph[2^63] _,Ex[ku[AI SV]],(X8 KG[bQ[by show 1*_≤_;show FX xxY[vR 1] Cg SV]]),bf l nl),Θ s3[xCq xWG] ez[Fh[iE (Vt).length] [V.non]=xWG][xLC KG Ł])
 try dsimp only
 show([ez],SB T2[(nO[EN H1 l0 [.non]] xWG) l=Ak xWG] ae nlH DP[iJ Gg],s03=xZj,lD[EN H1 l0 [.non]] l xWG H3,YM,CJ[UZ[FD ă 1 13 zpN ?_]] en[U9[Ψ 13] 1=12] Z9)
 try dsimp only
 show Ζ en[xKu Ym 1 12[λ j σ H2=>∃v3 v4 v5:EE,∃xs:SC,σ=[Cs,zt,Ν fD,v3,v4,v5]/\pG=Gq/\yt H2[xB7 j 0]/\Yp][JG zdd none _ T2[Sc xah[xzh.none _ _]] s03] Î]
 ·clear g1 T2 s03 s3 nl;rintro j σ H2 hj ⟨v3,v4,v5,xs,rfl,Su,hC,sm⟩;have eb:Ih+Tl j=xV j:=(Uw x8t Tm zB)
  try dsimp only
  show([eb],ω hes[xbf SV[VF j 12[Mz hj]]] M',oW g2[VY È ((IE[Xo [] Hg AZ]),(IE[Xo [] AZ BB]),Z5) ZV] g2,(ec:Tl fD*2^x5m=Tl[II 0[j+1]])=xJ1 xbz[Js[x5m] 1])
  try dsimp only
  show Ζ ec[xZm a[oR hB][xjp (D:=Ym) zfZ (xs:=Vt) (λ p σ H'=>∃v4 v5:EE,∃xs:SC,σ=[Cs,zt,Ν[xEB[j+1]],Ν[j+1],v4,v5]/\B1=Gq/\yt H' xRC/\AA)
   (Io v4 v5 xs Su hC sm)[λ i σ H' _ z9=>by show((_,_,_,_,_,_,e)=z9,jV[e _ _ hB])] Î]]
  ·rintro p y t σ H' hp ht ⟨v4,v5,xs,rfl,Su,hC,sm⟩;show(Mk b SH hp,ZY T6[jG p] x99 st[jN [xEr,yP] ht],Υ (t,Á,ygk,vbG,ø)[VY zdR Hd])
   ·show HI[b=j+1] ygA;rw [e1] at SH st ⊢;show(Ai g3[Zv zdK[UV q nq]],Ty sq[jN [vN[xEB[j+1]],vN[j+1]] nq] hlq[sq _ _ x9F],(hCq:yt _ xRC)=hC.keep λ t ys e=>sq _ _[Xd e],Gj (Ï,l,xs,_,p,Ú,hlq,í[Γ hC.1 xvJ T6],g3 İ) g3,CJ xEo ec2[Tl[xEB[j+1]]+1=Tl[II[p+1][j+1]]][Bx[xmC SH][xFP Ts Ts]])
    try dsimp only
    show Ζ ec2[Io mi[Ν[j+1]][xs.set p gc] ae ?_ xJ7]
    ·show(Ζ[xbq SH][(hCq.set (y:=gc) (d:=some ((xEB[j+1],j+1))) (ID q ae)).keep[HL t2 ys]],W8[dz hlq B0])
    ·show yY nlH[sq _ _[Xd xDh]]
   ·show SL e1[xDQ L[p]?[j+1]][by
     show([SH],vj);clear SH hp;show EL z[h1 F8]] (mi,YI,xs,?_,x9F,?_,sm.trans st)
    ·show CM[xhM e1]
    ·show Sc[xak e1][hC.keep λ t ys e=>Xd e]
  ·rintro σ H' ⟨v4,v5,xs,rfl,Su,hC,sm⟩;rw [JO] at hC ⊢;show([xmV],A3 xaG hC[JG _ _ _ xs Su hC sm])
 ·rintro σ H2 ⟨v3,v4,v5,xs,rfl,Su,hC,sm⟩;exact xP3[yg xs H2 nlH sm Su hC]
def u1 (r:xTy):xPX 1:=by show(xG7,yj zqt Iu this)
abbrev kk (a b:Nat):xU8:=[.inl[Tl a],.inl qI]
def xvR:xTn=kk c d<->a=c/\b=d:=by
 constructor
 ·intro h;injection h with h1 h2
  show xG1 zci
  injection h1 with h1
  injection h2 with h2
  show AX[qQ[lu _I[JQ[xxd h1]]] zcH[xVH[xxd h1]]][qQ[lu _I[JQ[xxd h2]]] zcH[xVH[xxd h2]]]
 ·rintro⟨rfl,rfl⟩;rfl
def xkx:¬(ydQ="beginnings"):=Z8
def fC (d e:RA):yn:=[(("things",xOD)),(("beginnings",zD))]
def kB (d e):kO "beginnings" e xS8=xF:=gK[AQ "things" "beginnings"[Yd ydQ d:: [Yd "beginnings" e]]=_][Kh xkx]
def xre (d e):Vq xF "things"=ES:=by
 rw [<-kB,ay,Kh xkx,ay,Cm]
def xkn (d e):Vq xF "beginnings"=υ e:=xIp kB ay
def I_ (d e){m:Str}(h1:o1[m="beginnings"])(h2:o1[m="things"]):eN xF m:=by
 rw [<-kB,ay,xyG,ay,xyH];rfl
def xgA (L:LE)(n:Nat)(Sa:xQN):Prop:=lG Sa.length/\∀a b,EG q[q<n->B7 q b->G5->xHO b=a->UF[xH7 a b][vN q]]/\(EG q[q<n->B7 q b->G5->xHO b≠a]->Ω[xH7 a b])
def xf7 (L:LE)(n:Nat)(Sa:xQN):Prop:=Sa.length≤12*n/\∀a b,nU[xH7 a b]<->∃q s,q<n/\kF/\b<s/\xEO/2^(s-b)=a
structure xu8 (C:RA)(H:Hp)(p d e:RA)(L:LE):Prop where
 ob:∃dx,Xb xF
 th:∃Sa,yB d xxz/\xEy zfY
 bg:∃Sa,yB e xxz/\xEz zfY
structure CRc (K:Frag)(mg:Τ)(C:RA):Prop where
 cl:X5
 nT:gM "things"
 nB:gM "beginnings"
inductive X_ (C:RA) (vs:SC) (H:Hp) (Q:VK) (RW:XK):Prop
 |mk (p d e dx:RA) (c s:Nat) (Sa:xQN) (h0:vs=[Dc,uF,Jn]) (h1:Xb xF) (h2:yB e xxz) (h3:Sa.length≤5000) (h4:zi s) (h5:∀H' Wk,UF xKN[.dT Wk]->yhT[x6q s]->(∀a b:Nat,nU[dw Wk xTn]<->nU[xH7 a b]\/(b<s/\c/2^(s-b)=a))->rj x[HH=LT->x≠e->H' x=LT]):X_ ä
def O_:XV ["self","code","length","size"] ygz xnP:=Uf
def xb5 (F:Cb zlR xnP)(T:CRc ê)(X:FW):f7 ygz[X_ C]:=by
 show(DW O_[λ RO A outer st H vs Q E hr h=>?_],(p,d,e,dx,c,s,Sa,_R,he,hl,hs,q)=h,(npe:p≠e)=xZ7 he B0,DR[ag[zU[xJx Jk] 3 O_.nd[ag[xoh xYa B4[aT[ac[x0u χ[yQ Ε Ab]] LB]] bV rfl]]]][Io È[Tl s] Z4 Z4 ?_])
 try dsimp only
 show Ζ KG[xKu Ym 0 s[λ i σ H2=>∃v Wk,σ=[Bh,Ν c,xSs,v]/\UF[H2 e][.dT Wk]/\yhT[x6q i]/\
   (∀a b,nU[dw Wk xTn]<->nU[xH7 a b]\/(b<i/\c/2^(s-b)=a))/\∀x o,HH=LT->x≠e->H2 x=LT] (none,Sa,rfl,he,(Hj SZ xIR),λ a b=>(.inl,TD[z.elim id[ym gA x8f]]),λ x o e _=>e) Î]
 ·rintro i σ H2 hi ⟨v,Wk,rfl,he2,Su,hv,U6⟩;have ei:IF+ui=ui:=(Uw[xLY DN] SZ DN)
  try dsimp only
  show([ei],xAd Sw[U6 _ _ hp npe] (vce,vbj,xkn _ _,?_) (vct,Å,(by show IF≤Tl s-ui;lia),Á,vdy),HI[Tl c/2^U9[Tl s] ui=Tl[c/2^(s-i)]][Dq[show U9[Tl s] ui=s-i by lia]])
  try dsimp only
  show(CS,xa net[e≠t][ai he2 nt][nj e[a_.t (b:=t) (k:=kk[c/2^(s-i)] i) (Κ net he2) ae[AI[VF _ 6000[HK [_,_,_,_][x5l[wz SZ]][EM 5000[x0r[C7 mJ]]][.n 6000] hl hs[JN hi Su]]]]] ?_] (Ö,ae,JW[xvB _ _ _][HJ SZ Φ Tm V2 Su],UV a b,λ x o ex hx=>?_))
  ·rw [xpQ];by_cases c1:xTn=kk[c/2^(s-i)] i
   ·show CD c1;clear hi ei e1;show((rfl,zF1)=xvR.mp c1,Xk zF1.symm,AX[λ _=>x7C[Ts]] JC)
   ·show pJ c1 hv;constructor
    ·rintro(z|⟨z1,z2⟩)
     ·show DD z
     ·show Dr ((El zdD Η z1),z2)
    ·rintro(z|⟨z1,z2⟩)
     ·show DD z
     ·show(zQ ?_ z2,gJ b i h h)
      ·show aq
      ·show DA b i[qQ[iO zdz z1] zcH h];clear hi ei e1 z1 h;show(Xk this.symm,Dv[xvR.mpr[dJ z2.symm]] c1)
  ·show(iY[U6 x o ex hx],Γ[ak hx][xJI h1 nt] h1)
 ·rintro σ H2 ⟨v,Wk,rfl,he2,Su,hv,U6⟩;exact q _ _ he2 Su hv U6
def xbo (L):xEy ż:=IQ ρ a b (uo ġ hq x8f,JC)
def xcs (L):xEz ż:=by
 show(EJ Bz[λ a b=>(Gf h,λ z9=>by show((q,s,hq,_)=z9,Dv hq x8f))],yN)
def xb9 (h:xEy n Sa)(h0:∀s,B7 n s->¬cw):xEy[n+1] Sa:=by
 show(EJ[JW Gl nr][λ a b=>(λ q hq hb h1 hc=>?_,λ hn=>(o4 a b).2 λ q hq=>hn zqr)],AD q n)
 ·exact(o4 a b).1 q z hb h1 hc
 ·show DA q zhf;clear h hq z;show(xFX,Dv h1[h0 Ì])
def xcj (h:xEz n Sa)(h0:∀s,B7 n s->¬cw):xEz[n+1] Sa:=by
 show(EJ[JW Gl[Hj[vR 12][xKt 12]]][λ a b=>zV h a b (λ z9=>Dj q s hq r z9 (q,s,(El zdD Η hq),r),Gf z9)],(q,s,hq,vbi)=z9,AD q n)
 ·show pK q s z h_
 ·show DA q zhf;clear h hq z;show(xFX,Dv Z4[h0 s h1])
def xdQ (h:xEy n Sa)(hs:B7 n s)(h1:cw):xEy[n+1][putK Sa[kk[II n s] s] FY]:=by
 show EJ[JW[xvB _ _ _][by have:=Gl;show Bg zdI ST Tm Η this]][λ a b=>(λ q hq hb SH hc=>?_,Gf hn)]
 ·rw [xpQ];by_cases c:xTn=kk[II n s] s
  ·show(xDI[xvR.mp c],[Cm,xjr hb hs hc])
  ·show(wG c,AD q n)
   ·exact(o4 a b).1 q z hb SH hc
   ·show(wB[q=n][qQ zfo ST z],A8 hs hb hb,Dv[xvR.mpr[dJ hc.symm]] c)
 ·rw [xpQ,Kh]
  ·exact(o4 a b).2 λ q hq=>hn zqr
  ·intro c;show ja[xvR.mp c][hn n Ts hs h1 rfl]
def Id (h:xEz n Sa)(hs:B7 n s)(hs12:zi s)(hl:yhT[x6q s])
  (hv:∀a b:Nat,nU[dw Wk xTn]<->nU[xH7 a b]\/(b<s/\II n s/2^(s-b)=a)):xEz[n+1] Wk:=by
 show(EJ[by have:=Gl;show Ej zs4[x0r[.a Xs[rQ 12]]][.m 12 Η] hs12[JN hl this]][λ a b=>(hv a b).trans ?_],[o4 a b]);constructor
 ·rintro(⟨q,r,hq,z⟩|⟨z1,z2⟩)
  ·show Iv q r[El zdD Η hq] z
  ·show pK n s[Ts] hs zbf
 ·rintro⟨q,r,hq,z1,z2,z3⟩;show AD q n
  ·show DD (q,r,z,z1,z2,z3)
  ·show DA q zhf;clear h hv hq z;show(xFX,A8 hs z1 z1,Dr (z2,z3))
inductive Ō (C:RA) (vs:SC) (H:Hp) (Q:VK) (RW:XK):Prop
 |mk (p dx a:RA) (L:LE) (h0:vs=jP) (h1:xQS) (h2:Α=ax) (h3:vL) (h4:∀(d e:RA) (H':Hp),Bf d->Bf e->qJ H'->rj zcn):x4Y Ã
def î:XV ["self","lengths","place","pair"] ycV á:=Uf
structure Mks (K:Frag)(mg:Τ)(C:RA):Prop where
 X:FW
 Y:Lns Â
 need:ynV xup
 cof:Ι zi4 Jaf
def bt (R:LE):D7:=BP.dig xBM D1
def xzX (R):BF xFM D1:=BP.Sj _ _
theorem xoV (n):∀m i,i<m->B8[BP.dig n m][D3[n/2^(m-1-i)%2] 1]
 |m+1,0,_=>by
  show m7 _ _;rfl
 |m+1,i+1,h=>et[(BP.dig n m)[i]?=_][xoV n m i[El Iu Η _Z h]][show m+1-1-(i+1)=m-1-i by show Cn[HK [_,_,_,_,_,_][qN[Bu[d5 xYm]]][uk[xSx[wz JD]]] zcI τ[x75[NL.K'[xxA AZ]][Dd [_,_,_][xS3 Iu][ZN vF] Tm XL h τ]]][Hu [_,_,_,_,_,_][Il[wz[xSx Φ]]][.a xYm[d5[Bu uZ]]] Ę τ τ[x75[DF [_,_] Iu Η AZ ST h][ET [_,_,_][HY Iu][ZN vF] XL h τ]]]]
def xc7 (h:t+s<D1):∃b,x5v[s+1]=xDG++tG/\xBM/2^(D1-(t+s+1))%2^1=b.toNat:=by
 show x8[D3[xBM/2^(D1-1-(t+s))%2] 1] ?_
 ·show([Lk,NE],xx9 bt[xoV _ _ _ h])
 ·show([show D1-(t+s+1)=D1-1-(t+s) by show Cn[HK [_,_,_,_,_,_][qN[xRa[A7[Ar Hb]]]][.a xCx[xSx[yI JD]]] zcI τ[DF [_,_,_] uj FG uj FG h]][Hu [_,_,_,_,_,_][xRa[xSx xCx]][.a[A7[Ar Hb]][xRa uZ]] Ę τ[DF [_,_,_] uj FG AZ FG h][NL.K'[Dd [_,_,_,_][.a uj FG][EZ CE] Δ Dk h τ]]],Nat.pow_one],h2=K7[xBM/2^(D1-1-(t+s))][zF[0<2]]);by_cases c:xBM/2^(D1-1-(t+s))%2=1
  ·show BH[JY c] c
  ·show E1[LL c][_=0];lia
def xeo:¬(ydQ="held"):=Z8
def xu8.keep (h:qJ H)(s:∀c o,Μ=LT->(c=p\/c=d\/c=e)->Bo=LT):qJ H':=by
 show(((dx,h1),(k1,h2,YT),(k2,h3,h3'))=h,Ef[UT[FV h1 rh]] (k1,xY6 h2 rh,YT) (k2,xY6 h3 xWy,h3'))
def xu8.same (h:qJ H)(s:AA):qJ H':=h.keep λ c o e _=>FV e
def xcI (h:xEz zfY)(u):nU[ygE yfj]<->x03 u:=by
 rw [o4];constructor
 ·rintro⟨q,s,_,h1,h2,h3⟩;show AG q s h_
 ·rintro⟨q,s,h1,h2,h3⟩;show pK q s yaz h_
def xbR (h:xEy zfY)(u):EG q[fP u q->UF[ygE yfj][vN q]]/\(EG q[¬fP u q]->Ω[ygE yfj]):=EJ[λ q ⟨h1,h2,h3⟩=>(o4 _ _).1 q yaz h_][λ hn=>(o4 _ _).2 λ q _ h1 h2 h3=>hn q[xS7 zbT]]
def xuC:XV ["self","reader","begin","code","size"] ydb xsV:=Uf
universe K26.C
namespace K26
open PySem L2 QQ W17 W16 BP
def th:qy Pc
 | .sg s=>s
 | .cp _ z=>x12
def cP (L:LE):Pc->Dn
 | .sg s=>[((xF7 s xJU,xJU))]
 | .cp b z=>[((xF7 x12 x2j,x2j)),((b,8))]
def hP (L:LE)(P:yW):Dn:=P.flatMap xPf
def cn (Q:LE):LE:=xG2[Ei xNu]
def xiN (L)(P Q:yW):sk[P++Q]=sk P++sk Q:=by simp [hP]
def xoZ (L)(x)(P):sk[x::P]=xPf x++sk P:=by simp [hP]
def xdY (L)(x:Pc):sk CI=xPf x:=by simp [hP]
def xt8 (Q:LE):BF ZM 272:=by simp [cn]
theorem GR.all:gL P B[GR B P][lF P[∃B',xz6 B' x]]
 |y::P,B,h,x,hx=>by
  show yZ zcN
  ·show AX B Gl
  ·exact GR.all o4 Ô
def xn9 (h:xz6 B x):th x<272:=by
 cases x with
 |sg s=>have:D4 s:=h;show gY[s<272][AI[Ks this]]
 |cp b z=>
  obtain⟨_,_,_,_,h5⟩:G5/\WW/\pO b/\xE0/\xE5:=h;show x12<272;show FX[.n 18][Ar[Xj 253]] um h5
structure TOk (L:LE)(Pp:yW):Prop where
 good:xGX
 len:vE
 six:Eg zdh
 has:lF Pp[AJ[uT x]]
def TOk.at (h:xQh)(hx:x∈Pp)(g:xz6 B x):B7[th x][uT x]/\AJ[uT x]/\uT x≤6:=by
 show(SB hl[jG[th x]][Sc h.len[xn9 g]] e[B7[th x][uT x]][BH Kb[JX hl]],Ef e[h.has Ô][h.six _[Lq e]])
def xcq (h:xQh)(g:GR W Pp):Good xCO:=λ q hq=>by
 show(x7b x hq[Q9.mp hq],(B',gx)=g.all Ô,(e1,e2,e3)=h.at hx gx,cl=C10.H_ h.good ğ);clear W h g hx e1 e2 e3;cases x with
 |sg s=>
  show Sc[KD.mp[kZ q [((xF7 s xJU,xJU))] hq]] cl
 |cp b z=>
  show yZ[kZ q [((xF7 x12 x2j,x2j)),((b,8))] hq] hq
  ·exact cl
  ·rw [ygZ];obtain⟨_,h2,_,_,_⟩:G5/\WW/\b≤B'.length/\xE0/\xE5:=gx;show gY[b<2^8][MV h2]
def xcg (six:Eg zdh)(x):xXS x≤14:=by
 have six:∀n,xwY n≤6:=λ n=>by
  rw [Kb];cases e:L[n]? with
  |none=>exact Bz
  |some y=>exact six y[Lq e]
 cases x with
 |sg s=>have:=six s;show gY[xJU+0≤14][Ga this]
 |cp b z=>have:=six x12;show gY[x2j+(8+0)≤14][Nat.add_le_of_le_sub Z9 this]
theorem xtb (six:Eg zdh):∀P:yW,É[sk P]≤14*P.length
 | []=>ρ
 |x::P=>by
  show([xoZ,bq,Ki],xRt[xtb six P][xcg six x])
theorem xwV:∀{It:xBd} (a:Nat),(lF It x4N)->xx3≤3*yfa
 | [],_,_=>ρ
 |x::It,a,h=>by
  show(Θ hx[h x Z6] e zg5,[e,bq]);cases x with
  |one y=>
   show Zz[xwV (It:=It) y λ z hz=>h z[by simp [hz]]]
   show(3+0)+xx3≤3*(aO[jI y] 1);show Bg zdI xIP[.a[ir D2] SZ] yaU ih
  |rep r=>
   show Θ ih[xwV (It:=It) a λ z hz=>h z[by simp [hz]]] hr[rJ r/\r≤66] hx;show(3+(6+0))+xx3≤3*CZ[xxf r][jI a];show(UU K2,DE [_,_,_][A7[.m 3 D2]][JB 3 xIP][.a[Hk[ir[.n 6]]] SZ][.m 3 Φ] ih[JU 3 hr.1])
def xoA (hl:vE){It:xBd}(h:xNd 0 0 It 272 b):jI 0=L:=by
 have:=W13.xqT h;rw [Ol,KN,<-hl,K0] at this;exact this.symm
theorem xny:∀{P P':xBd} {p a b b':Nat},xNd p a P L.length b->xNd p a P' L.length b'->P=P'
 | [],[],_,_,_,_,_,_=>rfl
 | [],x::P',p,a,b,b',h,h'=>xRt Gl h'.1
 |x::P,[],p,a,b,b',h,h'=>xRt h'.1 Gl
 |x::P,x'::P',p,a,b,b',h,h'=>by
  show((_,e,h)=h,(_,e',h')=h',DX);subst e';rw [xny h h']
theorem xmp (a)(Q):∀n,(xSu[Ei[xxV[a::Q]]]).sum=(xSu[Ei xNu]).sum+xZh[a<n] 1
 |0=>rfl
 |n+1=>by
  rw [Pm,J8,NZ,J8,NZ,xmp a Q n];simp only [L5,QL,OS,List.sum_nil,Pj];by_cases e:a=n
  ·show(DX,V5[Kh xM4][Kq xHE],xG Ec uj uj Ec)
  ·show xD1[o9 a n] x92;by_cases l:a<n
   ·show((l2:a<n+1)=OU l,V5[Kq l][Kq l2],xG V3 uj uj V3)
   ·show((l2:¬a<n+1)=TD[e[JS[LQ z][QX.mp l]]],V5[Kh l][Kh l2])
def xdd (Q){q:Nat}(h:q<272):xNu∈ZM:=by
 unfold cn;exact MY.mpr[ZK q[OG.mpr h]]
def xiL (h:b∈ZM):∃q,b=xNu:=by
 show(pM cn,x3Q q e h,AX q e.symm)
theorem xjj:∀Q:LE,(ZM).sum≤Q.length
 | []=>by
  have:∀n,(xSu[Ei[xxV ([]:LE)]]).sum=0:=λ n=>by
   induction n with
   |zero=>rfl
   |succ n ih=>show zm Pm J8 NZ ih
  show(xG2[Ei[xxV ([]:LE)]]).sum≤0;show x1N ρ
 |a::Q=>by
  show(Ty ih[xjj Q] e[xmp a Q 272],(ih':(xG2[Ei xNu]).sum≤Q.length)=ih,yM[(xG2[Ei[xxV[a::Q]]]).sum≤Q.length+1] e)
  split<;>omega
theorem xox:∀C:LE,Ez[yhC _E] C.sum
 | []=>ρ
 |a::C=>by
  show(Zz[xox C],[Q6,OS]);by_cases h:0<a
  ·show([Kq[JY h],Ki],x3 [_,_,_][A7 Ep] EA Φ ih h)
  ·show w4 xBs[OL ih]
def xaN (C):yhC _E=(S.pos C).map[S.xzN C]:=by
 show Bj[C=ybi[S.xzN C]][by
  show(xAa i,[KS]);by_cases h:xXR i
  ·rw [N1 h,JX h];simp [S.xzN,Kb,h]
  ·show BH[KZ[KW h]][KZ[Cy[KW h]]]]
 conv=>lhs;rw [e]
 show CM Qy
def xnO (Q){q:Nat}(h:q<272):x6F q=xNu:=by
 simp [S.xzN,cn,Kb,h]
seal cn
def xee {Q:LE}(hq:oN Q[q<272])(h1:AJ Q.length)(Sl:YG Q.length):(Eg ZM[xNS b])/\x5H ZM/\xQu ZM/\(∃b∈ZM,0<b)/\AJ 6/\zi 6/\Ez[xG3 ZM _E][2^6]/\xQu xxF/\x5H xxF/\Ez xxF[2^6]:=by
 show(Ty hf[xox ZM] hs[xjj Q],AH hp[BF xxF (xG3 ZM _E).length][by rw [xaN,JO]] h0[∃b∈ZM,0<b][JI a ha[Qh h1][De[xdd Q[hq a ha]][Pn.mpr ha]]] (uL,IC xt8,IC xt8,h0,_x,Z4,(HK zh8[ZA xYh] xxY Sl hf[JN hs[JQ hp]]),?_,Z4))
 ·show JK q[xiL hb];have:=yjX q (l:=Q);show Ej ù xYl BB Sl this
 ·show([hp],HD Ì hb0 h0[List.length_pos_iff.mpr[List.ne_nil_of_mem[M7.mpr (hb,JY hb0)]]])
def ShL (Q:LE)(L:LE):Prop:=∃ln:Ea,S.LnOf ZM 6 ln/\L=xY4/\PM.ģ xxF x6F 6 ln
theorem ShL.uniq {Q L L':LE}(h:xD5 Q)(h':ShL Q L'):L=L':=by
 show((ln,h1,rfl,_)=h,(ln',h2,rfl,_)=h',[h1.uniq h2])
def Ľ:q∈xxF<->q<272/\q∈Q:=by
 show xCU S.pos M7 OG xt8;constructor
 ·rintro⟨h1,h2⟩;show A3[xnO Q h1] h2[xIu[Pn.mp[J5 h2]]]
 ·rintro⟨h1,h2⟩;show(EJ h1[JY ?_],Sc[xnO Q h1][Pn.mpr h2])
def ShL.ok (hq:oN Q[q<272])(h1:AJ Q.length)(h:xD5 Q):xGX/\vE/\(Eg zdh)/\oN Q xJw:=by
 show((ln,Á,vbq)=h,SB get[∀q,q<272->yU xY4 q=ln q][λ q hq=>by simp [Kb,hq]] le6[∀q,ln q≤6][Ei[by
  by_cases m:q∈xxF
  ·exact(b1 q m).2
  ·show IC[b2 q m]]],SB six[Eg xY4[b≤6]][CG[by
  show(x3Q q rfl hb,le6 q)]] UA[oN Q[AJ[ln q]]][λ q m=>(b1 q[Ľ.mpr (hq q m,m)]).1],SL ek[C9.o_ 6 xY4=(Xg xxF p[2^(6-xKh)]).sum][by
  unfold C9.o_ S.pos;show([Qy,Mv,xt8],DA[xw9 272[(kP l[0<l])∘ln]][xw9 272[kP p[0<x6F p]]][by
   show(xDp[List.filter_congr[UV q YW]] Wb[OG.mp YW],yM[vo 0[ln q]=vo 0[x6F q]][xnO Q Wb]);by_cases m:q∈Q
   ·rw [JY[Kl 0[ln q][UA q m]],JY[Pn.mpr m]]
   ·show(z=b2 q[TD[m (Ľ.mp z).2]],[z,List.count_eq_zero.mpr m])],CM this)] (xAu Z6 Z6[λ l hl=>Ga[six l hl]] ?_,Z6,six,λ q m=>Sc[get q[hq q m]][UA q m]))
 ·show JI a ha[Qh h1] (ln a,MY.mpr[ZK a[OG.mpr[hq a ha]]],UA a ha)
 ·rw [C9.J_ (m:=6) Z9 _ six,ek];have:2^(12-6)*(Xg xxF p[2^(6-xKh)]).sum≤2^(12-6)*2^6:=JU _ b3;show xB4
def ShL.tok (g:GR W Pp)(h1:x38)(h:xD5 xV9):xQh:=by
 show((hq:oN xV9[q<272])=λ q hq=>by
  show(dR Ô[MY.mp hq],(_,gx)=g.all Ô,xn9 gx),Dj a b c d[h.ok hq[Ex h1]] (a,b,c,DB[d _[MY.mpr[ZK Ô]]]))
universe K26
namespace K26
open PySem L2 QQ W17 W16 BP
seal PE PA PS Ó PT PW PG PI
def xnD {pos:Pos}(h:JM[UF yr[Sf c]])(hg:yF)(hd:sV):Ax xCa[xw c]:=JI t h h[xrW hg h[dJ t] hd]
structure Shs (K:Frag)(mg:Τ):Prop where
 X:FW
 whole:x1U
 arewhole:yfP zdn
 things:Ι zh3 xBi
 need:Ι zii nK
 weight:Ι "weight_of" xuo xGK
 pairs:Ι "in_pairs" xub xMY
 light:Ι zhG xVj
 lengths:Ij[S.FnL Â ztj nK Ò]
inductive xqi (vs:SC) (H:Hp) (Q:VK) (RW:XK):Prop
 |mk (t:RA) (x:Pc) (h0:vs=[yd]) (h1:rk[_P x]) (h2:zw[th x]):xqi Ã
def xhC:XV xGY xGY xtu:=Uf
def xhb (F:Ρ "thing_of" xtu xGY)(T:FW):f7 xGY xqi:=by
 show(BA xhC[λ RO A outer s H vs Q E hr h=>?_],ze t x ht k,CY[vB bM x8i bd[Cj x8i][Cj[yQ[Ee[xnD T.first Z7] x8i][xnD T.least Z7]]]])
 cases x with
 |sg s=>
  show EC (vcg,vdr) (vcg,zp,k)
 |cp b z=>
  show(Υ (vcg,vbT,xTY xsG) (vcg,xAK 2,Å,ø),Bj[Ψ 256+Tl z-3=Tl[253+z]] Z5)
  try dsimp only
  show Vz k
inductive xlS (vs:SC) (H:Hp) (Q:VK) (RW:XK):Prop
 |mk (a:RA) (Qs:LE) (h0:vs=Dl) (h1:Α=Ak[Qs.map vN]) (h2:(oN Qs[q<272])) (h3:AJ Qs.length) (h4:YG Qs.length) (h5:bL l RA L LE Hp[DP->AA->B1=ax->xD5 Qs->BD]):xlS Ã
def xqf:XV ["things","counts","thing"] x4O xpY:=Uf
def xdi {Qs:LE}(h:B8 Qs q)(hq:q<272):(AY[xV0 i]).set q[vN[xSK q+1]]=AY[xV0[i+1]]:=by
 show(HI[∀A,AY[cn A]=xG2[λ p=>vN[A.count p]]][λ A=>xx9 cn Mv],yz e1 e1[S.set_range (f:=λ p=>xSK p) (f':=λ p=>ybj[i+1] p) (Gf p)],et[ybj[i+1] p=xSK p+ m9 [q]][xuW h] Os)
def xdC:xKE 272=AY[cn []]:=by
 show(HI[AY[cn []]=xG2[λ _=>TC]][xx9 cn Mv],[e1,Rk,Ml]);generalize 272=n
 induction n with
 |zero=>rfl
 |succ n ih=>show zm LF LG ih LF
inductive xke (a:RA) (Qs:LE) (l5:RA) (H5:Hp) (i:Nat) (σ:St) (H7:Hp):Prop
 |mk (v:EE) (h0:σ=[Cs,xQm,v]) (h1:H7 l5=Bc[xV0 i]) (h2:∀c o,Eu l5->H5 c=LT->H7 c=LT):xke a Qs l5 H5 i σ H7
def xhu (F:Ρ "shares_of" xpY x4O)(Y:Shs Â):BY 34 x4O xlS:=by
 show(TL,(T,(_,_,Wh),(_,_,AW),(_,_,Th),(_,_,Ne),(_,_,We),(_,_,Pa),(_,_,Li),(_,_,Le))=Y,Uv t6 B6 Le.d,BA xqf[λ RO A outer st H vs Q E hr h=>?_],Hv a Qs w_ hq h1 Sl k,xCc[Em 1 xqf.nd[xZX yc[xnD T.many Z7]][vn AB 2 xqf.nd[ag[xz5[Rd[vA χ Ε]][xuf χ Ε xur]]]][xrR[S.ok_lengths Le Ne Th AW Wh Li Pa We T] hr Z7 Le.m Le.kp B6[xXg (a:=V.int 6) Dy] bo Yk]],Ai g1[uY E9 l4 n4],zf s4[DI xSZ n4] h44[(G9 l4 xSZ) l4=Ak [TC]][G9 l4 xSZ] H4,Dp (vca,h44,_x,(rP[1*272]),bf zcO),Cc s5[xKn[xKE 272]] h55[(Tn[xKE yf6]) l5=Bc[xV0 0]][Sc ae[congrArg[TD[some[HO.lst z]]] xdC]] n05[Bf l5][x5z s4],Fx s05[qq[Tn[xKE yf6]]] x4a[Tn[xKE yf6]] H5);clear s5 s4 h44;show SL YR[a≠l5][ai ha n05][UZ[gX a[s05 _ _ ha][mr K a[Qs.map vN][xke a Qs l5 H5][Kd none h55 yaQ][λ i σ H7 _ z9=>xF0 kp z9[RV.of[DY YR[s05 _ _ ha]]]] Î]]]
 ·show x4;rintro i y σ H7 hi ⟨v,rfl,h7,kp⟩;show(TL,Mk q hqi hi,π,Θ hqn[hq q[Lq hqi]] hg[x9[AY[xV0 i]] q[vN[xSK q]]][by
   unfold cn;show Jm KS KS[N1 hqn]],SL e2[Tl[xSK q]+1=xV[xSK q]][Qb _] (vcc,Û,RV.of h7,aF hg,ø))
  try dsimp only
  show Ζ e2 (vcc,_,_,q,Ú,h7,S.í[X8 xt8 hqn],xEA,vfp)
  ·rw [ae,xdi hqi hqn]
  ·show Κ n[DY n e]
 ·show(xPG H7 v rfl h7 kp,xCJ K0 h7,xRY,ZZ s07[qq H7][λ c o e=>DY[pq n05][s05 _ _ e]],(vci,q5,q6,q7,q8,q9,q10)=xee hq h1 Sl,π,Υ (Á,l5,cn Qs,6,rfl,h7,vci,q5,q6,q7,q8,q9,q10,λ l ln H8 nl s8 hl hb hln=>?_)[yg xY4 H8[iJ s07][s07.trans s8] ?_[JH ln hln hb]],Jm hl xt8 Mv)
structure Cds (K:Frag)(mg:Τ)(D C:RA):Prop where
 M:ydY mg C
def xh5:XV Am Am xpR:=Uf
def xiO:XV xXi xXi xp1:=Uf
structure Shw (K:Frag)(mg:Τ)(B D C:RA):Prop where
 Y:Wys Â
 Zb:xRe B
 Sh:Shs Â
 Cd:Cds Â D C
 thingof:Ι "thing_of" xtu xGY
 sharesof:Ι "shares_of" xpY x4O
 needtab:Ι ziq Jaf
 again:Ι zir xVW
 puttab:Ι "put_table" xpa x52
inductive xlQ (B:RA) (vs:SC) (H:Hp) (Q:VK) (RW:XK):Prop
 |mk (o p d a:RA) (x:V) (T W:LE) (Pp:yW) (N T0:Nat) (h0:vs=[yS,Dc,Aj,x]) (h1:xRb B T0) (h2:xQx) (h3:Α=DO) (h4:wO T) (h5:xxt) (h6:dU) (h7:oP) (h8:xK2) (h9:V0) (h10:xTN[W++T]) (VB:∀(L:LE) (It:xBd) (b:Nat) (H':Hp),xD5 xV9->xNd 0 0 It 272 b->Vn B[qj[jv++xCO]][T0+É[jv++xCO]]->o8[Μ=LT->A9->EY->Bo=LT]):xlQ B Ã
def xuA:XV ["self","bits","text","before","pieces","lengths","codes","piece","pair"] Jac xtQ:=Uf
def xeq:xEk xGY:=Z8
def xku:TE:=xxE xqi[rT lg]
def xto (h:xEK Pp q)(hpq:p<q):x38:=by
 cases Pp with
 |nil=>show(DA p q h,DE [_,_,_] x8b EA zbU hpq zZ)
 |cons x Pp=>simp
def xie (F:yab zre)(A0:xUi C):BY 35 Jac[xlQ B]:=by
 show(TL,((Vi,vfx,(_,_,Ns)),Z,Sh,Cd,(_,_,To),(_,_,So),(_,_,Nt),(_,_,Ag),(_,_,xuK))=A0,BO Nr Vi.needrow Nw Vi.needwin,Ty X Vi.R.X GTh[xhb Æ To X],BO Nl Cd.M.need Co Cd.M.cof,GC=K26.C.xjR Æ Co Nl Cd.M.Y,x7x Wh Sz,vV zeL zgy zgC,π,Ty TB Z.T GP[x2m P w Sz Wh O M TB X],DW xuA[λ RO A outer st H vs Q E hr h=>?_],(o,p,d,a,x,T,W,Pp,vbf,Yv,ha,vb0,hwk,k)=h,tS _H Uj 3,tS zgl hr32 32,rU Y9[ED 33] BM[Iz[IX zoF Ns 2 LB][DJ 4 xuA.nd[xB5[li Po Vi] hr32 Po.m Po.kp Po.b bo[jZ 2 3]] 5 xuA.nd[fZ[xhu So Sh] So[xbF (N:=xGY) (g:=ou) (te:=xku) ze2 Z8[xu1 AS][λ fp s H=>xSW xeq][λ fp s H=>wZ GTh To 0]]][zX 6 xuA.nd[zS GC Y9 Co 5][aD[IX[Tb.ok_puttable xuK Nt Ag Z] hr32 xuK 1[vW 5]]][ag[vn AS 7 xuA.nd[zX 8 xuA.nd[vA Im[wZ GTh To 7]][aD[xNX[IB[xxn xPM][xxn xPM]]]][d8 bM[xxn xIN] bd[xZO[yT[xxn xIN]]]]]]]]]],Gd (ě,x,T,vbv,vds,vev),Gd (ě,x,W,T,rfl,yac,yeK,hWb,WB,Ga hWl,Ga Sl,λ l P' H1 s01 nl0 ⟨ts,hl,WM⟩ hwk'=>Al),ZZ eP zqJ)
 subst eP;show(Θ s1 ydq nl zjU,ka gr hrun XU[xq6 hWb WB hwk],(hP1:AJ P'.length)=xto hwk[kh[Mm h1]]);clear s0 s01 h00 nl0 hwk';show Υ[UZ[gX l hl[UV l2 nl2]]][EQ (g:=ou) (te:=xku) (K:=K) (a:=l) (l:=l2) (xs:=cq) (n:=1) (λ i ys H2=>ys=AY[(xFS).map th]/\H2 l2=oZ/\Ap)
  (k8 ae[am nl2])[λ i ys H2 _ z9=>by show(xMb sm,jV[oR hl])] zdp]
 ·show x4;rintro i y ys σ H2 hi ⟨rfl,Yx,sm⟩ hσ;show(vdh,π,B5 u0 u0 zg3,AH Ue zhb zis xCY (Á,t,P'[(i)],rfl,oR[WM.2 i t _ ht hPi],Yx,cz[bE JO JO J7[xOi[JW XU[Ga Sl]]]],vbJ,ae,xJ7))
  ·show Jm[xuW hPi] J8 J8
  ·show yY nl2 xDh
 rotate_left
 ·exact λ x σ H A B h z=>lI
 ·rintro σ H A B h ⟨v,e1,t,x,e2,e3,z⟩;exact(v,e1,t,x,e2,e3,lI)
 rintro ys H2 ⟨rfl,Yx,Uz⟩;show(xJH xC2 K0 Yx,(hq:oN[P'.map th][q<272])=λ q hq=>by
  show(TL,dR Ô[MY.mp hq],(_,gx)=gr.all Ô,ZC[xn9 gx]),Dp (l2,P'.map th,rfl,Yx,hq,Ex hP1,Ex[JW XU Sl],λ l3 L H3 nl3 s23 h33 hsh=>Al),Ty tok[hsh.tok gr hP1] s13[Uz.trans s23],(nl31:CU l3)=none_of Uz nl3,Gd[VY L[Kd l3 h33[CG[Ga[tok.six Ì]]]] tok.good[λ l4 xs H4 nl4 s34 h44 hcl=>Al]],Ty s14 yms hB4[hB.keep λ c o e _=>xLf Eo],Es h43[xTJ h33],(dxp,rp,kp',hpp)=hB4.ob,x65 dxd Bd rd kd hdd hB4,π,Df nl3p l3 p[aN h43 zeq] nl3d[l3≠d] (xrN[(yb9).imp[λ _ e=>Eo]] nl31).symm,Df nl4p l4 p[aN h44 zeq] nl4d[l4≠d] (xrN[(yb9).imp[λ _ e=>s13 _ _ Eo]] nl4).symm,Df Up l p x81 VE WR x82,Gd (Ŷ,d,l3,N,T0,L,rfl,hB4,Yv,h43,tok.len,tok.six,nl3d,λ It b H5 hit hB5 Wu=>Al),Ty hit2[xoA tok.len hit] hto[xwV 0[ylC hit]]);rw [hit2,tok.len] at hto;show(Ty h5l[Zo[xLf hl] Up VE] h54[Zo h44 nl4p nl4d],(Yz:∀t ys,Hl[H4 t] ys->Hl[H5 t] ys)=λ t ys e=>Zo e[dz zeq][dz ziG],Ty hcl5[hcl.keep Yz] hts5[(WM.keep λ a xs e=>xLf e).keep Yz],xXr dxp5 rp5 kp5' hpp5 hB5.ob,x65 dxd5 Bd5 rd5 kd5 hdd5 hB5,FJ[gX l h5l[mr K l cq[λ i σ H6=>∃v7 v8,σ=[zr,Bh,Cs,xIf,zt,xyP,υ l4,v7,v8]/\xBU B H6[d4[sk xFS][qj jv]][T0+xx3+x04]/\∀c o,H5 c=LT->A9->EY->H6 c=LT][zd zdd hB5[λ c o e _ _=>e]][λ i σ H6 _ z9=>by show(yb4 z9,jV[xSF h5l VE])] Î]])
 ·rintro i y σ H6 hi ⟨v7,v8,rfl,hB6,kp⟩;show(veV,Ty XR[hts5.2 i t _ ht hPi] hga[gr.at hPi],SB hmem[P'[(i)]∈P'][Ms Ue] ntp[uV t][xQi ztn],(ntd:t≠d)=xQi zto,Ty htt6[DY XR zdo] h64'[DY h54 nl4p nl4d],ka zcE[tok.at hmem hga],Cc U7[C10.xkQ tok.good ğ] hlx[iZ[th P'[(i)]]][Sc hcl5.1[rB U7]] hxi[HC xs[th P'[(i)]] xs[(th P'[(i)])]][JX hlx]);obtain⟨tc,etc,htc⟩:K26.C.xuL H5 xs[(th P'[(i)])][some ((xF7[th P'[(i)]][uT P'[(i)]],uT P'[(i)]))]:=hcl5.2 _ _ _ hxi U7;rw [etc] at hxi;show(Df ntcp tc p[aN htc ztn] ntcd[tc≠d][aN htc zto],Ty htc6[DY htc ntcp ntcd] hto2[xtb tok.six xFS]);rw [J7] at hto2;show(Es hcl2[C10.H_ tok.good ğ],DS dx r kk hp6 hB6.ob,[xuW hPi,xiN,xzK,bq,xdY],oW g2 (Ï,t,P'[(i)],rfl,htt6,l4,Û,RV.of h64',aF hxi,ZV) g2,oW g2 (ų,hp6,oQ,Á,tc,Û,Sr.of htc6,zq,Á,tc,Û,Sr.of htc6,zp,p,d,vbm,hB6,(Hu [_,_,_,_,_,_][A7[xQy[Gi 14 JD[x5l[.m 14 uZ]]]]][Yb[xQ0[xQy[Gi 3 um[Gi 14 uZ[.m 14 JD]]]]]] xBW zcz[W4 Sl][JN[W4 XU][JN hto[JN hto2[W4 HN]]]]),Z5,hcl2,λ H7 hB7 kp7=>ZV) g2,Es htt7[xTK htt6 zdo],DS dx7 r7 kk7 hp7 hB7.ob);generalize P'[(i)]=xx at*;cases xx with
  |sg s=>
   show(Υ (ė,yeN,vbT,xTY[TD[xsG z.symm]])[nj j_[λ c o e n1 n2=>xTK ydd ï]],(e5:T0+xx3+(x04+xXS xxO)=T0+xx3+x04+uT xxO)=by
    show(kU[xXS xxO=uT xxO],Cn[dN [_,_,_,_,_] Dk JD x8L x8P UW][dN [_,_,_,_,_] JD Dk x8P x8L zZ]),Sc e5 hB7)
  |cp bk z=>
   obtain⟨g1,g2,g3,g4,g5⟩:AJ bk/\bk≤255/\bk≤_/\xE0/\xE5:=hga;show(Υ (ė,yeN,vdr) (ß,dx7,Á,hp7,oQ,ė,yeN,zp,p,d,_,_,bk,f_,hB7,Z5,Z9,(gY[bk<2^8][MV g2]),Ο H8 hB8 kp8),CJ[nj j_[λ c o e n1 n2=>kp8 _ _[xTK ydd ï] ï]] e5[T0+xx3+(x04+xXS ya1)=T0+xx3+x04+uT ya1+8][by
    show(kU[xXS ya1=uT ya1+8],Cn[dN [_,_,_,_,_] Dk[vd 4 8] x8L[nA x8P] UW][dN [_,_,_,_,_][vd 4 8] Dk[nA x8P] x8L zZ])],Sc e5 hB8)
 ·rintro σ H6 ⟨v7,v8,rfl,hB6,kp⟩;show(xJH xC2 K0 hB6,k L It b H6 hsh hit ?_ λ c o e n1 n2=>DY[Zo[xLf Eo] ï] ï,[xzK,bq,-Lm],hB6)
def xce:Sp:=λ vs H Q _=>∃o,vs=[yS]/\ra 3
def xbv:jB lf:=Uf
def xab (F:x6f zqK):Zr xce:=by
 show(DW xbv[λ RO A outer st H vs Q E hr h=>?_],HD o rfl k zfV)
def xzZ:XV ["self","reader","count","before","signs","begin","end","codes","thing","back"] Jad xtc:=Uf
def xhs (T)(s):x2I[T++[s]]=fE++[((s,8))]:=by simp [xz1]
inductive xlP (vs:SC) (H:Hp) (Q:VK) (RW:XK):Prop
 |mk (a:RA) (T:LE) (h0:vs=Dl) (h1:Α=DO) (h2:dU) (h3:∀l ts H',AA->DP->B1=xDb->XZ H' ts oJ->BD):xlP Ã
def xvZ:XV ["signs","runs","begin","place"] xNv xui:=Uf
def xg4 (F:Ρ "runs_of" xui xNv)(T:FW):f7 xNv xlP:=by
 show(BA xvZ[λ RO A outer st H vs Q E hr h=>?_],IG a S w_ Sl k,Av[gO xvZ.nd yw[Em 2 xvZ.nd aj[zU[yhu Z7[WX[Rd vP]]] 3 xvZ.nd[ig[PW.pt[xVe[Bv bM Ab vP][Bv kD[Hh Ab][Hh Ε]]]][Iz[xHk χ[B9[aT[IB[Hh Ε][yQ Ab Ε]]]]][qP 2 xvZ.nd Ab]]]] χ]][IQ zdF],s0=xPo,YM,xCs,SL en[xCe[U9[xZK+1] 1]][sr JO] (_U,BZ yac,Å,1,Á,(Z5,Z5,sr JO,sr JO),?_),Ζ en[xKu Ym 1 S.length[λ i σ H2=>∃b rs ts v3,σ=[Cs,zt,YI,v3]/\Yp/\pG=xDb/\XZ H2 ts rs/\rs++rl[S.drop b]=rl S/\HE b/\HE rs.length/\(xCe i->xCe b)/\∀j,Z2 b->HE j->pQ j->S[j]?=S[b]?] (0,[],[],none,rfl,s0,ae,.nil,rfl,ρ,ρ,TD z,λ j h1 h2 _=>by rw [Nat.le_zero.mp h2]) Î])
 ·show x4;rintro i σ H2 hi ⟨b,rs,ts,v3,rfl,sm,Su,YA,hrl,hbi,hri,hend,YR⟩;show((hbS:pQ b)=Kw hbi hi,Θ XT[oR ha] ep[Ih+ui=jT][Uw x8t Tm zB],Cc Ww YA.len Sb[HC S b S[(b)]][JX hbS] J[(xDQ S[i+1]? S[(b)])->∀t,Ω[H2 t]->∃b' rs ts' v3,[xM9 a,xM9 l,Ν[i+1],Ν[i+1]]=[xM9 a,xM9 l,Ν b',v3]/\qq[nO zg6]/\(nO zg6) l=Ak[ts'.map V.ref]/\XZ[nO zg6] ts' rs/\rs++rl[S.drop b']=rl S/\b'≤i+1/\rs.length≤i+1/\(xCe[i+1]->xCe b')/\∀j,Z2 b'->j≤i+1->pQ j->S[j]?=S[b']?][by
   intro T1 t nt;show Gr st[xSM [vN S[(b)],vN[i+1-b]]] nlt[t≠l][sM Su nt] (i+1,rs++[((S[(b)],i+1-b))],ts++[t],Ν[i+1],rfl,xJ7,ae,à,ρ,by show(lP[rs.length+1≤i+1],LY hri 1),TD z,λ j h1 h2 _=>by rw [BL j[i+1][NJ[JS Ç]]])
   ·show bp[Xd xDh]
   ·refine((YA.mono st).keep[HL c xs]).app[jt ?_]
    ·show W8[TD[Ek x9F e e]]
    ·show xLy nlt ae
   ·rw [JT,<-hrl,xbY (b:=b) (e:=i+1) (a:=S[(b)]) (MV hbi) jc[λ j h1 h2=>by rw [YR j h1[LQ h2][J6 h2 hi],Sb]] T1];rfl],Ζ ep (ě,Á,BZ XT,Ŵ,ux h h))
  ·show(SL he[xCe[i+1]][by
    show(xOJ,yen this,xLM JO[Qr.mp this])][bY (Á,Zy Su,vdz,vbk,vdy)],E7 znx)
   try dsimp only at nt
   try dsimp only
   show(Ζ zkB,qD z[J[Γ he[KZ ρ] Jf] t nt] J8 z z)
  ·show SL he[pQ[i+1]][by
    show((h':¬(WF[D3[V.int jT][V.int xZK]]))=h,Vv[i+1] S.length)
    ·show Ii
    ·show Yl[Fn[BL[i+1] S.length[JS hi q]]] h'] (vdw,uU he,vdz,Ŵ,?_);by_cases T1:S[(i+1)]=S[(b)]
   ·show(yz T1 F8[bD (b,rs,ts,Á,sm,Su,YA,hrl,LU hbi,(lu zeo Η hri),TD[JS[iO _I hbS][Hu [_,_,_][AV[BS xOK xHe]][ZA[nL 64[xHI vF]]] Ę Sl[xb he][Ct 64 z.symm]]],λ j h1 h2 h3=>?_)],Vv i j)
    ·rw [show j=i+1 by show Cn[lu zco Η h2][xNQ Η Η q],JX he,Sb,T1]
    ·exact YR j h1 q h3
   ·show(Ζ[LL[TD[T1[xve.mp z]]]][bY (Á,Zy Su,vdz,vbk,vdy)],E7 znx)
    try dsimp only at nt
    try dsimp only
    show(Ζ zkB,qD z[J[Sc[JX he][TD[T1[Kr z]]]] t nt] J8 z z)
 ·rintro σ H2 ⟨b,rs,ts,v3,rfl,sm,Su,YA,hrl,_,_,hend,_⟩;rw [hend rfl,Q8,xcV,Ku] at hrl;show A3 hrl YA[xP3[yg ts H2 sm nl Su YA]]
def xeT (u:Bool):Int:=xZh u 1
def ut (u:Bool):Sp:=λ vs H Q _=>∃o:RA,vs=[yS]/\ra[xeT u]
def xhn:jB xpp:=Uf
def xf1:jB xpi:=Uf
def xga (F:x6f zrf):Zr[ut false]:=by
 show(DW xhn[λ RO A outer st H vs Q E hr h=>?_],HD o rfl k zfV)
def xgC (F:x6f zrg):Zr[ut true]:=by
 show(DW xf1[λ RO A outer st H vs Q E hr h=>?_],HD o rfl k zfV)
inductive Ĭ (u:Bool) (B:RA) (vs:SC) (H:Hp) (Q:VK) (RW:XK):Prop
 |mk (o p d a:RA) (x:V) (T W:LE) (N T0:Nat) (h0:vs=[yS,Dc,Aj,x]) (h1:xRb B T0) (h2:xQx) (h3:Α=DO) (h4:wO T) (h5:xxt) (h6:dU) (h7:oP) (h8:xK2) (h9:V0) (h10:ZX[Vn B[qj[xz1 u T]][T0+É[xz1 u T]]][o8[Μ=LT->A9->EY->Bo=LT]]):Ĭ u B Ã
def xlz:XV ["self","bits","text","before","sign"] Jac xpG:=Uf
inductive xj8 (B:RA) (o:RA) (p:RA) (d:RA) (a:RA) (x:V) (T:LE) (N:Nat) (T0:Nat) (H1:Hp) (i:Nat) (σ:St) (H2:Hp):Prop
 |mk (v4:EE) (h0:σ=[zr,Bh,Cs,xIf,v4]) (h1:xBU B H2[qj[x2I yfk]][T0+É[x2I yfk]]) (h2:∀c o,xKq=LT->A9->EY->Zt=LT):xj8 B o p d a x T N T0 H1 i ë
def xgH (F:yab zsq)(Y:Wys Â)(Z:xRe B):BY 8 Jac[Ĭ false B]:=by
 show(Es R Y.V.R,vdI,Ds R.X,vc8,vfD,DW xlz[λ RO A outer st H vs Q E hr h=>?_],(o,p,d,a,x,T,W,vbf,Yv,ha,vb0,k)=h,aR Uj 3,DR[ag[vn[Je zqe 2 LB] 4 xlz.nd[xZO[yD 4 yc]]]] (ě,x,T,vbv,vb0,λ l H1 s1 nl hl=>?_),Θ zhr zdv x81,SL VE WR x82[Kd l[xAU hl][mr K l WI[xj8 B o p d a x T N T0 H1] zkM Î]])
 ·rintro i y σ H2 hi ⟨v4,rfl,U4,kp⟩;show(TL,Mk Ì hi,(Ue:xHM i)=rB hb,DS dx r kk Sw U4.ob,FR XR[xzG yfk] J7 XR,Υ (vbo,oQ,ß,d,_,_,b,f_,U4,(Hu [_,_,_,_][A7[EZ[AV xyL]]][Yb[xOb 8[Hi FG]]] Δ zcz[dY Sl][Ge XR[dY HN]]),Z9,WB b[Lq hb],Ο H3 XW Sv)[zN ?_[λ c o e n1 n2=>xRg]],[xvD hb,xhs,xzK,bq,-Lm],XW)
 ·show(xPG H2 v4 rfl U4 kp,vH JO K0 U4[k H2 U4 λ c o e n1 n2=>DY Eo ï])
def xqh:XV ["self","bits","text","before","sign","size"] Jac xpD:=Uf
inductive xj9 (B:RA) (o:RA) (p:RA) (d:RA) (a:RA) (x:V) (T:LE) (N:Nat) (T0:Nat) (H1:Hp) (i:Nat) (σ:St) (H2:Hp):Prop
 |mk (v4:EE) (v5:EE) (h0:σ=[zr,Bh,Cs,xIf,v4,v5]) (h1:xBU B H2[qj[pR xYJ]][T0+j7 xYJ]) (h2:∀c o,xKq=LT->A9->EY->Zt=LT):xj9 B o p d a x T N T0 H1 i ë
def xhe {fR:RA}(F:yab zsr)(Ro:ynB xui xNv fR fdR)(Y:Wys Â)(Z:xRe B):BY 8 Jac[Ĭ true B]:=by
 show(Es R Y.V.R,vdI,Ds R.X,vc8,vfD,DW xqh[λ RO A outer st H vs Q E hr h=>?_],(o,p,d,a,x,T,W,vbf,Yv,ha,vb0,k)=h,SB zgz zcw,ZH[ag[x2E[xu1[zO[xg4 Ro X] Si Ro[Je zqe 2 LB]]][xIe[mF 4 xqh.nd[mF 5 xqh.nd xz8]]][Iz[xNX[yT[uW EH]]][xZO[yD 4 yc]]]]] (ě,x,T,vbv,vb0,λ l0 H0 s0 n0 h00=>?_)[xAk l0 T h00 Sl[λ l ts H1 s01 nl0 hl YA=>?_]],vdZ,Ty Ww YA.len hok[xnS Sl WB],ZZ hlen[Ez oJ 64][rO zmP[JW this Sl]],vdP,FJ[Kd l[xAU hl][mr K l cq[xj9 B o p d a x T N T0 H1][zd zdd zhV][λ i σ H2 _ z9=>by show(yb4 z9,jV[xSF hl VE])] Î]])
 ·rintro i y σ H2 hi ⟨v4,v5,rfl,U4,kp⟩;show(vdh,(q,hq,XR)=YA.at ht,(Ue:xQX i oJ)=rB hq,(q1,q2,q3)=hok q[Lq hq],veN,FR hto[xwi xYJ] J7 hto,CJ (t,Á,yeO,vbG,ø) e1[Tl IL-1=Tl[IL-1]][mE q1],uH g2 (vbo,oQ,e_))
  try dsimp only
  show(CS,IZ (p,d,_,_,IL-1,6,vb4,(Hu [_,_,_,_] zlY Δ zcz zoY),Z9,(by show IL-1<2^6;lia),λ H3 XW Sv=>ZV),TL,DS US r3 kk3 zgM,Υ (vcu,SW,oQ,ß,d,_,_,Dw,f_,XW,(Hu [_,_,_,_] zlY[D8 Δ 6] zcz zoY),Z9,(by show Dw<2^8;assumption),Ο H4 hB4 UO)[nj j_[λ c o e n1 n2=>cI xRg ï]],[xuW hq,xhH,xzK,bq],(e5:T0+(j7 xYJ+j7 [q])=T0+j7 xYJ+6+8)=by
   show(DA[j7 [q]] 14[CM xwi],iP[HJ XL xHY Jt[nA[D8 Δ 6]] UW] xHY XL[nA[D8 Δ 6]] Jt zZ),Sc e5 hB4)
 ·rintro σ H2 ⟨v4,v5,rfl,U4,kp⟩;show(xJH Ww K0 U4,k H2 U4 λ c o e n1 n2=>DY Eo ï)
def xbC:Sp:=λ vs H Q _=>∃o,vs=[yS]/\ra 2
def xbE:jB xpy:=Uf
def xaE (F:x6f zqL):Zr xbC:=by
 show(DW xbE[λ RO A outer st H vs Q E hr h=>?_],HD o rfl k zfV)
inductive xlh (B:RA) (vs:SC) (H:Hp) (Q:VK) (RW:XK):Prop
 |mk (o p d a:RA) (x:V) (T W:LE) (Pp:yW) (N T0:Nat) (h0:vs=[yS,Dc,Aj,x]) (h1:xRb B T0) (h2:xQx) (h3:Α=DO) (h4:wO T) (h5:xxt) (h6:dU) (h7:oP) (h8:xK2) (h9:V0) (h10:xTN[W++T]) (VB:ZX[Vn B[qj[pP Pp]][T0+xJu]][o8[Μ=LT->A9->EY->Bo=LT]]):xlh B Ã
def xlb:XV ["self","bits","text","before","piece"] Jac xpZ:=Uf
def xis (F:yab zrR)(Y:Wys Â)(Z:xRe B):xQs Jac[xlh B]:=by
 show(TL,(Vi,vfx,(_,_,Ns))=Y,BO Nr Vi.needrow Nw Vi.needwin,Ds Vi.R.X,vc8,Ty TB Z.T zhw,Uv tl zjL,DW xlb[λ RO A outer st H vs Q E hr h=>?_],(o,p,d,a,x,T,W,Pp,vbf,Yv,ha,vb0,hwk,k)=h,tS zgz hr7 7,Av[Iz[IX zoF Ns 2 LB][ag[vn[gz[li Po Vi] Po.m Po.kp Po.b bo[jZ 2 3]] 4 xlb.nd[Uc[Bv bM xCA bd][Iz[xNX xBX][xZO[yT xCA]]][Iz[xNX xBX][Iz[xNX[yT xCA]][xZO[yT[yQ xCA xI4]]]]]]]]] (ě,x,T,vbv,vds,vev),Bn (ě,x,W,T,rfl,yac,yeK,hWb,WB,(Z1[.n 192] xxX hWl),(Z1 bP[.n 500] Sl),λ l P' H1 s01 nl0 z9 hwk'=>?_) ts hl WM z9,ZZ eP zqJ)
 subst eP;show(vdZ,(gr,hrun,XU)=xq6 hWb WB hwk,vdP,FJ[Kd l[xAU hl][mr K l cq[λ i σ H2=>∃v4,σ=[zr,Bh,Cs,xIf,v4]/\xBU B H2[qj[pP xFS]][T0+x0E]/\∀c o,xKq=LT->A9->EY->Zt=LT] zkM Î]])
 ·rintro i y σ H2 hi ⟨v4,rfl,U4,kp⟩;show(veV,Ty XR[WM.2 i t _ ht hPi] hga[gr.at hPi],veN,FR hto[xtq xFS] J7 hto,[xuW hPi,xg0,xzK,bq,xdR]);generalize P'[(i)]=xx at*;clear fd F Z Vi w_1 w_2 Po w_3 w_4 Na w_5 w_6 Ns w_7 w_8 Nr w_9 w_10 Nw X w_13 w_14 S w_15 w_16 O w_17 w_18 Pu w_19 w_20 M TB GP tl hle hr hB ha WB h1 hx hWb hWl Uj hr7 l0 H0 s0 n0 h00 s01 nl0 hwk' hl hwk nl hB1 Up VE gr hrun dxp rp kp' hpp dxd Bd rd kd left hdd right ht hi Ue hPi XR;cases xx with
  |sg s=>
   show(SL hs[D4 s] hga (ė,yeO,vdr),oW g2 (vbo,oQ,p,d,_,_,0,1,vb4,vfy,λ H3 XW Sv=>ZV) g2,veI,Υ (vcu,SW,oQ,ė,Sr.of htt3,zp,p,d,_,_,s,f_,ve4,Z9,hs,Ο H4 hB4 UO)[zN ?_[λ c o e n1 n2=>cI xRg ï]],(e5:T0+(x0E+yaI)=T0+x0E+1+8)=by
    show(kU[yaI=9],iP[HJ XL DV Jt xYr UW] DV XL xYr Jt zZ),Sc e5 hB4)
  |cp b z=>
   obtain⟨g1,g2,g3,g4,g5⟩:G5/\WW/\b≤_/\xE0/\xE5:=hga;show(Υ (ė,yeO,vbT,xTY xsG) M',oW q2 (vbo,oQ,p,d,_,_,1,1,vb4,vfy,λ H3 XW Sv=>q2 İ) q2,veI,xHS,oW q2 (vcu,SW,oQ,ė,Sr.of htt3,zp,p,d,_,_,b,f_,ve4,Z9,(gY[b<2^8][MV g2]),λ H4 hB4 UO=>q2 İ) q2,Es htt4[cI htt3 zdo],DS dx4 r4 kk4 hp4 hB4.ob,SL e1[Tl z-3=Tl[z-3]][mE g4] (ß,dx4,Á,hp4,oQ,ė,Sr.of htt4,xAK 2,ø))
   try dsimp only
   show(CS,Υ (p,d,_,_,z-3,4,rfl,hB4,(Hu [_,_,_,_,_][xRS 13[BE 13[AV[.m 13 JD]]]][Yb[xOb 13[JB 13[Gi 13 JD[ZP 13]]]]] xYr zcz[JU 13 Sl][xJR 13 XU[JN hto[JU 13 HN]]]),Z9,(by show z-3<2^4;lia),Ο H5 hB5 Wu)[zN ?_[λ c o e n1 n2=>Zo[cI xRg ï] ï]],(e5:T0+(x0E+xGp[xJc z])=T0+x0E+1+8+4)=by
    show(kU[xGp[xJc z]=13],iP[HJ XL[.n 13] Jt[D8 xYr 4] UW][.n 13] XL[D8 xYr 4] Jt zZ),Sc e5 hB5)
 ·show(xPG H2 v4 rfl U4 kp,xJH xC2 K0 U4,k H2 U4 λ c o e n1 n2=>DY Eo ï)
universe K26
namespace L2
open PySem PySem.Spec PySem.Calls PyProof.Rows QQ PySem.W
def Inv.grown {σ:St}{P c':RA}(I:W1)(hP:yB P xxN)(k:ybf P h')(hc:xAQ c')
  (Wf:Xn zcT) (hP':Xn P[tabObj[ps++more]]):kc[upd[vD P xZz] zjj] Tt:=by
 show(SB hn[Bf c'][I.hok.fresh hc] nPc zss,SL at_[gL b u xR4[b≠P->wX[(upd[vD P xZz] zjj) b]]][λ {b u} e n=>Γ[uS hn] CP e][yfe [][xGR z z][λ b o _ _ _ e n=>xER[sM hP n] e][λ b o _ _ _ e n=>xGx[xER[sM hP n] e]][λ b o _ e n=>?_][λ b o _ e=>?_][λ b xs e=>at_ zpS][λ b o u e=>at_ zpS][HL b qs][UV m hm] zi1])
 ·show Γ[ak[xZU hc]][ak[sM hP n]] n
 ·by_cases z:b=P
  ·show(Hq,Qt hP')
  ·show AX o[xER z e]
 ·by_cases z:b=P
  ·show(CN z hP e e,AX more[xLy nPc ae])
  ·show AX #[][Dq[at_ e z]]
 ·show F7 o es ep ho r hm (va1,HG o[sM hP I.free] ho,r)
 ·by_cases z:b=c'
  ·show(CN z ae e e,Ef Wf oc Wf)
  ·rw [ak z] at e;by_cases y:b=P
   ·show(CN y ae e e,hP')
   ·show xOq[ak y] e[xGH b u e[λ c v hcb q=>k c v ?_ q][λ c q=>at_ zo8][λ c xs q=>at_ zo8]]
    rcases hcb with hcb|hcb
    ·show Sc hcb y
    ·exact aN hcb zer
def xzm (P:RA)(H H':Hp):Prop:=∀c o,Eu P->Μ=LT->Bo=LT
def xzT (P:RA)(pos:Pos)(qual:Str)(H:Hp):Prop:=∃ps,yB P xxN/\(ps=#[]\/∃c' oc vs t,ps=#[ylh,ylD,xBR]/\yB zjj/\oc.data=xUO/\xFx 1[.str qual t])
def xzT.same (h:yaW H)(s:AA):yaW H':=by
 show sO ps e h h[Dt ps[FV e]];rcases h with h|⟨c',oc,vs,t,a,b,r⟩
 ·show DD h
 ·show Dr (c',oc,vs,t,a,FV b,r)
def xgt (pos)(v):xDH[codeAmong pos [ylh,ylD,v]]:=xPu[codeAmong_snoc (c:=v) (pos:=pos) [] trivial rfl]
def xbt {RN:Χ}{σ:St}(I:W1)(T:yil gj H)
  (hcode:X.env.code=xBj) (C:x8g X.base P) (hbm:∃bm o,yjY=υ bm/\yfl bm/\yeq bm/\ylE=LT/\rg ycJ/\yf9/\yfY)
  (hdef:yks X.env=(([],[]))) (hcl:yhl=pure clos)
  (h:∀(f c':RA) (pm ctv:RC) (H':Hp) (s':RD),uq->iy f->xxi f[yaT gj clos pm c' ctv]->s'.heap.CodeRec xBR gj->
   (∃oc vs t,UF[H' c'][xwX oc c']/\oc.data=xUO/\xFx 1[.str gj t])->yil gj H'->xzm P H H'->Q Xl s'):
  jx[va[ylF zhe pos]] Q E s:=by
 show(Bn[kla_eval hdef ?_] ps hP T T,(hPo:IS P[tabObj ps])=mW P hP,Cc M I.ok.mod hg[s.heap.Ns mainGlobals X.mg][M.glob.keeps I.bk] hgP[mainGlobals≠P][TD[by
  show(yao es ep e hd hg,Ek hPo e e);cases hd]],(hb:s.heap.BuiltinsAt X.mg P)=by
  show(TL,(bm,o,vbq,b4,b5,b6,b7)=hbm,FJ (bm,o,vbq,oM,I.bk _ _ b4,b5,b6,b7),xIH[I.bk _ _ b4] hPo);cases b5)
 rcases T with rfl|⟨c',oc,vs,t,rfl,hc',d1,d2⟩
 ·show(bK[kla_makeFunction hcl I.ok.glob hg hcode ylG hPo trivial rfl hgP hb λ c' ctv h' tk hx Uq RQ hrec htb=>?_],(c2,oc,vs,t,e2,Wf,d1,d2)=hrec,π);cases e2;show(Cc I1[I.grown (t':=tk) hP hx Uq Wf htb] hn[Bf c'][I.hok.fresh Uq] nPc zss,Gr I2[xVy tk (h':=h'.push[yaT gj zjq c' ctv]) (λ b u e=>yK)] hoc2[ZS[h'.push[yaT gj zjq c' ctv]] zcT][tU Wf][ylH c' _ ctv _ _ I2[yeW xMe] Bb[JG zcT vs t hoc2 d1 d2] (oc,vs,t,ae,d1,d2)[De[xLy nPc ae][.inr (c',oc,vs,t,Z6,ae,d1,d2)]] λ b o n e=>?_],Γ[uS hn] CP e)
 ·show(SL Wf[IS zcT] (mW _ hc').1[kla_makeFunctionHit hcl I.ok.glob hg hcode ylG hPo[by simp [TriplesOk,rawInt]][xgt pos _] hb λ ctv h' tk hk hsz=>?_],ω I2[I.kept (t':=tk) (h':=h'.push[xAG "function"[.func[yca gj zcp zjq xBR ctv]]]) λ b u e=>tU[hk b u e]][ylH c' _ ctv _ _ I2[x3h hsz hsz] Bb[JG zcT vs t[tU[hk _ _ Wf]] d1 d2] (oc,vs,t,hc',d1,d2)[De hP[.inr[JG zcT vs t hc' d1 d2]]] λ b o n e=>e])
def xuR (X:Cx) (N:C6) (qual:Str) (scope:Scope) (cl:xn) (f:RA) (cd:RC) (A:RH) (s:RD) (H:Hp):Cx where
 prog:=X.prog
 w:=X.w
 K:=X.K
 mg:=X.mg
 base:=X.base
 A:=A.deeper[x8w f cd cl]
 N:=N
 s₀:=s
 H₀:=H
 env:=x8w f cd cl
 outer:=X.stack
 stack:=x8w f cd cl::X.stack
 ex:=[]
 calm:=true
 fn:=λ _=>false
 pn:=[]
 xe:=du
structure LCaps (X:Cx)(y:Str)(Nc:C6)(scope:Scope)(cl:xn)(js:LE):Prop where
 kind:xM1
 co:A2 scope.isCoroutine
 gen:A2 scope.isGenerator
 nocell:xQ6
 par:x3e y
 clos:yhl=pure cl
 sub:∀x c,xMT x c->WE
 has:∀x,(x73 x\/xUq x .free)->∃c,xMT x c
 len:js.length=Nc.length
 slot:jJ i x Str j Nat[V7 Nc->B8 js j->aA X.N x/\ya8 x .cell/\xUq x .free/\∀c,WE->xMT x c]
def xsE (js:LE) (σ:St) (v:V):St:=yV::yhn xT1
def xbG {σ:St}(I:W1)(C:yhU y Nc zb2 js)(r:fz)
  (hn:yjz[TD[([((y,u))]:xw4 RC).reverse.lookup z]]) (hk:∀b o,CR=LT->mZ=LT):
  xCW[xuR X zf2 zb2 f cd zeF H] zi5 Tt:=by
 show(Θ e0 I.env0.in1 noA[∀b,b∉(xuR X zf2 zb2 f cd zeF H).ex][uo b z zia],SL sub[gL x c[UF[ylx[xuR X zf2 zb2 f cd zeF H]] c] WE][λ {x c} e=>C.sub x c e] ((I.ok.mod,C.kind,Ú,ρ,λ x z c e1 e2=>I.ok.inj x z c[sub e1][sub e2],vep,e0.qt,yiX,vfI,I.bs,e0.bsz,veu,e0.funs,e0.frf),rfl,I.bare,yeF,De hn[λ i x v' h1 h2 h3=>?_],HL x c,ve0,uo ĳ zfv,ymd,?_))
 ·clear hn e0 noA h3;cases i with
  |zero=>
   have UR:m7 y x:=h1;cases UR;have YT:m7 yV ygq:=h2;cases YT;show xJP u r[jk C.par ?_];show wX[([((y,u))]:xw4 RC).reverse.lookup y];simp [List.lookup]
  |succ i=>
   show(SB UR[V7 Nc] h1 YT[B8[yhn xT1] ygq] h2,xHH YT);cases ej:js[i]? with
   |none=>show A8 ej YT YT
   |some j=>
    rw [ej] at YT;show(ZZ h3'[UF xT1 v'][Kr YT],(hj1,hk1,YO,hc)=C.slot i x j UR ej,(Xy:aA σ ygq)=by
     cases e:σ[j]? with
     |none=>show yf h3' h3'
     |some w'=>show xc h3'[xxj h3'],(mo,hno,hl)=I.loc,ka zcS l[hl j x v' hj1 Xy[x5j hk1]],x8 zcS);rcases l with⟨q,_⟩|⟨_,c,ec,o,ho,hd⟩
    ·show(HM xSU q,A8 hk1 zcR)
    ·show Dr (.inr YO,c,hc c ec,o,vcP)
 ·show Dj v' o zbK[xX4 xX8] (v',o,vcP)
 ·show BF[yV::yhn xT1] (y::Nc).length;rw [Ki,JO,C.len,Ki]
def xbi {X:Cx}{RN:Χ}{σ:St}{H:Hp}{s:RD}{y:Str}{Nc:C6}{qual:Str}{params:Arguments}{body:RJ}{scope:Scope}{cl:xn}{js:LE}{f c':RA}{pm ctv:RC}{te:TE}{k:Nat}{v:V}{u:RC}{Q:VK}{E:BQ}
  (I:W1) (C:yhU y Nc zb2 js) (hr:xGe[k+2]) (hf:IS f[yaT qual cl pm c' ctv]) (VA:s.heap.CodeRec xBR qual)
  (Zl:∀u,xWk[yca qual zcp cl pm xBR ctv] Gz=pure [((y,u))]) (r:fz)
  (he:PE[xuR X zf2 zb2 f xBR zeF H] body te) (hq:te zi5 Q):
  yeX xZn wR E s:=by
 show(SL hd[ydW X.A.in1.depth] (show RU[k+1] X.A.in1 from hr.in1).depth[P4[kla_callFunE hd hf rfl C.co C.gen rfl VA ?_]],Ζ Zl[Kn[wpAny_newFunctionEnv C.nocell[UV z hz][λ h₁ hns hsb=>yb[(I.ok.mod.nolimit.keeps I.bk).fresh _ hsb]] C.kind]])
 ·show Sc[KD.mp hz] C.par
 show codeAny _ _[.expr body[x8w f xBR cl]] _ _;show(SL hk₁[∀b o,CR=LT->h₁.get? b=LT][λ b o e=>ym0 o xYu yK][kla_codeExpr[cb[he [] _ zi5 Q[xbG I C r hns hk₁] hq][xFy w' hs] z xMx]],F7 v' H' J r' q hs[I.after (v',H',vcY,r',q)])
def xqp.at (f:vp b)(n:xBS):iy b:=(n,f.2)
def xiK {X:Cx}{RN:Χ}{σ:St}{H:Hp}{l f I S:RA}{xs:SC}{of:RK}{Q:VK}{E:BQ}(kf:DQ Int)(hh:xA2)(hq:xxH l xs)(hf:∀v,of.data≠ xHx)
  (step:∀(Td:Χ) (s':RD) (H':Hp) (i:Nat) (v:V) (u:RC),xLh H' s'->xxi f of->AA->xEY->fz->
   yeX zlW du s')
  (fin:jJ i v V H' zlA) (hSI:S≠I):
  ∀(r j i:Nat) (s':RD) (H':Hp) (vb:V) (ub:RC) (tb:Tok) (c:Nat),mX[j+1]=r->xFQ[j+1]->uq->AA->iy I->iy S->iy f->f≠I->f≠S->
   xxi f of->xxi S[xwZ #[ub,xL6 i tb] c]->s'.heap.IsListIter I l[j+1]->B8 xs vb->RelV vb ub->xR9->EG j'[Z2 j'->eK≤kf j'/\(j'<i->eK<kf j')]->
   x4T X.A[.builtin "min.loop"[BC [.ref I,Xl,.ref S]]][λ r VD=>match r with| .ok[.ret v]=>wR v VD| .ok _=>False| .error e=>E e VD] s':=by
 have Zk:(ylI++ykP:String)="min.loop":=Z9;intro r
 induction r with
 |zero=>
  intro j i s' H' vb ub tb c hr hj J sm fI fS ff nfI nfS hfo hSo hit hvb rb hij X2;show(ZZ hin[ao[j+1]][JS hj[xLX hr]],DS its zbV zpu,Θ zjD hlI[E8 I][TD[by
   show(TL,vdW,TV z e2,e'=Kr e);rw [<-e',ed] at hd;cases hd]],ve5,vd8,Du[O4[W.done _ _ _ (by show([hsz,-Ue,-hin],hit),pl.isList)[xFr tk' YQ]]],ZY J1[mV {s' with heap:=h',toks:=tk'}][J.turned (it:=I) zg7 zjr zi6] znO,qp[updateSeq S[λ _=>#[]]>>= _],nz ?_[ycg hS'[JV[QB yu]]],AG vb H'[J1.turn fS] rb[fin i vb H' hvb[λ j' hj'=>X2 j'[zg [_,_,_] vS x8b[JQ hin.symm] hj']] sm])
 |succ r ih=>
  intro j i s' H' vb ub tb c hr hj J sm fI fS ff nfI nfS hfo hSo hit hvb rb hij X2;show(ZZ RQ[iZ[j+1]][Qc hr],DS its zbV zpu,Θ zjD hlI[E8 I][TD[by
   show(TL,vdW,TV z e2,e'=Kr e);rw [<-e',ed] at hd;clear hq fin hj hz hc e2 ec ed e';cases hd]],ve5,vd8,Du[O4[W.item[j+1] _ _ _[Sc hsz[Kk RQ Ue]] (hit,pl.isList) λ u h' tk' hP U8 YQ=>?_]],ZZ hu[HC its[j+1] u] yeM,DS oI' hoI' Wf hod[id U8.1],YE v zd6 v[HC xs[j+1] v/\fz][by
   show(rq u' e3 r3[xWq[j+1] (x:=xs[(j+1)]) (JX RQ)],A8 hu e3 e3,jd[JX RQ] r3)],(J1:mV {s' with heap:=h',toks:=tk'})=J.turned (it:=I) zg7 zjr zi6,zx znO hf'[YQ f zpO hfo] Jp[J1.pinned (fp:=[I,S,f]) (CG[by
   clear hit hlI W U8 YQ;show xR
   ·exact fI
   ·clear hSo;show xR
    ·exact fS
    ·show xFo ff])[CG[by
   clear hit hlI W U8 YQ;show xR
   ·show jd zn2
   ·clear hSo;show xR
    ·show jd hS' xrA
    ·show xFo[De hf' hf]]]],qp[xNw[xXk u xZn]>>= _],nz[O4[L9[cb[step _ _ H'[j+1] v u Jp hf' sm zd6][Ο x VD he] hF hF.elim]]] gE,(rv',H2,J2p,rr,re,sm2)=he);subst re;show(π,B5 t2 t[x=Sf[kf[j+1]]] rr,ZZ pin[∀{b:RA} {o:RK},b∈ [I,S,f]->mZ=LT->ylJ=LT/\Ω[H2 b]][λ {b o} hb e=>xDX zpF ygs],EF gI nI[xOZ hoI'] gS nS[xOZ hS'],Uv gf nf[xOZ hf'],Ty J2 J2p.unpinned sm02[sm.trans sm2],(hit2:VD.heap.IsListIter I l[j+1+1])=(oI',gI,Wf,hod),qp[xNw[holding [u,pj[j+1]][richCompare .Lt[pj[j+1]][xL6 i tb]>>= _]]>>= _],vt[O4[L9[JV[CmpOf.ints_lt (prog:=X.prog) zfw (P:=λ i v=>JM[v=Sf eK]) kf[λ i v h=>h][j+1] i _ _ _ _ _[dJ t2][dJ tb] ?_]]]][L9[NX ?_]],Du[QB yu]);by_cases WQ:kf[j+1]<eK
  ·show xFK c2 hc2 c2[UF[xFV S[x2u #[u,pj[j+1]]] S][xwZ #[u,pj[j+1]] c2]][PL[PF gS λ _=>#[u,pj[j+1]]]];simp only [WQ,decide_true,if_true];show(nz ?_[ycg gS[JV x7S]],[Zk],ω fS2 ygm[Kn (x3k _,ih[j+1][j+1] _ H2 v u t2 c2[ykt hr] RQ ymt sm02 yfm fS2 yfn nfI nfS ?_ zpl zd6 ρ[UV j' hj'])])
   ·show xFV S _ f=_;show xFf nfS gf
   ·show xFV S _ I=_;show xFf hSI.symm gI
   ·by_cases e:j'=j+1
    ·clear hh hq hf step fin hSI s' hj J sm hfo hSo hit its rv pl hz Ue hlI W hsz u h' tk' hP U8 YQ hu oI' hoI' Wf hod v hv rvu J1 hS' hf' Jp J2p sm2 t2 pin gI c2 hc2 fS2;show(DX,AX ymu[Bp h xM4])
    ·show xDX[X2 j' Z5][Int.le_trans[Rp WQ] xXz][λ _=>Int.lt_of_lt_of_le WQ xXz]
  ·simp only [WQ,decide_false,Mt,OR];show(Du x7S,Ζ Zk[Kn (x3k _,ih[j+1] i _ H2 vb ub tb c[ykt hr] RQ J2 sm02 yfm ygm yfn nfI nfS gf gS hit2 hvb rb[LU hij][UV j' hj'])]);by_cases e:j'=j+1
   ·show(DX,AX[Int.not_lt.mp WQ][λ _=>Z5])
   ·exact X2 j' Z4
def xbu {X:Cx}{RN:Χ}{σ:St}{H:Hp}{s:RD}{l f:RA}{xs:SC}{of:RK}{Q:VK}{E:BQ}(I:W1)(kf:DQ Int)(hh:xA2)(hq:xxH l xs)(T1:iZ 0)(hf:∀v,of.data≠ xHx)(ff:vp f)(hfo:IS f of)
  (step:∀(Td:Χ) (s':RD) (H':Hp) (i:Nat) (v:V) (u:RC),xLh H' s'->xxi f of->AA->xEY->fz->
   yeX zlW du s')
  (fin:jJ i v V H' zlA):
  jx[xA6 "min" xSt xFj] wR E s:=by
 show((Zk:(ylI++ykP:String)="min.loop")=Z9,u9 zbV hq,Gr zjD XH[xAY l][xVG o e pl.isList cW][kmk_tree PySem.F.kind_min PySem.F.plain_min PySem.F.entry_min[kmk_min_key _ _] ?_],ZO X.A.in1[yiU ztO>>= _] s,vt[ydG[Js[yiU ztO][pure [aM,none]]]] yu,vt[yk5 pl.isList][x3d Bz],[Zk],SB hS[xPp=Iy][size_push' ..] hlI[xF4 l][Lc XH],SL hSI[xF4 xPp][Sc hS[LJ xHE]][Kn[yb[x3k _]]],SB VO[∀b o,CR=LT->xH5 xQE=LT][λ b o e=>tU yK] gI[ZS xQE s.heap.objs.size[x2G "list_iterator" yee]][tU Bb],SB gS[ZS xQE xPp[xwZ #[] 0]] Bb fI[vp s.heap.objs.size][I.fpOk ρ jo],SB fS[vp xPp][x3h[Sc hS xPV][Sc hS xPV]] nfI[xF4 f][Lc[KJ hfo]],Df nfS f xPp[Sc hS[Lc[OU[KJ hfo]]]] J0[x0C xQE][x5p VO],ZY hl0[(xQE).IsList zet][BI o e r pl.isList o[VO _ _ e] r] hf0[VO _ _ hfo],xw0 xPp S xQE h0);generalize s.heap.objs.size=Ia at*;show(Gr W[yf3 zfw hh Ia l ziH] hsz ybQ zit,[Qp M1 _],qp[xNm[.ref _] _],Du[O3 gS zd2],qp[xNw[yeu Ia]>>= _],Du[O4[W.item 0 _ _ _[Sc hsz[Kk T1 Ue]] (zP _ gI,hl0) λ u h' tk' hP U8 YQ=>?_]],ZZ hu[HC its 0 u] yeM,DS oI' hoI' Wf hod[id U8.1],YE v zd6 v[HC xs 0 v/\fz][by
  show(rq u' e3 r3[xWq 0 (x:=xs[(0)]) (JX T1)],A8 hu e3 e3,jd[JX T1] r3)],(J1:rN[Vu h' tk'])=Inv.turned (s:=kR h0) (it:=Ia) J0 zg7 zjr zi6,zx hS'[YQ S ziQ gS] hf'[YQ f zpO hf0] Jp[J1.pinned (fp:=[Ia,S,f]) (CG[by
  clear XH hlI hS gI W U8 YQ;show xR
  ·exact fI
  ·clear gS;show xR
   ·exact fS
   ·show xFo ff])[CG[by
  clear XH hlI hS gI W U8 YQ;show xR
  ·show jd zn2
  ·clear gS;show xR
   ·show jd hS' xrA
   ·show xFo[De hf' hf]]]],qp[xNw[xXk u xZn]>>= _],nz[O4[L9[cb[step _ _ H 0 v u Jp hf' Bq zd6][Ο x VD he] hF hF.elim]]] gE,(rv',H2,J2p,rr,re,sm2)=he);subst re;show(π,B5 t2 t[x=Sf[kf 0]] rr,ZZ pin[∀{b:RA} {o:RK},b∈ [Ia,S,f]->mZ=LT->ylJ=LT/\Ω[H2 b]][λ {b o} hb e=>xDX zpF ygs],EF gI2 nI[xOZ hoI'] gS2 nS[xOZ hS'],Uv gf2 nf[xOZ hf'],J2=J2p.unpinned,xFK c2 hc2 c2[UF[xFV S[x2u #[u,pj 0]] S][xwZ #[u,pj 0] c2]][PL[PF gS2 λ _=>#[u,pj 0]]],qp[updateSeq S[λ _=>#[u,pj 0]]>>= _],nz ?_[ycg gS2 ?_],[Zk],ω fS2 ygm[Kn (x3k _,xiK kf hh hq hf step fin hSI _ 0 0 _ H2 v u t2 c2 rfl T1 ymt sm2 yfm fS2 yfn nfI nfS ?_ zpl zd6 ρ[UV j' hj'])])
 ·show xFV S _ f=_;show xFf nfS gf2
 ·show xFV S _ Ia=_;show xFf hSI.symm gI2
 ·show Bj[j'=0][xTq[Z1 Hg Hg hj']];clear hj';show(DX,AX ymu[Bp h xM4])
inductive Ů (K:Frag) (P:RA) (pos:Pos) (qual:Str) (js:LE) (te:TE) (σ:St) (Q:VK) (zs:SC) (H1:Hp):Prop
 |mk (p:RA) (xs:SC) (kf:DQ Int) (h0:zs=Cw) (h1:x1B p xs) (h2:iZ 0) (h3:yaW H1) (h4:(∀c xs,x1B c xs->Eu P)) (h5:∀H2,xzm P H1 H2->yaW H2->(jJ i v V H' Hp[xEY->C' H2 H'->te[xsE js σ v] H' λ r H''=>r=xL6 i/\C' H' H''])/\jJ i v V H' Hp[xEY->wW[iZ j->eK≤xSo/\(j<i->eK<xSo)]->C' H2 H'->dO]):Ů K P pos qual js te σ Q zs H1
def IO (K:Frag)(P:RA)(pos:Pos)(qual:Str)(js:LE)(te:TE)(t:TA):TE:=λ σ H Q=>uB zs[Ů K P pos qual js te σ Q zs H1]
def xcO {X:Cx}{k:Nat}{e:RJ}{body:RJ}{te:TE}{p:Pos}{kp:Pos}{pos:Pos}{lpos:Pos}{y:Str}{Nc:C6}{scope:Scope}{params:Arguments}{cl:xn}{js:LE}{P:RA}{c:RA}{t:TA}(hn:xA2)(hr:xGe[k+2])(hg:xGA "min")(hm:xNh "min")(C:yhU y Nc zb2 js)(hcode:X.env.code=xBj)(hC:x8g X.base P)
  (hbm:∃bm o,yjY=υ bm/\yfl bm/\yeq bm/\ylE=LT/\rg ycJ/\yf9/\yfY)
  (hdef:yks X.env=(([],[]))) (Zl:∀(pm cd ct u:RC),xWk[yca gj zcp cl pm cd ct] Gz=pure [((y,u))])
  (he:∀f c' s H,PE[xuR X[y::Nc] gj zb2 f xBR zeF H] body te) (ha:oK [e] t)
  (hee:AM[xMQ[e:: []]=EX::xPh]) (VH:yiE)
  (Ss:AM ((backToKw zgS).all (·.1.isSome)=true))
  (hkw:AM ((backToKw zgS).any (·.1.isNone)=false))
  (hfm:AM ((backToKw zgS).filterMap (·.1)=[("key":Str)])):
  Ax[xUv "min" p [e] [(some "key",ylF zhe lpos,kp)] pos][IO X.K P lpos gj js te t]:=by
 intro RN s σ H Q I h;show(Υ[MK[xTC[show yhh "min" "min" from Z8] ?_]][yjr e (rest:=[]) xSN hee VH Ss hkw],xLO zd3,(l,xs,kf,rfl,hq,T1,hT,hnP,q)=q1,zc u ru[xpw r1]);clear r1;show(Fv[u=Value.ref l] ru,tN[kws_cons[xbt I1 hT hcode hC hbm hdef C.clos λ f c' pm ctv H2 s2 I2 ff hfo VA hrec hT2 sT=>kws_nil ?_]] hfm,(qs,qf)=q H2 sT hT2,ZO _[xA6 "min" xSt xFj] s2,(Wb:RV X.K H2 l xs)=by
  rcases hq with hq|hq
  ·show x5r hq o z
   ·show x97[jb[hnP l xs[.inl[.inl z]]] z]
   ·show DD[zQ o[jb[hnP l xs[.inl[zQ o z]]] z]]
  ·show Dr hq,bK[xbu I2 kf hn Wb T1[λ v z=>Iq] ff hfo[λ Td s' H' i v u J hfo' sm hv ru=>?_] qf],(oc,vs',t,hc,d1,d2)=hrec,π,BU Wf[xxi zcT] (J.hok _ _[oR hc]).1[xbi J C hr hfo'[JG zcT vs' t Wf d1 d2][λ u=>Zl _ _ _ u] ru[he f c' s' H'][qs i v H' hv sm]])
def xzf.weak {K:Frag}(F:vc P w K CX zcK)(h:∀vs H Q E,sp' å->o3):vc P w K CX k Ò ps sp':=
 (λ vs H Q E z=>F.len å[wK _ _ z],λ A outer s H args us vs Q E hr e0 hb r z=>xWf A s H zej Q E hr e0 hb r[wK _ _ z])
inductive xlY (P:RE) (w:RF) (K:Frag) (mg:Τ) (base:RI) (k:Nat) (m:Str) (t:TA) (σ:St) (Q:VK) (x:V) (H1:Hp):Prop
 |mk (a C dx:RA) (fs:yn) (f:RA) (fd:RG) (ps:C6) (sp:Sp) (h0:x=Aj) (h1:eC[H1 a] fs) (h2:ydM m) (h3:X5) (h4:xTd m f) (h5:xKD k) (h6:eB) (h7:xQF[xY vs[sp[x::(vs++[])] H2 Q E0]]):xlY _M k m t zcG
def xiD (P:RE)(w:RF)(K:Frag)(mg:Τ)(base:RI)(k:Nat)(m:Str)(ta:TE)(t:TA):TE:=λ σ H Q=>rA[xlY _M k m t zcG]
def xmF {X:Cx}{o:RJ}{e:RJ}{es:FA}{m:Str}{apos:Pos}{pos:Pos}{k:Nat}{ta:TE}{t:TA}{P:RE}{w:RF}{K:Frag}{mg:Τ}{base:RI}{pl:xBQ}(hP:X.prog=P)(hw:X.w=w)(hK:X.K=K)(hmg:X.mg=mg)(hb0:X.base=base)(he:Y5)(hr:pA)(ha:om)
    (Uh:AM[w8=EX::Uy]) (T6:de)
    (ht:AM[va xDB=(do
      let ov<-qe
      xAO
      let((f,first))<-xAW zc5
      xES x8B)]):
    Ax xDB[xiD _M k m ta t]:=by
  subst hP hw hK hmg hb0
  intro RN s σ H Q I h
  show(x1g zdM,vdJ,xAf zkG[xX7[Aj::us] zjl hr hb _F I2[x5k r] q2])
abbrev xrv (mg:Τ)(h:RI):Prop:=∃bm o,mg "__builtins__"=υ bm/\yfl bm/\yeq bm/\h.get? bm=LT/\rg ycJ/\yf9/\yfY
def xhB {K:Frag}
  (KX:K.In s₁.heap) (hns:s₁.heap.Ns ziU) (hb:s₁.heap.Ns builtinsNs mb) (XI:∀x:Str,xRv->mb x=ylV) (hlim:s₁.heap.NoLimit) (hg:s₁.gens=#[])
  (ha:ycK a xYy) (hi:xQK) (hl:yny) (hr:RU k callerA)
  (hT:ycK Tb[tabObj #[]]) (hC:x8g s₁.heap Tb) (hKT:z8) (hbm:xrv mg s₁.heap)
  (F:∀base:RI,yfA->x0F->WG->VI->vc P w K RZ k fa fd CI sp) (Zl:∀(s:RD) (u:RC),xJ4 s Gz [((x,u))])
  (Wz:∀H:Hp,xTz a->yB zd5->a≠Tb->sp Dl H zrS):
  xBf[yh7 w] zjO x8n zg8:=by
 show(Ty rv[xhE hi] lenV hi.length,Df naT a Tb[TD[Ek hT ha ha]] core[∀H,EG b[b≠Tb->Ic\/∃ob xs,HZ[.frz ob xBZ]]->yB zd5->xTz a->xB2 H s₁.heap->EG b[Gk≠none->b=a\/b=Tb]->(Α≠none->Ω[K.lookup a])->
   xBf[yh7 w] zjO x8n zg8][by
  intro H hO hHT hS hok hA hK;show(SB base_of[gL b o[x3l=LT][Ic->xH5 xIX=LT]][λ e n=>xaZ e n] noH[gL b o[x3l=LT][(b=a->False)->(b=Tb->False)->Ic]][λ {b o} e n1 n2=>by
   cases q:Gk with
   |none=>rfl
   |some u=>
    show HQ[hA b[Dq q]]
    ·show JE[n1 z]
    ·show JE[n2 z]],SB noA[∀{b} {o} {es:Array DictEntry} {ep:Nat},x3l=LT->xxS[x7J es]->Ic][λ {b o es ep} e d=>noH e[TD[by
   show(Ul,lK ha,(d':ybU _=ym6 ep)=d);cases d']][TD[by
   show(Ul,lK hT,(d':xW6 #[][ym6 ep])=d);cases d']]] nsK[gL b m[s₁.heap.Ns b m][(xIX).Ns b m]][λ {b m} ⟨o,es,ep,e,d,r⟩=>(va1,base_of e[noA e d],d,r)],SB hKb[K.In xIX][λ b o e=>base_of[KX b o e][by
   cases q:Gk with
   |none=>rfl
   |some u=>
    show HQ[hA b[Dq q]]
    ·show(Ul,lK[hK[Dq q]])
    ·show(Ul,lK hKT)]] hM[Mod Â xIX] (hKb,nsK hns,(mb,nsK hb,XI),let(mc,é):=hlim;(mc,nsK h1,h2)),SB hCb[x8g xIX Tb][by
   show(TL,(o,vs',file,tf,flags,tg,inF,text,tt,e1,r1,r2,r3,r4,r5,r6,r7,r8,T1)=hC,ZC (o,vs',file,tf,flags,tg,inF,text,tt,base_of e1[noH e1[TD[by
    show(Ul,A8 ha e1 e1,(r2':ybU _=Data.fields vs')=r2);cases r2']] T1],r1,r2,r3,r4,r5,r6,r7,r8,T1))] hBb[xrv mg xIX][by
   show((bm,o,vbq,b4,b5,b6,b7)=hbm,(bm,o,vbq,base_of b4[noH b4[TD[by
    show(Ul,A8 ha b4 b4,(b7':ybU _=Data.plain)=b7);cases b7']][TD[by
    show(Ul,A8 hT b4 b4,(b7':xW6 #[] Data.plain)=b7);cases b7']]],b5,b6,b7))],SL e0[xvP P w Â xIX callerA [] s₁ H] (rfl,hM,λ b o e=>xcy e,JQ[xg2 _ _],trivial,uo Ì[kZ zgt hb] Z6,hok,.of_eq hg,rh)[Pf[(F _ hKb[nsK hns] hCb hBb).run callerA [] s₁ H x8n Dl Dl _ _ hr e0[Zl s₁ Aj] x6C[Wz H hS hHT naT]][xFy r h]])
  cases r with
  |error e=>show lE h
  |ok fl=>
   cases fl with
   |next=>show lE h
   |brk=>show lE h
   |cont=>show lE h
   |ret u=>
    show(TL,Hv v H' os bare un hok' r' q,HM[v=xA4] q,Xk q'.symm,π,Fv[u=Value.bool true] r',xZl keep[∀b o,b≠Tb->x3l=LT->s'.heap.get? b=LT][λ b o n e=>by
     cases q:Gk with
     |none=>exact un.keep b o e q[by show(vj,Dv zia)] Z6
     |some u=>
      rcases hO b n with z|⟨ob,xs,z⟩
      ·show xm q
      ·show(Es z2[un.frzs b ob _ z],yeP[hok b _ z],(e2,_)=hok' b _ z2,π,yf e1 e1,e2)] more hm[un.tbls Tb #[] hHT],SL hTo[xxi Tb[tabObj[#[]++more]]][hok' Tb _ hm][xJv (HL b o,HL b o) os bare])
    ·by_cases z:b=Tb
     ·show(Ul,lK hT,Dr[.inl[kM (hC.tab hT).isCodeTable #[] more rfl hTo]])
     ·show DD[xOS o z e]
    ·by_cases z:b=Tb
     ·show(Hq,Qt hTo)
     ·show AX o[xOS o z e]])
 cases hk:yeZ with
 |some o=>
  show(e=KX a o hk,lK ha,core[xFG[xJr b zd5 none]][λ b n=>.inl[Kh n]] Cm[.inr[zl _ vs.toArray _ hk rfl[Γ Ko lenV hl][by simpa using rv]]] zst[ym[Kh naT] z])
  ·by_cases hb:b=Tb
   ·show(xMR z'[Kq hb] z,xCQ,FU hb hT)
   ·show(xMR z' xYb z,xCQ)
  ·by_cases hb:b=Tb
   ·show Dr hb
   ·show Dv xYb z
 |none=>
  refine core[xFG[xJr b zd5[xJr b a[.frz xYy[.lst jy]] none]]][UV b n] Cm[.inl[zQ xYy[by show(DM a Tb _ _)=_;show pJ naT Cm]]] zst λ _=>hk
  ·by_cases hb:b=a
   ·show Dr[De _[xWv n[Kq hb]]]
   ·show DD[xWv n xYb]
  ·by_cases hT':b=Tb
   ·show(xMR z'[Kq hT'] z,xCQ,FU hT' hT)
   ·by_cases hb:b=a
    ·show(xMR z'[xWv hT'[Kq hb]] z,xCQ,xWE,pK ha[Ex hl] vs _ rv ha)
    ·show(xMR z'[xWv hT' xYb] z,xCQ)
  ·by_cases hT':b=Tb
   ·show Dr hT'
   ·by_cases hb:b=a
    ·show DD hb
    ·show Dv[xWv hT' xYb] z
def walk_ofT {l:PySem.W.OpenLaw}{K:Params->Frag}{sp:RF->Sp}
  (hn:x6y n) (WA:sS n) (hdf:ycB []) (hr:RU k callerA)
  (hY:∀(w:RF) (h:RI),YP w h->xO5 h/\yC Tb[tabObj #[]]) (hC:∀w:RF,WF[codeHdIn ft c Tb]) (hKT:∀w:RF,eN ft Tb)
  (F:∀(w:RF) (mg:Τ) (fa:RA) (h:RI),xO5 h->xyU->yfB=υ fa->
   ∃fd:RG,(∀(s:RD) (u:RC),xJ4 s Gz [((x,u))])/\
    ∀base:RI,xO5 base->x0F->WG->VI->vc zgH ft RZ k fa fd CI[sp w])
  (Wz:∀(w:RF) (H:Hp) (a:RA) (ns:Ya),xWj n->RV ft H a jy->yB zd5->a≠Tb->sp w Dl H zrS):
  yli loose XP ziD d zhZ:=by
 show(bK[Att.attach_call hn hdf λ w s₀ s₁ mg mb fa o pm cd doc a vs ns G Y ho hd VA hmg hobj hints hlen hg=>?_],(KX,hT)=hY w _ Y,ka fd hb hF[F w mg fa _ KX G.T.g hmg],BU hbm[xrv mg s₁.heap][by
  show((bm,ob,vbq,b4,b5,b6)=G.T.bmain,(bm,ob,b1,b2,oM,b3,b4,b5,b6),yao es ep e hd G.T.g,Ek e b3 b3,A8 hd b6 b6)][xhB KX G.T.g G.T.b G.T.builtins G.T.nolimit hg hobj hints[JW hlen WA] hr hT[codeHd_of_K KX[hC w]][hKT w] hbm hF hb λ H hS hHT na=>Wz w H a ns hlen hS hHT na])
universe L2
namespace L2
open PySem
def xsf {a b x:Str}{i j k:Nat}(h1: V7 [a,b])(h2: B8 [none,some k][some j]):x=b/\j=k:=by
 rcases i with _|_|i
 ·cases h2
 ·show(uP,EL h2 jl)
 ·show uP
def slotsL {b c x:Str}{i j k l:Nat}(h1: V7 [b,c])(h2: B8 [k,l] j):(x=b/\j=k)\/(x=c/\j=l):=by
 rcases i with _|_|i
 ·show(uP,EL h2 yha)
 ·show(uP,EL h2 xB1)
 ·show uP
universe L2
namespace K26
open PySem L2 QQ W17 W16 BP
seal PE PA PS Ó PT PW PG PI
def UD (u:Nat)(W T:LE)(ps:Dn):Prop:=
 match u with
 |0=>ps=fE
 |1=>ps=yhV T
 |2=>∃Pp,xTN[W++T]/\ps=pP Pp
 |3=>∃(Pp:yW) (L:LE) (It:xBd) (b:Nat),xTN[W++T]/\xD5 xV9/\xNd 0 0 It 272 b/\ps=jv++xCO
 |_=>False
structure TW (T W:LE):Prop where
 tb:E3 T
 one:xxt
 le:dU
 wb:E3 W
 wl:V0
def ShL.len (h:xD5 Q):vE:=by
 obtain⟨ln,_,rfl,_⟩:=h;simp
theorem UD.uniq {u:Nat}(h:jg)(h':UD u W T ps'):ps=ps':=by
 show xU6 u
 ·exact Ry h[NJ h']
 ·exact Ry h[NJ h']
 ·show(xFY P w e h P' w' e' h',[e,e',xv0 w w'])
 ·show(Hv P L It b w sl wi e,(P',L',It',b',w',sl',wi',e')=h',eP=xv0 w w');subst eP;have eL:=sl.uniq sl';subst eL;have hl:=sl.len;rw [<-hl] at wi wi';rw [e,e',xny wi wi']
 ·show lE h
def tz (t:W7){It:xBd}(w:xTN[W++T])(sl:xD5 xV9)(wi:xNd 0 0 It 272 b):
  GR W Pp/\xHW W=W++T/\xWN Pp.length/\x38/\xQh/\(lF It x4N)/\jI 0=L:=by
 show((gr,hrun,XU)=x7o w,Ty h1 t.one hP1[xto zpP],jA tok[sl.tok gr hP1] (gr,hrun,XU,hP1,tok,ylC wi,xoA tok.len wi))
def UD.good {u:Nat}(h:jg)(t:W7):x6Y/\Jz≤1712:=by
 show(hl=t.le,xU6 u)
 ·have h:ps=fE:=h;have:=xo5 false T;show Sc h (xoP false hl t.tb,(ET [_,_] zpG zki this))
 ·have h:ps=yhV T:=h;have:=xo5 true T;show Sc h (xoP true hl t.tb,(ET [_,_] zpG zki this))
 ·show xFY P w e h gr hrun XU[x7o w];have:=xtq P;show Vz (wp gr,(HK [_,_,_][nL 13[JB 13 SZ]][xOb 13[nL 13[CA 13]]] x5B[JU 13 hl][JU 13 XU] this))
 ·show(Hv P L It b w sl wi e,(gr,hrun,XU,hP1,tok,hIt,hdec)=tz t w sl wi,oO[xtb tok.six P][xwV 0 hIt]);rw [hdec,tok.len] at h2;show(Ζ e (xRE,Bx bq[Hu [_,_,_,_][JB 14[xQy AO]][xQ0[JB 14[xQy[.m 3 um]]]] Δ zki[W4 XU][x0G h2]]),tW hq)
  ·exact W13.puts_good hIt q z
  ·exact xcq tok gr q z
 ·show lE h
def xcx (S):∀n p,xxU p=n->Yc p->∃Pp,xEK Pp S.length:=by
 show xDV
 induction n using Nat.strongRecOn with
 |ind n ih=>
  intro p hn hp;by_cases e:xCe p
  ·show AX [] e
  ·show(ZY RQ xK0[LD hp e] hz[xpc RQ],JI Pp w[ih[xxU[p+xW3]] Z5[p+xW3] rfl hz.2][JH[Zg::Pp] RQ w])
def xl2 (W T):∃Pp,xTN[W++T]:=xcx _ ă[Bx JP[ya SZ Δ]]
inductive spT (u:Nat) (B:RA) (vs:SC) (H:Hp) (Q:VK) (RW:XK):Prop
 |mk (o p d a:RA) (x:V) (T W:LE) (N T0:Nat) (h0:vs=[yS,Dc,Aj,x]) (h1:xRb B T0) (h2:xQx) (h3:Α=DO) (h4:oP) (h5:W7) (h6:∀(ps:Dn) (H':Hp),jg->Vn B[xv N][T0+Jz]->o8[Μ=LT->A9->EY->Bo=LT]):xD6 u Ã
inductive spC (u:Nat) (C:RA) (vs:SC) (H:Hp) (Q:VK) (RW:XK):Prop
 |mk (o dx a:RA) (x:V) (T W:LE) (h0:vs=[yS,Aj,x]) (h1:ni o C []) (h2:Α=DO) (h3:oP) (h4:W7) (h5:∀(ps:Dn) (H':Hp),jg->AA->WD Jz):spC u ä
def spN (u:Nat):Sp:=λ vs H Q _=>∃o,vs=[yS]/\zw u
structure xvN (P:RE)(w:RF)(K:Frag)(mg:Τ)(base:RI)(B D C:RA)(u:Nat):Prop where
 cl:X5
 num:Ij[xTd "number" f/\xPd/\Zr[spN u]]
 tell:Ij[xTd "tell" f/\Ha Jac/\BY 35 Jac[xD6 u]]
 cost:Ij[xTd "cost" f/\Ha xWl/\BY 36 xWl[spC u C]]
def N_:XV ["self","text","before","bits"] xWl xnN:=Uf
def xgy (F:Cb zsu xnN)(Z:xRe B)(clW:X5)(Te:xTd "tell" fT)(bT:Binds K fdT Jac [])(GT:x0Z fT fdT Jac[xD6 u]):
  BY 36 xWl[spC u C]:=by
 show(Ds Z.R.X,x6i,(_,_,Ma)=Z.many,TB=Z.T,DW N_[λ RO A outer st H vs Q E hr h=>?_],(o,dx,a,x,T,W,rfl,ho,ha,hx,tw,k)=h,SB U3[ED 2] zcw,DR[Em 3 N_.nd[ml[xmL FI TB] U3 Z.m][aD[xzO AB clW Te GT hr bT _F[xEC 3 1 2]]][x7V Ab Ma[xbN Ma.F TB X] Si]] Gw)
 intro p dp np Vl Yr;show(SB YX[sh[(xq[xx4 dp p] p B dp) p] B dp []] ae s0[qq[xq[xx4 dp p] p B dp]][λ c o e=>Γ[ak AE][uS Vl] e],Dp[zd p dp YX[λ d H1 nd hB kp=>x0z]],SB nd0[Bf d][xxk nd] s1 Ik[λ c o e=>DY vm AE])
 clear s0 YX kp;show(Gd (Á,o,ą,FQ ho,rfl,ô,o,p,d,a,x,T,W,0,0,vbz,Z9,CV,yeo,tw,λ ps H2 hps U4 kp2=>Al),(s2:Yp)=λ c o e=>xLg Eo AE[pq nd0],(YU,r2,k2,Sw)=U4.ob,oS (ß,vbK,Sw,oQ,p,d,Ö,U4,?_) Lr[Fl ps hps s2])
structure xvT (K:Frag)(mg:Τ)(C CW:RA):Prop where
 cl:X5
 mkb:MkB K C
 cost:aW C zsu xnN xWl
structure Raw (K:Frag)(mg:Τ)(C CW:RA):Prop where
 W:xvT zcD
 m:mg "RawWay"=Ff
 num:x6k zrf
 tell:aW zgw zsq Jac
structure Run (K:Frag)(mg:Τ)(C CW:RA):Prop where
 W:xvT zcD
 m:mg "RunWay"=Ff
 num:x6k zrg
 tell:aW zgw zsr Jac
structure Cpy (K:Frag)(mg:Τ)(C CW:RA):Prop where
 W:xvT zcD
 m:mg "CopyWay"=Ff
 num:x6k zqL
 tell:aW zgw zrR Jac
structure Shr (K:Frag)(mg:Τ)(C CW:RA):Prop where
 W:xvT zcD
 m:mg "ShareWay"=Ff
 num:x6k zqK
 tell:aW zgw zre Jac
def xvq (F:xKD k)
  (h:∀(o p d a:RA) (x:V) (T W:LE) (N T0:Nat) (H:Hp) (Q:VK) (E:XK),xRb B T0->xQx->Α=DO->oP->W7->
   (∀(ps:Dn) (H':Hp),jg->Vn B[xv N][T0+Jz]->o8[Μ=LT->A9->EY->Bo=LT])->sp [yS,Dc,Aj,x] H Q E):BY k ps[xD6 u]:=by
 show(F.weak λ vs H Q E z=>?_,(o,p,d,a,x,T,W,vbf,h0,ha,hx,t,k)=z,h o p d a x T W N T0 H Q E hB h0 ha hx t k)
def xc4 (R0:Raw zcD)(S0:xUi G):xvN _M B D C 0:=by
 show(vV zgv T zf3,BU GT[x0Z _ _ Jac[xD6 0]][xvq[(xgH Æ T.F zkj).mono (k:=35) Z9] λ o p d a x T W N T0 H Q E hB h0 ha hx t k=>
  (o,p,d,a,x,T,W,vbf,h0,ha,vc0,hx,ve8)] (R0.W.cl,Z3 N.m N.b[xga N.F],vcC))
def xc1 (R0:Run zcD)(S0:xUi G){fR:RA}{fdR:RG}(Ro:ynB xui xNv fR fdR):xvN _M B D C 1:=by
 show(vV zgv T zf3,BU GT[x0Z _ _ Jac[xD6 1]][xvq[(xhe Æ T.F Ro zkj).mono (k:=35) Z9] λ o p d a x T W N T0 H Q E hB h0 ha hx t k=>
  (o,p,d,a,x,T,W,vbf,h0,ha,vc0,hx,ve8)] (R0.W.cl,Z3 N.m N.b[xgC N.F],vcC))
def xcP (R0:Cpy zcD)(S0:xUi G):xvN _M B D C 2:=by
 show(vV zgv T zf3,BU GT[x0Z _ _ Jac[xD6 2]][xvq[(xis Æ T.F zkj).mono (k:=35) Z9] λ o p d a x T W N T0 H Q E hB h0 ha hx t k=>JI Pp hw[xl2 W T] (o,p,d,a,x,T,W,Pp,vbf,h0,ha,vc0,hx,t.wb,t.wl,hw,λ H'=>HG H'[ZK Pp hw])] (R0.W.cl,Z3 N.m N.b[xaE N.F],vcC))
def xdP (R0:Shr zcD)(S0:xUi G):xvN _M B D C 3:=by
 show(vV zgv T zf3,BU GT[x0Z _ _ Jac[xD6 3]][xvq[xie Æ T.F S0] λ o p d a x T W N T0 H Q E hB h0 ha hx t k=>JI Pp hw[xl2 W T] (o,p,d,a,x,T,W,Pp,vbf,h0,ha,vc0,hx,t.wb,t.wl,hw,λ L It b H' sl wi=>HG H' (Pp,L,It,b,hw,sl,wi,rfl))] (R0.W.cl,Z3 N.m N.b[xab N.F],vcC))
def cst (u:Nat) (W T:LE):Nat:=open Classical in if h:∃ps,jg then É h.choose else 0
def xue (h:jg):xJQ u=Jz:=by
 show(Bj[∃ps,jg] (ps,h),yX cst[dif_pos e][UD.uniq e.choose_spec h])
def gx4 {os:xQv}(hi:i<4):([zI 0,zI 1,zI 2,zI 3]:SC)[i]?=υ xJJ:=by
 rcases i with _|_|_|_|i
 all_goals first|rfl|show JE[rK C4 ztp hi]
def ix4 {os:xQv}(e:B8 ([zI 0,zI 1,zI 2,zI 3]:SC) v):i<4/\v=zI i:=by
 show((hi:i<4)=rB e,A3[gx4 hi] e (hi,xHp e))
def cs (C0 C1 C2 C3:RA):xQv
 |0=>C0
 |1=>C1
 |2=>C2
 |_=>C3
structure Wal (K:Frag)(mg:Τ)(B D C CW C0 C1 C2 C3:RA):Prop where
 S0:xUi C
 runsof:Ι "runs_of" xui xNv
 raw:Raw Â C0 CW
 run:Run Â C1 CW
 æ:Cpy Â C2 CW
 shr:Shr Â C3 CW
 ways:Ι "ways" xnA []
def Wal.ok (Z:xLu G)(hi:i<4):xvN _M B D[xRj i] i:=by
 obtain⟨_,_,Ro⟩:=Z.runsof
 match i,hi with
 |0,_=>exact xc4 Z.raw Z.S0
 |1,_=>exact xc1 Z.run Z.S0 Ro
 |2,_=>exact xcP Z.æ Z.S0
 |3,_=>exact xdP Z.shr Z.S0
def xfi (np:pF)(nd:Bf d):qq[xq[xx4 d p] p C d]:=λ c o e=>Γ[ak AE][uS nd] e
inductive _m (C:xQv) (vs:SC) (H:Hp) (Q:VK) (RW:XK):Prop
 |mk (h0:vs=[]) (h1:∀(l:RA) (os ds:xQv) (H':Hp),DP->xAt[i<4->Bf xJJ]->B1=Ak [zI 0,zI 1,zI 2,zI 3]->xAt[i<4->sh[H' xJJ][C i][ds i] []]->AA->BD):_m ä
def xdj:XV i_ xnA:=Uf
def xo6 (F:Cb "ways" "ways" xnA)(Z:xLu G):f7 [][_m xRj]:=by
 show(DW xdj[λ RO A outer st H vs Q E hr h=>?_],pd rfl k h[DT[Cj[aK[ac[xr1 Z.raw.W.mkb Z7 Z.raw.m][ac[xr1 Z.run.W.mkb Z7 Z.run.m][IB[xr1 Z.æ.W.mkb Z7 Z.æ.m][xr1 Z.shr.W.mkb Z7 Z.shr.m]]]]]]]);intro p0 d0 n0 m0 e0 p1 d1 n1 m1 e1 p2 d2 n2 m2 e2 p3 d3 n3 m3 e3;show(zf s0[xxh C0 n0 m0] g0[(xq[xx4 d0 p0] p0 C0 d0) p0=_][xq[xx4 d0 p0] p0 C0 d0] H1,zf s1[xxh C1 n1 m1] g1[(xq ztq C1 d1) p1=_][xq ztq C1 d1] H2,zf s2[xxh C2 n2 m2] g2[(xq ztr C2 d2) p2=_][xq ztr C2 d2] H3,zf s3[xxh C3 n3 m3] g3[(xq zts C3 d3) p3=_][xq zts C3 d3] H4,SB s02 Yp[λ c o e=>FQ vm] s03 yaB[λ c o e=>Cv[s02 _ _ e]],SB s04 yaC[λ c o e=>Dz[s03 _ _ e]] s14[xVz H4][λ c o e=>wN Eo],SL s24[xQr H4][λ c o e=>wN e] (rP[rV 4],gQ),SL s5[x0e[nO H4 [.ref p0,.ref p1,.ref p2,.ref p3]]][λ c o e=>xZI nl e][yg[cs p0 p1 p2 p3][cs d0 d1 d2 d3] _[iJ s04][UV Ď] ae[UV Ď][λ c o e=>Dm[s04 _ _ e]]])
 ·match i,hi with
  |0,_=>exact n0
  |1,_=>exact xxk n1
  |2,_=>exact none_of s02 n2
  |3,_=>exact yhy s03
 ·match i,hi with
  |0,_=>exact Dm[xLf g0]
  |1,_=>exact Dm[s24 _ _ g1]
  |2,_=>exact Dm[Dz g2]
  |3,_=>exact Dm g3
def xg7 {x y z:Str}{a b c:RA}(h:UF[xMF [((y,a)),((z,b))]] c):(x=y/\c=a)\/(x=z/\c=b):=by
 show xJK List.lookup
 ·rename_i e
  show qw[x7B xNa]
 ·show xJK List.lookup
  ·rename_i e
   show qw[x7C xNa]
  ·show yN
structure xyk (K:Frag)(x qual:Str)(st:RM)(dV:RC)(c f:RA)(fd:RG):Prop where
 ex:∃(oc:RC) (od:pN) (kV doc pm:RC) (an:pN) (ct:RC) (osl:jQ),
  fd=xxR zdb dV doc xBj/\x13 fd/\xZt xBj
 kp:X4
def xyk.ok (F:xyk K zb8 dV c Ò)(S:XV N ps st)
  (hb:∀(A:RH) (outer:uz) (s:RD) (H:Hp) (vs:SC) (Q:VK) (E:XK),xGB k[PyProof.Rows.envOfC qual jn s.heap.objs.size f xBj]->o3->
   let X:=(xGQ RZ zdi jn f xBj _W s H E).nox;JM[xTO/\xEV]) (len:xMX[∀vs H Q E,o3->mI]):xKD[k+1]:=by
 show((veW,ct,osl,rfl,lk,VA)=F.ex,x15 S λ A outer s H vs Q E hr Wz=>?_,BI t h q[hb _W s H vs Q E hr Wz] t h.nox q)
abbrev xcY:Pos:=(507,27,507,61)
abbrev xe5 (Tb:RA)(H:Hp):Prop:=xzT Tb xcY["best_way.<locals>."++"<lambda>"] H
def _root_.L2.xzT.ne (h:xzT Tb p q H)(e:Α=LT)(hn:∀ps,o≠ xxN):a≠Tb:=by
 show(mD,yfI e' h,xc e'[hn ps[Kr e']])
def _root_.L2.xzT.sq (h:xzT Tb p q H)(hK:z8)(e:Zq):a≠Tb:=by
 rcases e with(e|⟨o,e⟩)|⟨o,its,n,e,_⟩
 ·exact h.ne e xh
 ·exact h.ne e xh
 ·show(mD,lK hK)
def xvc.sameT (h:oP)(t:qS)(s:xzm Tb H H'):xvc H' x W:=by
 rcases h with h|⟨a,e,h⟩
 ·show DD h
 ·show Dr (a,e,FV[t.ne h xh] h)
inductive R_ (Tb:RA) (C:xQv) (vs:SC) (H:Hp) (Q:VK) (RW:XK):Prop
 |mk (a:RA) (x:V) (T W:LE) (h0:vs=sZ x) (h1:Α=DO) (h2:oP) (h3:W7) (h4:qS) (h5:∀(i:Nat) (o dx:RA) (H':Hp),i<4->Bf o->BG[H' o][C i] []->wW[j<4->xRV≤xJQ j/\(j<i->xRV<xJQ j)]->xzm Tb H H'->xyW->JJ yS):R_ Tb ä
def xda:XV Jae Jae xpJ:=Uf
def xcB (F:xyk K zqg xpJ dV c Ò)(Z:xLu G)(hm:yhg)(hC:WG)(hB:VI)(hK:z8):
  BY 39 Jae[R_ Tb xRj]:=by
 show((_,_,Wy)=Z.ways,DW xda[λ A outer st H vs Q E hr h=>?_],(a,x,T,vbv,hx,tw,hT,k)=h,xQ,ω hn xFU[DT[Cj[xcO (k:=36) (y:="way") (Nc:=["text","before"]) (js:=[0,1]) (cl:=[(("text",x3t 1)),yhW[x3t 1+1]]) (P:=Tb) (c:=c) hn hr Z7 hm
  (Ú,rfl,Z8,rfl,Z7,λ x c h=>?c0,DB ?c1,veB) rfl hC hB Z7[λ pm cd ct u=>Z7]
  (λ f' c' s H=>xmF zjT (K:=K) zh4 (k:=36) ze1 AB[hr.in1.deeper _][jZ 1 2])
  (B9[xmi[xo6 Wy.F Z] Si Z7 Wy.m Wy.F.kp Wy.b _F])]]])
 case c0=>
  rcases xg7 h with⟨rfl,rfl⟩|⟨rfl,rfl⟩<;>rfl
 case c1=>
  rcases hx with hx|hx
  ·have m':((x,NameKind.cell))∈([xxs "way",yhW .free,(("text",.free))]:xBl):=xQj;simp at m'
  ·show SB m'[((x,NameKind.free))∈([xxs "way",yhW .free,(("text",.free))]:xBl)] xQj e[x="before"\/x="text"][by simpa using m']
   rcases e with rfl|rfl<;>exact Dy
 case c2=>rcases slotsL Ç with⟨rfl,rfl⟩|⟨rfl,rfl⟩<;>exact xy8 zfI
 show(Fw[λ l os ds H1 nl no hl ho s1=>FD l _[xD3[Tl xRV]][.inl x5y][Nat.zero_lt_succ _] xV1[λ c xs h=>(xV1).sq hK h][Ο H2 sT hT2]],Gr hT1 xV1 XF[∀i,i<4->sh[H2 xJJ][xRj i][ds i] []][λ i hi=>jb[hT1.ne[ho Ď] xh][ho Ď]] (λ i v H' hv sm=>?_,λ i v H' hv hmin sm=>?_))
 ·show(JK hi[ix4 hv],WK=Z.ok Æ hi,(fc,fdc,mc,bc,Gc)=WK.cost,(Á,xJJ,_,ds i,[],fc,fdc,Ö,oR[XF Ď],rfl,WK.cl,mc,Gc,bc,Ï,xJJ,ds i,a,x,T,W,rfl,oR[XF Ď],oR[jb[hT1.ne CV xh] CV],((yeo).sameT hT1 sT).same sm,tw,λ ps H'' hps sm2=>(?_,sm2)),yM[vN Jz=vN xRV][xue hps])
 ·show(JK hi[ix4 hv],vQ[k i xJJ[ds i] H' hi[no Ď][oR[XF Ď]] xD8[λ c o n e=>oR[jb n Eo]][hT2.same sm]] zbf[hmin ÿ],AX[QP.mp z1][λ hji=>NS.mp[z2 hji]])
universe K26
namespace CK
def T (w p s:Nat):Nat:=((s*2)%2^w)^^^ug[xW9 w 1] p 0
def xbd (a b:Nat):(a^^^b)*2=(a*2)^^^(b*2):=by
 show(xEj h[@QV 1 a b] OC OC OC h,xBs)
def xeh (w p a b:Nat):E6[a^^^b]=E6 a^^^E6 b:=by
 show xCU T xbd Nat.xor_mod_two_pow Qw;cases ha:a.testBit[w-1]<;>cases hb:b.testBit[w-1]
 ·simp
 ·simp [MT]
 ·simp;rw [MT,NR[b*2%2^w],<-MT]
 ·simp;rw [MT[a*2%2^w],NR p,MT[b*2%2^w],QN,QO]
def xrc {w p s:Nat}(hp:p<2^w):E6 s<2^w:=by
 unfold T;refine LN[xxr yR] ?_
 split
 ·exact hp
 ·exact yR
def xeW {w p s:Nat}(h:s*2<2^w):E6 s=s*2:=by
 unfold T;show((hb:A2[xW9 w 1])=by
  refine PV ?_;cases w with
  |zero=>show Ed;lia
  |succ w=>show(Ir LA,Cy[Nat.lt_of_mul_lt_mul_right h]),V5 hb[Mr h])
def xd6 {w p s:Nat}(hw:0<w)(hp:p%2=1)(hs:s<2^w)(h:E6 s=0):s=0:=by
 show pM T;cases hb:xW9 w 1 with
 |true=>
  show(Ir hb,Ed,yp h2[WF[(s*2%2^w^^^p).testBit 0]][by
   show([Qw,Nat.testBit_mod_two_pow],Gn[A2[(s*2).testBit 0]][Dq Nat.testBit_zero][WF[p.testBit 0]][by rw [Nat.testBit_zero];simp [hp]],V5 ğ)] h h2);simp at h2
 |false=>
  show(Ir hb,Ed,B5 w' w'[w=w'+1] (w-1,qQ zp9 Η[xDz Ep hw]),SB h3[s<2^w'][by
   show(SL WQ[A2 ym7] hb[N7[Gf hle]],Bj[WF ym7][by
    show([No],DA[s/2^w'] 1[by
     show(SB h4[s/2^w'<2][OW[A3 LA hs hs]] h5[AJ[s/2^w']][(P8 yR).mpr[vX SZ[vR 1] hle]],Cn[iO C4 xyI AZ h4][Wg zbU zbU h5])],IC this)],lK WQ)] h6[s*2<2^(w'+1)][Bx LA[El[xKt 2] oq[Ar[wQ 2]][xC7 2][xEZ h3]]],A3[Mr h6] h[xTq[px C4[wQ 2] Hg Hg wc]])
def xs2 (w p:Nat):DQ Ea
 |0,s=>s
 |n+1,s=>E6 x2h
def G_ (w p n a b:Nat):xy3 n[a^^^b]=xy3 n a^^^xy3 n b:=by
 induction n with
 |zero=>rfl
 |succ n ih=>show HF[E6[xy3 n[a^^^b]]=_] ih xeh
def xqS {w p n s:Nat}(hp:p<2^w)(hs:s<2^w):x2h<2^w:=by
 cases n with
 |zero=>exact hs
 |succ n=>exact xrc hp
def Tn_inj {w p n s:Nat}(hw:0<w)(hp:p%2=1)(Sw:p<2^w)(hs:s<2^w)(h:x2h=0):s=0:=by
 induction n with
 |zero=>show aq
 |succ n ih=>show xRN[xd6 hw hp[xqS Sw hs] h]
def xeG {w p n s:Nat}(h:s*2^n<2^w):x2h=s*2^n:=by
 induction n with
 |zero=>simp [xs2]
 |succ n ih=>
  have h':s*2^n*2<2^w:=by rw [LA,<-Lh] at h;show aq
  show E6 x2h=_;rw [ih[Nat.lt_of_add_left_lt h'],xeW h',LA,Lh]
def F (w p:Nat):i' Ea
 |0,s,_=>s
 |m+1,s,V=>E6[Gy m[V/2]^^^((V%2)*2^(w-1))]
def xrG (a b k:Nat)(hb:b<2^k):(a*2^k)^^^b=a*2^k+b:=by
 show(FR h[Nat.two_pow_add_eq_or_of_lt hb a] Lx h,[h]);apply Nat.eq_of_testBit_eq;intro i;show ym8 Qw Nat.testBit_or;by_cases hi:i<k
 ·have:¬HE k:=Q7 hi;show ygQ
 ·have hbi:A2[b.testBit i]:=PV[J6 hb[xr[KW hi]]];simp [hbi]
def xrF (a b k:Nat):(a*2^k)^^^(b*2^k)=(a^^^b)*2^k:=by
 show(xEj h[@QV k a b] OC OC OC h,h.symm)
theorem xks {w p:Nat}:∀(m:Nat) (s V:Nat),m≤w->Gy m V=xy3 m[s^^^((V%2^m)*2^(w-m))]
 |0,s,V,_=>by simp [F,xs2,Rw]
 |m+1,s,V,h=>by
  show(yM[E6[Gy m[V/2]^^^((V%2)*2^(w-1))]=E6[xy3 m _]][xks m s[V/2][Mz h]],HI[(V%2)*2^(w-1)=xy3 m[(V%2)*2^(w-(m+1))]][by
   show(Bj[(V%2)*2^(w-(m+1))*2^m=(V%2)*2^(w-1)][by rw [Lh,<-ML];congr 2;show Cn[Dd [_,_,_,_][Bu Ec][G8 Dk] _z τ[mn Tm h]][Dd [_,_,_,_][Bu vF][tF Ec] XL Δ τ[mn AZ h]]],[xeG,e],uf,SB h2[V%2<2] Jl h3[2^w=2*2^(w-1)][by rw [<-Pk];congr 1;show Cn[lu zco zck][xNQ Η Η[YF zco AZ h]]],Sc h3[xXo yR h2])],[e1,-G_,MT]);congr 3;show(E7[2^(w-m)=2*2^(w-(m+1))][by rw [<-Pk];congr 1;show gH[ET [_,_,_,_] x77[tF V2] zck[xLE h]] [_,_,_,_][Bu V2] xYw zck[mn Tm h]],[e2,-Lh,xrF]);congr 1;show((h2:V%2<2^1)=Jl,ZE[xrG[V/2%2^m][V%2] 1 h2] Nat.pow_one,[this,LA,Lx[2^m] 2,Nat.mod_mul],xG[HY[wQ 2]] x8v x8v[HY[wQ 2]])
theorem xnx (w p j:Nat):∀(m s V:Nat),Gy[j+m] V=F w p m[Gy j[V/2^m]] V
 |0,s,V=>by simp [F]
 |m+1,s,V=>by
  show E6[Gy[j+m][V/2]^^^_]=E6[F w p m[Gy j[V/2^(m+1)]][V/2]^^^_];rw [xnx w p j m s[V/2],PU,<-Pk]
def B (w p s b:Nat):Nat:=xy3 8[s^^^(b*2^(w-8))]
def G (w p:Nat):i' Ea
 |0,s,_=>s
 |n+1,s,V=>B w p zoZ
theorem G_F {w p:Nat}(hw:8≤w):∀(n s V:Nat),G w p n s V=Gy[8*n] V
 |0,s,V=>rfl
 |n+1,s,V=>by
  show B w p zoZ=_;show zm[G_F hw n s[V/256]] Nat.mul_succ xnx[xks 8 _ _ hw]
def G_lt {w p n s V:Nat}(hp:p<2^w)(hs:s<2^w):G w p n s V<2^w:=by
 cases n with
 |zero=>exact hs
 |succ n=>exact xrc hp
universe CK
namespace K26.Ck
open PySem L2 QQ BP
seal PE PA PS Ó PT PW PG PI
abbrev xvs:RM:=top 37
abbrev á:RM:=qL 38
abbrev xrm:RM:=qK 38
abbrev xss:RM:=xAz 38
abbrev xpP:RM:=top 39
structure Txt (K:Frag)(mg:Τ):Prop where
 R:WZ
 tabA:∃d,mg "ALL_ONES"=ES/\xP9 K 255 65535
 tabL:∃d,mg "LOWER_BITS"=ES/\xP9 K 29 45
def xgB (a):∀b,a+b=(a^^^b)+2*(a&&& b):=by
 induction a using Nat.strongRecOn with
 |_ a ih=>
  intro b;by_cases h0:a=0
  ·subst h0;simp
  ·show(Cc h[ih[a/2][Nat.bitwise_rec_lemma h0][b/2]] e1[(a^^^b)/2=a/2^^^b/2][Nat.xor_div_two_pow (n:=1)] e2[(a&&& b)/2=a/2&&& b/2][Nat.and_div_two_pow (n:=1)],SB m1[(a^^^b)%2=a%2^^^b%2][Nat.xor_mod_two_pow (n:=1)] m2[(a&&& b)%2=a%2&&& b%2][Nat.and_mod_two_pow (n:=1)],Ty d1[Lu[a^^^b] 2] d2[Lu[a&&& b] 2]);rw [e1,m1] at d1;rw [e2,m2] at d2;clear e1 e2 m1 m2 ih h0;have k:a%2+b%2=(a%2^^^b%2)+2*(a%2&&& b%2):=by
    rcases QH a with e|e<;>rcases QH b with f|f<;>rw [e,f]<;>rfl
   have:=Lu a 2;have:=Lu b 2;generalize a/2^^^b/2=u,a/2&&& b/2=v,a%2^^^b%2=x,a%2&&& b%2=y,a^^^b=m,a&&& b=n,a/2=q,b/2=r,a%2=t,b%2=z at*;lia
def xz7 (a b:Nat):yln Wd=Tl[a^^^b]:=by
 show(Bj[yln Wd=Ψ a+Wd-2*Builtin.bitAnd[Ψ a] Wd][by
  show Hf Builtin.bitXor PyProof.Rows.bitOr_and;lia],[e,PX Z5 wM,KG,KG],xMO[xgB a b])
def WP (w p:Nat):Prop:=(w=8/\p=29)\/(w=16/\p=45)
def WP.facts (h:xUa):8≤w/\w≤16/\p%2=1/\p<2^w:=by
 rcases h with⟨rfl,rfl⟩|⟨rfl,rfl⟩<;>decide
def xew (hw:0<w)(hs:s<2^w):CK.T w p s=DM[s/2^(w-1)] 1[s*2%2^w^^^p][s*2%2^w]:=by
 show(Hf CK.T No,(h2:s/2^(w-1)<2)=OW[by
  show(DA[2^(w-1)*2][2^w][by rw [<-LA];congr 1;exact Of hw],Kk hs this.symm)],gJ[s/2^(w-1)] 1 h h)
 ·show(Bj[s/2^(w-1)=0][Nat.lt_one_iff.mp h],Dq e)
 ·show(Bj[s/2^(w-1)=1][JS[Nat.lt_succ_iff.mp h2] h],Dq e)
def crc (w p s:Nat)(R:LE):Nat:=R.foldl[xYU p] s
def xoz (w p s)(R)(b):xTL s[R++tG]=xYU p[xTL s R] b:=xx9 crc Nu
def xjK:∀n R,xOP n->wO R->xTL s R=CK.G w p n s xBM:=by
 show xDV
 induction n with
 |zero=>
  intro R h _;show(Bj[R=[]][L8.mp h],DX);rfl
 |succ n ih=>
  intro R h hb;obtain⟨A,b,rfl⟩:∃A b,R=A++tG:=by
   rcases List.eq_nil_or_concat R with e|⟨A,b,e⟩
   ·show(DX,Ed)
   ·show Ef A b xNa
  have XI:xKa:=qW Z6;rw [JP,N9] at h;rw [xoz,ih A[Nat.add_right_cancel h][Tz[wa hx]],BP.xvb];show _=xYU p[CK.G w p n s[(xWW*256+b)/256]][Hs[xWW*256+b]];show(Gn[(xWW*256+b)/256=xWW][JS[Fs 256 [_,_,_][G8[vR 256]][EM 256[HV[xC7 256]]] n_ XI ER][xAI 256 [_,_,_][Ar[HV[xC7 256]]][D8[vR 256] 256] Ę zj]][Hs[xWW*256+b]=b][JS[zg [_,_,_,_][xO6[xCH SZ]][xCH[HY[.w Dk 256]]][Ct 256 e1.symm][JQ xPJ]][Dd [_,_,_,_][xCH[HY[.w Dk 256]]][xO6[xCH SZ]] Ę[Ct 256 e1] x80]],xJ3 e2)
def xjo {R:LE}(hp:p<2^w)(hs:s<2^w)(hb:qB):xTL s R<2^w:=Sc[xjK R.length R rfl hb][CK.G_lt hp hs]
inductive ĭ (vs:SC) (H:Hp) (Q:VK) (RW:XK):Prop
 |mk (n p s b:Nat) (h0:vs=[Jn,yP,FY]) (h1:xKQ p) (h2:s<2^n) (h3:xKa) (h4:zw[CK.B n p s b]):ĭ Ã
def xu6:XV ["state","byte","wide","step","goes_out"] xPg xvs:=Uf
def xcm (F:Ρ ziI xPg)(X:FW):f7 xPg ĭ:=by
 show(xBh dA mA tA X.tabA,ka dL mL tL X.tabL,BA xu6[λ RO A outer st H vs Q E hr h=>?_],(n,p,s,q_,hw,hs,hb,q)=h,yg0 h8 h16 hodd hp,CJ[DT[Em 0 xu6.nd[xJm AB[x0N χ[uW Ε]]][zU[xrO rfl X.R.X.range yc] 3 xu6.nd[DJ 4 xu6.nd[x0u AB[uW Ε]] 0 xu6.nd[ap xzr[xSw xtY][aL xtd[oa dA mA] Ε WJ]][ig[kW AS][qP 0 xu6.nd[xJm AB[aL xtd[oa dL mL] Ε WJ]]]]]] AB]] e8[By-8=Tl[n-8]] Z5,SL e1'[By-1=Tl[n-1]] Z5 (Ï,e_))
 try dsimp only
 show Ζ e8 (Å,xIx[IE[ET ù[EI 16] BB h16 IJ]] Z5,ø)
 try dsimp only
 show([xz9,xz7],SL hs0[s^^^b*2^(n-8)<2^n][by
  refine xC4 ?_;have:b*2^(n-8)<2^8*2^(n-8):=xXo yR hb;rw [<-ML,show 8+(n-8)=n by show Cn[vX[rM 8][Xj 8][YF C4 FE FE h8]][El ST[rM 8] ST[Xj 8] τ]] at this;show xB4] (f_,_x,xKu Ym 0 8[λ i σ H2=>∃v3 v4,σ=[Ν[xHX n zij],YI,Xt,v3,v4]/\H2=H] zsj))
 ·rintro i σ H2 hi ⟨v3,v4,rfl,rfl⟩;show(Θ RQ[CK.xqS (n:=i) hp hs0] eT[xHX n[i+1][s^^^b*2^(n-8)]=CK.T n p[xHX n zij]] rfl,[eT]);generalize xHX n zij=z at*;show((hz16:z<2^16)=J6 RQ[xr h16],ω go[xew (p:=p) (QY h8) RQ][FD zc3 _ Ð ?_])
  try dsimp only
  show Ζ e1'[yq ă xK4 ?_]
  try dsimp only
  show([xwl],SL em[Ψ z*2^x5m=Tl[z*2]][xz9 z 1] (Ø,(_x,Z5),Á,dA,Û,.inl tA,?_));clear hs h8 h16 hodd hp e8 e1' hs0 RQ eT;show x3z hw Ÿ
  ·refine .inl[yq rfl x_]
   try dsimp only
   show yz em[BL[ycl[z*2] 255][Tl[z*2%2^8]][xt5[z*2] 8]][vG Hd]
   ·show(yp UR[z/2^(8-1)=1] zg0 go,(Ï,dL,Û,.inl tL,.inl[yq rfl x_]))
    try dsimp only
    show Γ[BL[ylM[z*2%2^8] 29][Tl[z*2%2^8^^^29]][xz7 _ 29]] zf8
   ·show(yp UR[¬z/2^(8-1)=1] zk1 go,Sc zf8)
  ·show xXG[yq rfl x_]
   try dsimp only
   show yz em[BL[ycl[z*2] 65535][Tl[z*2%2^16]][xt5[z*2] 16]][vG Hd]
   ·show(yp UR[z/2^(16-1)=1] zg0 go,(Ï,dL,Û,.inl tL,.inr[yq rfl x_]))
    try dsimp only
    show Γ[BL[ylM[z*2%2^16] 45][Tl[z*2%2^16^^^45]][xz7 _ 45]] zf8
   ·show(yp UR[¬z/2^(16-1)=1] zk1 go,Sc zf8)
 ·show(xPG H2 v3 v4 Ð,xR0 q)
def xmK:¬(yfN="state"):=Z8
def fC (n s:Nat):yn:=[(("wide",FY)),(("state",Jn))]
def kB (n s):vK "state" s[x6A n []]=xy1:=gK[AQ "wide" "state"[((yfN,FY)):: [(("state",Jn))]]=_] xJe
def xjv (n s s'):vK "state" s' xy1=xN0 s':=HF[AQ "wide" "state"[((yfN,FY))::(DM[Iw "state"] "state" [Yi[Iw "state"] s'] _)]=_] xJe Cm
def xmN (n s):S9 xy1 "wide" FY:=by
 rw [<-kB,ay,xJe,ay,Cm]
def xp3 (n s):S9 xy1 "state" Jn:=xIp kB ay
def I_ (n s){m:Str}(h1:o1[m="state"])(h2:o1[m="wide"]):eN xy1 m:=by
 rw [<-kB,ay,xyG,ay,xyH];rfl
def xjw (n s):xNz xy1:=xBt 2
structure xuN (K:Frag)(mg:Τ)(C:RA):Prop where
 cl:X5
 nW:gM "wide"
 nS:gM "state"
 m:mg "Check"=Ff
inductive Ō (C:RA) (vs:SC) (H:Hp) (Q:VK) (RW:XK):Prop
 |mk (p dx:RA) (n q:Nat) (h0:vs=[Dc,FY]) (h1:xKQ q) (h2:xQS) (h3:∀H':Hp,eC xEx[xN0[2^n-1]]->rj zcn):x4Y Ã
def î:XV xV5 xV5 á:=Uf
def ñ {f fW:RA}(F:yf4 zcx)(W:xRc)(T:xuN ê)(X:FW):xKZ xV5 x4Y:=by
 show((GW:kI zcj zeQ)=xuq W X.R.X,(dA,mA,tA)=X.tabA,DW zma,Hv p dx n q rfl hw hp k,DR[vh[iq[Je GW W 1 xBX]][xlI xgc χ[oa dA mA] Z7] pX[xDJ χ[aL xtd[oa dA mA] χ WJ]]][qr zc3 x_],HI[JL[Fm xD By&&Fm By 16]][by
  show((h8,h16,_)=hw.facts,BH[JY[Int.toNat_le.mp h8]] xIK)],xFl Br,xa hn[By=8\/By=16][by rcases hw with⟨rfl,_⟩|⟨rfl,_⟩<;>simp] (Á,dA,Û,tA,hn,Á,Br) (vby,ą,va4,T.nW,xFC,?_),CJ (Á,dA,Û,.inl tA,?_) fin[∀z,z=Tl[2^n-1]->xBx[ZW[ZW H[x6A n []]][ynz[.int z][x6A n []]]]][λ z ez=>by
  show(yz ez[BL[ynz[V.int[Tl[2^n-1]]][x6A n []]][xN0[2^n-1]][kB n _]][HG ae λ b o e hb=>?_],Γ Yj Yj e)])
 clear k e1 hn;show x3z hw Ÿ
 ·show DD (rfl,vbN,va5,rm,fin È)
 ·show Dr (rfl,vbN,va5,rm,fin È)
inductive spAdd (C:RA) (vs:SC) (H:Hp) (Q:VK) (RW:XK):Prop
 |mk (p dx a:RA) (n q s:Nat) (B:LE) (h0:vs=jP) (h1:xKQ q) (h2:s<2^n) (h3:Xb xy1) (h4:Α=ve) (h5:xEG) (h6:∀H':Hp,eC xEx[xN0[crc n q s B]]->rj zcn):spAdd ä
def scAdd:XV[xBe "row" "byte"] Jaj xrm:=Uf
inductive D_ (C:RA) (H:Hp) (p:RA) (dx:RA) (a:RA) (n:Nat) (q:Nat) (s:Nat) (B:LE) (l:RA) (i:Nat) (σ:St) (H2:Hp):Prop
 |mk (v:EE) (h0:σ=[Bh,Cs,v]) (h1:eC[H2 p][xN0[crc n q s xBH]]) (h2:pG=ve) (h3:∀b o,Gk=LT->X'->H2 b=LT):D_ C H p dx a n q s B l i ë
def xnV {f fN fR fW fY:RA}(F:Cb zsv xrm)(N:x1C)(R:FL zfT Jah fR fdR)(W:xRc)
  (Y:FL ziI xPg fY fdY) (T:xuN ê) (X:FW):xSz Jaj[spAdd C]:=by
 show(AH znP[xSk X.R] GY[kI fY fdY xPg ĭ][xcm Y X][F.ok scAdd λ RO A outer st H vs Q E hr h=>?_],Lv,(p,dx,a,n,q,s,B,vb2,hs,hp,ha,hb,k)=h,yg0 h8 h16 hodd hq,xQ,DR[ag[vn[jO GN N 1] 2 scAdd.nd[xBC[xHG GY Y[xJn[AL 2 B4]]]]]][xW a B Ā[UV l hl]],SL npl[p≠l][xOn hl][Kd l[xAU ae][xqG (K:=K) (a:=l) (xs:=vU) (D_ C H p dx a n q s B l)
  (none,rfl,Κ npl hp,ae,λ b o e _=>yY hl e)[λ i σ H2 _ z9=>by show(yce z9,jV e)] Î]])
 ·rintro i y σ H2 hi ⟨v,rfl,Sw,Su,U6⟩;show(Mk b SH hi,Θ UE[qW x7O] RQ[crc n q s xBH<2^n][xjo hq hs[Tz V1]],xJL (vce,va5,xp3 _ _,vby,ę,Sw,_s,xmN _ _,n,q,_,q_,hw,RQ,UE,?_) (p_,Sw,va5,xjw _ _,?_) (YI,vbJ,Κ npl.symm Su,λ c o e hc=>Κ hc[U6 c o e hc]),[ae,xjv,x0c,xoz])
 ·rintro σ H2 ⟨v,rfl,Sw,Su,U6⟩;show vH JO K0 Sw[k H2 Sw U6]
inductive Ū (C:RA) (vs:SC) (H:Hp) (Q:VK) (RW:XK):Prop
 |mk (p dx:RA) (n s:Nat) (h0:vs=Cw) (h1:Xb xy1) (h2:lQ Jn):Ū ä
def xcw:jB xss:=Uf
def xmY (F:Cb zqh xss)(T:xuN ê):Zr[Ū C]:=by
 show(DW xcw[λ RO A outer st H vs Q E hr h=>?_],ye p dx n s rfl hp k,xLz B4 (Ě,T.nS,xp3 _ _,k))
def ħ (n q:Nat)(B:LE):Nat:=crc n q[2^n-1] B
inductive xj0 (vs:SC) (H:Hp) (Q:VK) (RW:XK):Prop
 |mk (a:RA) (n q:Nat) (B:LE) (h0:vs=sZ FY) (h1:xKQ q) (h2:Α=ve) (h3:xEG) (h4:Ja[WD[ħ n q B]]):xj0 Ã
def xlw:XV ["row","wide","check"] ["row","wide"] xpP:=Uf
structure Chk (K:Frag)(mg:Τ)(C:RA):Prop where
 X:FW
 T:xuN ê
 whole:x1U
 isrow:Ι zfT Jah
 needrow:x40 zdS
 withb:Ι ziI xPg
 init:∃f fd dV,yf4 zcx/\Ha xV5/\TY
 add:aW C zsv xrm Jaj
 value:gP zqh xss
def xk6 {P:RE}{K:Frag}{mg:Τ}{f:RA}{fd:RG}{dV:RC}(F:T9 K "check_of" "check_of" xpP zcx)(Z:Chk ê):BY 6 ["row","wide"] xj0:=by
 show(TL,(X,T,(_,_,W),(_,_,R),(_,_,N),(_,_,Y),(_,_,_,FI,bI,M),(_,_,Ad),(_,_,Va))=Z,vv xlw[λ RO A outer st H vs Q E hr h=>?_],(a,n,q,B,vb2,ha,hb,k)=h,tS _H Uj 3,DR[Em 2 xlw.nd[xzy M[yd0 W T X] Uj Z7 T.m zd7 Yk][aD[xyi Ε T.cl Ad[xnV Ad.F N R W Y T X] hr vk]][xZc Ε Va[xmY (mg:=mg) Va.F T] Si]][AK[λ x dx nx ndx nex=>?_]],SL s0[qq[kS zjN C []]][λ b o e=>Γ[uS nx][uS ndx] e][JG x dx n q hw ae[λ H1 XD kp=>Xq]],SL s1 zn3 (ć,ą,XD,xTl,ć,dx,a,n,q,_,B,vb2,?_,XD,CV,hb,Ο H2 YN kp2))
 ·show Jx zny
 show SL s2 Yp[λ b o e=>kp2 b o[s1 b o e] xCD] (ć,ą,YN,xTl,x,dx,n,Á,YN,xIB)
abbrev xri:RM:=top 40
abbrev xv2:RM:=top 41
abbrev xr2:RM:=top 103
abbrev xsv:RM:=qL 104
abbrev xn8:RM:=qK 104
structure FnK (K:Frag)(mg:Τ)(x:Str)(st:RM)(ps:C6)(f:RA)(fd:RG):Prop where
 F:∃dV,xFA x x Ò
 m:cY=aM
 b:eB
 d:JM[xNV [Sf 16]]
theorem FnK.kp (F:FnK Â x zb6):X4:=F.F.elim[xyD h.kp]
def two (n:Nat):LE:=[n/256,Hs n]
def ü (R:LE):LE:=R++xyV
def RT (a b:Nat):LE:=[a,b,qR]
def wp8:WP 8 29:=yha
def iA:WP 16 45:=xB1
def xrL (h:xKQ q)(hb:qB):ħ n q R<2^n:=xF0 hq h.facts[xjo hq[Jx zny] hb]
def xyc (h:dH n):E3[two n]:=by
 intro b hb;simp only [two,Kt,Qi,or_false] at hb;lia
def xyb (hb:qB):E3 xYV:=λ b h=>ki h qW[xyc xyA b]
def bx (ha:mh)(hb:xKa):∀c∈xX,D4 c:=by
 intro c hc;have h8:D4 qR:=xrL wp8[λ c hc=>by simp at hc;lia];simp only [RT,Kt,Qi,or_false] at hc;lia
structure Cks (K:Frag)(mg:Τ)(C:RA):Prop where
 Z:Chk ê
 checkof:Ij[FnK Â "check_of" xpP ["row","wide"] Ò]
 two:Ι zrT j9
 withcheck:Ι zfC Jy
 headrow:Ι zi7 xNT
inductive spTwo (vs:SC) (H:Hp) (Q:VK) (RW:XK):Prop
 |mk (n:Nat) (h0:vs=[FY]) (h1:dH n) (h2:∀l,DP->qM[cg H l[two n]]):spTwo Ã
def xeF:XV j9 j9 xri:=Uf
def xsR (F:Ρ zrT j9):f7 j9 spTwo:=by
 show(BA xeF[λ RO A outer st H vs Q E hr h=>?_],xxv n rfl hn k,kL[aK[IB[xSw xpl][xSw xzr]]] (Ø,(d6[IF≤8]),Ø,tT,gQ),Gn[kK/2^Int.toNat 8=Tl[n/256]][by
  show kK/256=_;show ua xCy xCy][ycl n 255=Tl[Hs n]][Jx[xt5 n 8] this])
 try dsimp only
 show Γ ğ[yg nl]
inductive xs0 (vs:SC) (H:Hp) (Q:VK) (RW:XK):Prop
 |mk (a:RA) (R:LE) (h0:vs=Dl) (h1:Α=ur) (h2:wO R) (h3:Hc R.length) (h4:tJ[AA->B1=Bc xYV->BD]):xs0 Ã
def xgT:XV Jy Jy xv2:=Uf
def xq5 (F:Ρ zfC Jy)(Y:xLd C):BY 7 Jy xs0:=by
 show(vfl,ycT Y.two,xxp t16 B16 Co.d xgT[λ RO A outer st H vs Q E hr h=>?_],ye a R w_ ã k,xQ,ZH[Cj[HA AB[zO[xsR Tw] Si Tw[xrR[xk6 FC Y.Z] hr Z7 Co.m Co.kp zqM bo vk]]]] (ě,16,45,R,rfl,iA,ha,hb,UV l_)[Kd[ju R] xyA xZw],vd6,veO)
inductive xj3 (vs:SC) (H:Hp) (Q:VK) (RW:XK):Prop
 |mk (x y:Nat) (h0:vs=[xKV,xSr]) (h1:qG) (h2:D4 y) (h3:tJ[AA->B1=Bc[RT x y]->BD]):xj3 Ã
def xhU:XV xNT xNT xr2:=Uf
def xrH (F:Ρ zi7 xNT)(Y:xLd C):BY 7 xNT xj3:=by
 show(vfl,BA xhU[λ RO A outer st H vs Q E hr h=>?_],IG x y zcu hy k,kL[aK[yD 0[AL 1[gz[xk6 FC Y.Z] Co.m Co.kp Co.b bo[yT[aK[jZ 0 1]]]]]]] (vcr,tT,xZw),zf s1[DI [xKV,xSr] n1] VB[(VC [xKV,xSr]) l1=Ak [xKV,xSr]][VC [xKV,xSr]] H1,EC[cF l1 8 29 [x,y] wp8 VB[λ c hc=>by simp at hc;omega][λ H2 s2=>((rP 3),gQ)]][YH[iJ Gg][xU4 gw] ae])
universe K26.Ck
namespace L2
open PySem PySem.Spec PySem.Calls PyProof.Rows QQ PySem.W
def xhw {K:Frag}(hP:X.prog=P)(hw:X.w=w)(hK:X.K=K)(hmg:X.mg=mg)(hb0:X.base=base)(he:Y5)(hr:pA)
    (ht:AM[va xDC=(do
      let ov<-qe
      xAO
      let((f,first))<-xAW zc5
      xES xPh)]):
    Ax xDC[xiD _M k m ta è]:=by
  subst hP hw hK hmg hb0
  intro RN s σ H Q I h
  show(x1g zdM,vdJ,EC xUm[ygg Dl zjA[xX7 Dl (vs:=Dl) F hr hb _F I1 x6C q]])
universe L2
namespace K26.Ck
open PySem L2 QQ W17 W16 BP
seal PE PA PS Ó PT PW PG PI
abbrev xpV:RM:=top 107
def xqu:¬(xWZ="count"):=Z8
def xi6:¬(xWZ="inside"):=Z8
def xi2:¬(Iw "count"="inside"):=Z8
def xtW (a b c:Nat):yn:=[Yi "way" a,yfW,(("inside",uF))]
def xuU (a b c):vK "inside" c[vK "count" zsS]=xE8:=by
 show(vK "inside" c[xGc "way" zoI])=_;show(E1[Kh xqu][AQ "way" "inside"[Yi xWZ a::AQ "count" "inside"[((Iw "count",yP)):: [(("inside",uF))]]]=_],BH[Kh xi6][Kh xi2])
def xi3 (a b c):S9 xE8 "way"[vN a]:=by rw [<-xuU,ay,Kh xi6,ay,Kh xqu,ay,Cm]
def xkq (a b c):S9 xE8 "count" yP:=by rw [<-xuU,ay,Kh xi2,ay,Cm]
def xkv (a b c):S9 xE8 "inside" uF:=xIp xuU ay
def xd0 (a b c){m:Str}(h1:o1[m="inside"])(h2:o1[m="count"])(h3:o1[m="way"]):eN xE8 m:=by
 rw [<-xuU,ay,xyG,ay,xyH,ay,Kh h3];rfl
structure xuM (K:Frag)(mg:Τ)(C:RA):Prop where
 cl:X5
 nW:gM "way"
 nC:gM "count"
 nI:gM "inside"
 m:mg "Head"=Ff
 init:Ij[ymS xsv/\Ha x7v/\TY]
 row:gP ztc xn8
inductive ŏ (C:RA) (vs:SC) (H:Hp) (Q:VK) (RW:XK):Prop
 |mk (p dx a b c:Nat) (h0:vs=[Dc,vN a,yP,uF]) (h1:xQS) (h2:ZX[eC xEx xE8][rj zcn]):ŏ ä
def xbV:XV x7v x7v xsv:=Uf
def xmT (F:ymS xsv)(T:xuM ê):f7 x7v[ŏ C]:=by
 show(DW xbV[λ RO A outer st H vs Q E hr h=>?_],Hv p dx a b c rfl hp k,DR[bO χ[xDJ Ε Ab]] (vby,vbn,va4,T.nW,xFC,?_),xAf (vby,ą,ae,vbC,vbx) (vby,ą,ae,T.cl,T.nI,(IC[show BF[vK "count" zsS] 2 by show gK[BF[xGc "way" zoI] 2][Kh xqu]]),?_)[HG[Ry ae[x5o zj3[xuU a b c]]] λ d o e hd=>bE[ak hd][ak hd][ak hd] e])
inductive W_ (C:RA) (vs:SC) (H:Hp) (Q:VK) (RW:XK):Prop
 |mk (p dx a b c:Nat) (h0:vs=Cw) (h1:Xb xE8) (h2:a<4) (h3:G5) (h4:YL) (h5:D4 c) (h6:tJ[AA->B1=Bc[RT zf4]->BD]):W_ ä
def xdo:jB xn8:=Uf
def xb3 (F:Cb ztc xn8)(T:xuM ê)(Y:xLd CC'):pS 8[W_ C]:=by
 show((_,_,Hr)=Y.headrow,DW xdo[λ RO A outer st H vs Q E hr h=>?_],(p,dx,a,b,c,_R,ha,vbg,hc,k)=h,CY[Cj[xSR[xrH Hr Y] Hr[IB[uW[Ee[wx B4] B4]] B4]]],SL e1 zmh (vcZ,xi3 _ _ _,Å,xEa,Ě,T.nC,xkq _ _ _,Å,Å,Ě,T.nI,xkv _ _ _,?_))
 try dsimp only
 show xFk[xAk _ _[VZ zfW HW[xb ha] UE[DF ze8 SH]] hc k]
def PB (W T R:LE):Prop:=∃i ps Rb,i<4/\wW[j<4->xRV≤xJQ j/\(j<i->xRV<xJQ j)]/\UD i W T ps/\xzU zgN Rb/\R=wo zhW
def PB.facts {W T R:LE}(h:PB W T R)(t:W7):wO R/\xBG 69:=by
 show(TL,Hv i ps Rb hi hm hp hr rfl,π,Θ hlen hr.len h0[xJQ 0=x7N 8][by rw [xue (u:=0) (ps:=fE) rfl,xzG]],iY (hm 0 Z9).1);rw [h0,xue hp] at h1;show(Ty hl t.le UR t.one,EJ[xyb[CG[ki hb[bx[VZ zfW HW[xb hi] hl[DF ze8 UR]][Fs zbY zmi zbP zpH] b][hr.byt b]]]] ?_,yX ü JP JP);show 3+Rb.length+2≤69;show Au[Fs zbY zmi xYM xYe zpH]
def xpM (t:xyW)(s:xzm Tb H H')(n:Ω B1):DP:=by
 cases e:Vw with
 |none=>rfl
 |some o=>
  by_cases z:l=Tb
  ·show(Hq,yfI h t,A8 h n n)
  ·show A8[FV z e] n n
structure Bks (K:Frag)(mg:Τ)(B D G CW C0 C1 C2 C3 c CK Sk:RA):Prop where
 Z:xLu G
 Y:xLd CK
 T:xuM Â Sk
 min:yhg
 best:∃f fd dV,xyk K zqg xpJ dV c Ò/\mg "best_way"=aM/\Ha Jae/\xFJ K Jae xXA
inductive xkC (Tb:RA) (vs:SC) (H:Hp) (Q:VK) (RW:XK):Prop
 |mk (a:RA) (x:V) (T W:LE) (h0:vs=sZ x) (h1:Α=DO) (h2:oP) (h3:W7) (h4:qS) (h5:bL l RA R LE Hp[DP->PB W T R->B1=ur->xzm Tb H H'->xyW->BD]):xkC Tb Ã
def xvf:XV ["text","before","way","bits","body","head"] Jae xpV:=Uf
def sK (F:T9 K "put_block" "put_block" xpV zcx)(Z:Bks zc4 G zdt c Ğ)(hC:WG)(hBm:VI)(hK:z8):BY 40 Jae[xkC Tb]:=by
 show(TL,(fB,fdB,dB,FB,mB,xrS,_)=Z.best,Ty ZB Z.Z.S0.Zb X ZB.R.X,SP ZB.init,(_,_,Ro)=ZB.row,TB=ZB.T,(_,_,FH,bH,MH)=Z.T.init,xF8 GH[xmT Æ FH Z.T] Hw Z.T.row,xF8 GR[xb3 Æ Hw.F Z.T Z.Y] ztt,vv xvf[λ RO A outer st H vs Q E hr h=>?_],(a,x,T,vbv,hx,tw,hT,k)=h,tS _H U3 2,tS zgl hr8 8,aR hr35 35,Av[qg xvf.nd[gz[xcB FB Z.Z Z.min zcF] mB FB.kp xrS bo[jZ 0 1]][zX 3 xvf.nd[ml[xmL (mg:=mg) FI TB] U3 ZB.m][aD[xmF zjT (K:=K) zh4 (k:=35) ze1 Ε hr35[xEC 3 0 1]]][DJ 4 xvf.nd[x7V Ab Ro[xg1 Ro.F TB X] Si] 5 xvf.nd[xzy MH GH U3 Z7 Z.T.m bH _F[ac[xhw zjT (K:=K) zh4 (k:=1) ze1 Ε Si][IB yv xCv]]][Cj[zO[xq5 Wc Z.Y] hr7 Wc[HA[cu EH Z.T.cl Hw GR hr8] AS]]]]]] (ě,x,T,vbv,hx,tw,hT,λ i o dx H1 hi no ho hmin sT hT1=>Al),Es WK[Z.Z.ok Æ hi],(fT,fdT,mT,bT,GT)=WK.tell,Xh zdu mN bN GN WK.num,Ty YS[jb[hT.ne ha xh] ha] XD[hx.sameT hT sT],xCs)
 intro p dp np Vl Yr;show(ZY YX[sh[(xq[xB9 H1 dp p] p B dp) p] B dp []] ae s0[x5K B],Dp[zd p dp YX[λ d H2 nd U4 kp2=>x0z]],SB nd0[CU d][xxk nd] Uz Ap[λ c o e=>xLg vm AE])
 clear s0 YX kp2 nd;show(xHS,Gd (Á,o,_,dx,[],fT,fdT,Ö,xUc ho,rfl,WK.cl,mT,GT,bT,ô,o,p,d,a,x,T,W,0,0,vb4,Z9,xUc YS,XD.same Uz,tw,λ ps H3 hps XW Sv=>Al),yp s13[xVz H3][λ c o e=>Gs[xUc e] AE[pq nd0]] Lr XW,hgd=(hps.good tw).2);clear U4 Sv Uz;show(bK Gw,DS US r3 k3 zgM,Dp (vcu,SW,oQ,p,d,Ö,XW,Ga hgd,λ lr Rb H4 Ui hlr row s34=>Al),zx s14 yms hlen row.len hcst (hmin 0 Z9).1);rw [xue (u:=0) (ps:=fE) rfl,xzG,xue hps] at hcst;have Ww:=tw.le;clear SW XW s34 s13 Ui;show Ai g1 (Á,o,_,dx,[],fN,fdN,Ö,xLf ho,rfl,WK.cl,mN,GN,bN,o,Ŵ,a,Á,BZ[xLf YS],Á,lr,Á,BZ hlr,?_)
 intro h dh nh ndh neh;show(s0=xxh Sk nh ndh,Dp (h,dh,i,(WI).length,(xNj).length,į,λ H5 hh Wu=>x0z),(s45:x0e H5)=λ c o e=>Zo vm[pq nh],xCJ JO hh,Ty hlr5[s45 _ _ hlr] s15[s14.trans s45]);clear s0 Wu hlr s45 s14;show(Υ (Á,h,dh,Á,hh,xd0 _ _ _,h,dh,i,T.length,Rb.length,rfl,hh,hi,tw.one,tw.le,(Fs zgg zn4 zbP hgd[xKo xZP]),λ l6 H6 nl6 s56 hl6=>?_) (Á,l6,lr,Å,hl6,s56 _ _ hlr5,bQ[by show(xKc,aQ[3+Rb.length],DE [_,_,_][AV[A7 FG]][x7a[C7[yy 7]]] kX Cg hgd[Ge hlen ER])],UV l7 n7),Θ s67[DI[AY[pZ[ZI[64*i]-1]]++xNj] n7] h77[(EN H6 znz) l7=xf zhW] xD0,s17=(s15.trans s56).trans s67,lD H6 znz H7,xAd hone tw.one (l7,Á,h77,CG[ki hb[bx[VZ zfW HW[xb hi] Ww[DF ze8 hone]][Fs zgg zn4 zbP hgd[xKo xZP]] b][row.byt b]],by show(lP[Hc[3+Rb.length]],Au[Fs 2 [_,_,_][AV[Be FG]][x7a[xSE[yy 7]]] kX D5 hgd[xKo[Ct 2 hlen]]]),λ l H8 nl s78 hl=>?_)[YH H8[xpM[hT1.same s17][λ c o n e=>s17 _ _[jb n e]] nl] (i,ps,Rb,hi,hmin,hps,row,rfl) hl[λ c o n e=>s78 _ _[s17 _ _[jb n e]]][hT1.same[s17.trans s78]]])
universe K26.Ck
namespace K26
open PySem L2 QQ W17 W16 BP
seal PE PA PS Ó PT PW PG PI
abbrev xzv:RM:=top 31
abbrev xsQ:RM:=qL 33
abbrev pi:RM:=qK 33
abbrev xzn:RM:=xAz 33
abbrev xsW:RM:=zC 33 5
def bt (R:LE)(t s:Nat):Nat:=xJd/2^(D1-(t+s))%2^s
def xu9:XV ["row","place","size","end","bytes_to_end","number","byte"] Jam xzv:=Uf
inductive xls (H:Hp) (a:RA) (p:Nat) (s:Nat) (l:RA) (C:LE) (i:Nat) (σ:St) (H2:Hp):Prop
 |mk (v:EE) (h0:σ=[Cs,mi,xSs,Ν[p+s],Ν[(p+s+7)/8],Ν x2d,v]) (h1:H2=o5 xNA):xls H a p s l C i ë
def xmr (F:Ρ zjs Jam)(O:x1E)(T:FW):xKZ Jam xrt:=by
 show(SL GO zhp[F.F.ok xu9 λ RO A outer st H vs Q E hr h=>?_],Lv,(a,B,p,s,vbp,hps,hs,k)=h,ZH[DJ 3 xu9.nd[xNW Ε] 4 xu9.nd[xGb[Rd Ab]][Em 5 xu9.nd aj[vn[aV AB mQ AS] 6 xu9.nd[qP 5 xu9.nd[ap xnC[rR xtY EH] Im]]][ap xzr[x0u EH[yQ[wx AS] Ab]][jO GO O 2]]]][FD zc3 _ Ð ?_] (Ø,Å,(by decide,by decide),?_),Gn[(xEq+Ψ s+7)/8=Tl[(p+s+7)/8]][ua xCy xCy][xEq/8=Tl[p/8]][ua xCy xCy],SB e3[xEq+Ψ s=wV s][ua iN iN] zqZ[Au[Fs zbY zp7 n_ ER zj]],(h2:pO[(p+s+7)/8])=Au[Fs zbY zph n_ hps ER])
 try dsimp only
 show yz e1 e3 (vbk,(by decide,by decide),ô,a,Á,xWQ,UV l hl)
 try dsimp only
 show([e2,xbS Ç],SB hc[E3[xLV zfE]][λ b WQ=>qW[KA[K8 WQ]]] hcl[Ez[xLV zfE] 4][xJ1 Kc J7],key=BP.bits_cut hb hps);generalize xLV zfE=C at*;show SL sm[qq[o5 xNA]][λ b o e=>yY hl e][Kd l[xAU ae][mr K l xNA[xls H a p s l C] yaa[λ i σ H2 _ z9=>by show xMb e;exact Vz xG0] Î]]
 ·rintro i y σ H2 hi ⟨v,rfl,rfl⟩;show(Mk b SH hi,SB UE xKa[hc b x7O] Ue[xXR i] x99,AH hv[x2d<x18[C.take i]][BP.xzW λ b WQ=>hc b[KA WQ]] hv2[x2d<256^4][J6 hv[Mc[by decide][Ji[ET ù[EI 4] xIO hcl HN]]]] (Ø,Dt zdJ,e_))
  ·show xy5[rV 256^4<2^64][by decide]
  ·show Θ e[xsu x2d b 8 UE] e'[x2d*2^8+b=BP.val[C.take[i+1]]][by rw [x0c,BP.xvb]]
   try dsimp only
   show A3 e' e[ZK YI[x5I[TD [xM9 a,mi,xSs,Ν[p+s],Ν[(p+s+7)/8],yfo z,YI]]]]
 ·show xHi ë v rfl
  try dsimp only
  show(Fn K0,SL e4[xD*Tl[(p+s+7)/8]-wV s=Tl[8*((p+s+7)/8)-(p+s)]][by lia] (vbk,jk zdJ,e_))
  try dsimp only
  show Ζ e4 (Å,Au xNi,Á,u_,FX xCu SZ D5 hs,ø)
  try dsimp only
  show bE xwl xt5 key[HG sm]
structure Sd (C:RA)(H:Hp)(p d:RA)(R:LE)(t:Nat):Prop where
 ob:∃dx,Xb TZ
 ls:H d=ur
 by':qB
 le:sj t
structure CRd (K:Frag)(mg:Τ)(C:RA):Prop where
 cl:X5
 nH:gM "held"
 nT:gM "taken"
inductive Š (C:RA) (vs:SC) (H:Hp) (Q:VK) (RW:XK):Prop
 |mk (p dx a:RA) (R:LE) (h0:vs=jP) (h1:xQS) (h2:Α=ur) (h3:wO R) (h4:∀(d:RA) (H':Hp),Bf d->xQH H' 0->rj zcn):Š ä
def xbK:XV Jaj Jaj xsQ:=Uf
def xih (F:yky xsQ)(N:x1C)(Y:WZ)(T:xT4):xSz Jaj[Š C]:=by
 show(SL znP[xSk Y][F.ok xbK λ RO A outer st H vs Q E hr h=>?_],Lv,(p,dx,a,R',_R,ha,hb,k)=h,DR[xDJ[jO GN N 1] aj][xW a R' Ā[UV d hd]],xa V9[p≠d][xOn hd] (va3,vbn,(Κ V9 hp),T.cl,T.nH,xFC,vbN,vcm,vbx)[Fl d hd (UT[Ry ae[x5o zj3[xvn d 0]]],by rw [iz,iz,ae],hb,Bz) λ b o e hb=>?_],bE Yj Yj[uS hd] e)
inductive spLeft (C:RA) (vs:SC) (H:Hp) (Q:VK) (RW:XK):Prop
 |mk (p d:RA) (R:LE) (t:Nat) (h0:vs=Cw) (h1:xUg) (h2:zw[D1-t]):x5g Ã
def xcX:jB xzn:=Uf
def xte (F:Cb ze4)(T:xT4)(X:FW):Zr x5g:=by
 show(DW xcX[λ RO A outer st H vs Q E hr h=>?_],(p,d,R,t,veK,q)=h,kL[yQ[wx x74] B4] (Ě,vdp,vbs,BZ hd,Å,jk zdJ,?_),CJ (Ě,vcM,ø) e[xD*BN Bw-Ψ t=Tl[D1-t]][sr JO])
 try dsimp only
 show Vz q
inductive xrZ (C:RA) (vs:SC) (H:Hp) (Q:VK) (RW:XK):Prop
 |mk (p d:RA) (R:LE) (t s:Nat) (h0:vs=[Dc,Jn]) (h1:xUg) (h2:s≤24) (h3:sj[t+s]) (h4:ZX[xQH H'[t+s]][(∀c o,Μ=LT->A9->Bo=LT)->WD[xCR s]]):xrZ ä
def Q_:XV[xBe "size" "number"] xBw pi:=Uf
def xoX (F:Cb zem pi)(S:ylP zdU fS fdS)(W:x4U fW' XX)
  (B:ynC xzv Jam fB fdB) (O:x1E) (L:Me K C ze4 Jaa fL fdL) (T:xT4) (X:FW):
  xyS xBw[xrZ C]:=by
 show(SB GS zmM GB znl,SL GL znm[F.ok Q_ λ RO A outer st H vs Q E hr h=>?_],Lv,(p,d,R,t,u_,S0,hs,WM,q)=h,x4Z hp hd hb ht[id S0],Df V9 p zps _H[hr.mono[by decide]],(U3:ED 2)=hr.mono[by decide],ZH[Iz[zS GS U3 S 1][fh cZ χ[xZc AB L GL Si][Em 2 Q_.nd[aB GB U3 B[xJn[xJn Yk]]][xUC[Ee B4 χ]] Ε]]][Zv s hs ?_] (Ŷ,ą,hp,x4V zm0,p,d,R,t,rfl,S0,Ć,bj[Gf h0] pz))
 ·have:=J5 h0;show JE[aX [_,_,_,_][.a AO[wz FG]][EZ[A7 xH0]] WM[JN Ua τ]]
 show((Ě,vdp,Ě,vcM,Á,d,R,t,u_,hd,hb,WM,hs,UV H1 sm),ω SI x9y (vbL,vcm,xut _ _,Ø,p_,SI,vcm,xdr _ _,?_),HI[Ψ t+Ψ s=Tl[t+s]][ua iN iN])
 try dsimp only
 show(xJ3 xdv,DR rfl[q _ (UT ae,Κ V9.symm[oR hd],hb,WM) λ c o e n1=>?_],Κ n1[sm c o e])
inductive ŉ (C:RA) (vs:SC) (H:Hp) (Q:VK) (RW:XK):Prop
 |mk (p d:RA) (R:LE) (t:Nat) (h0:vs=Cw) (h1:xUg) (h2:(D1-t<8/\xBM%2^(D1-t)=0/\Ja xPR)\/(8≤D1-t/\yhi)):ŉ ä
def ł:xAT[k7 "left"] xsW:=Uf
def xae (F:Cb zof xsW)
  (B:ynC xzv Jam fB fdB) (O:x1E) (L:Me K C ze4 Jaa fL fdL) (T:xT4) (X:FW):
  pS 3[ŉ C]:=by
 show(AH GB znl GL znm[F.ok ł λ RO A outer st H vs Q E hr h=>?_],Lv,ye p d R t rfl S0 h8,x4Z hp hd hb ht[id S0],(Si:Gu)=hr.mono[by decide],ZH[gO ł.nd[xZc AB L GL Si][xDE[yG dX χ aj][yG bM[xSR GB B[xJn[xJn Yk]]] aj]]] (vbM,x4V zm0,p,d,R,t,rfl,S0,?_)[zl ĝ x_]);rcases h8 with⟨h8,hv,q⟩|⟨h8,q⟩
 rotate_left
 ·exact yaN[ym[iS xC3][jr h8]] q
 have e0:WF[vo[Tl[D1-t]] 8]:=JY[Au[ku[Wg Tm FE Tm FE h8]]]
 try dsimp only
 show(xO e0 VU (Ě,vdp,Ě,vcM,Á,d,R,t,D1-t,rfl,hd,hb,Bg zdP FG Δ zoe,Bg m_ FE SZ xCu h8,UV H1 sm),HI[D1-(t+(D1-t))=0][Cn[ET [_,_,_,_][Hi[A7 EA]][uk xyL] Hg τ[DF zj6 FG AO zoe]] xAS])
 try dsimp only
 show([e1,Rl,Nat.div_one],oS Xq hv[q H1 sm])
universe K26
namespace K26.Ck
open PySem L2 QQ W17 W16 BP
seal PE PA PS Ó PT PW PG PI
abbrev xtt:RM:=top 42
abbrev xt2:RM:=top 105
abbrev xv3:RM:=top 106
abbrev xpT:RM:=top 108
structure Hds (K:Frag)(mg:Τ)(C Sk:RA):Prop where
 Y:xLd C
 T:xuM Â Sk
 N:WZ
 need:x40 zdS
 headrow:Ι zi7 xNT
 three:Vy "HEAD_BYTES" 3
 twoB:Vy "CHECK_BYTES" 2
 most:Vy "MOST_INSIDE" 64
structure Erx (K:Frag)(mg:Τ)(cM cH cK cT:RA):Prop where
 mM:ym9=υ cM
 mH:yna=υ cH
 mK:ymv=υ cK
 mT:ynb=υ cT
 xM:oo cM
 xH:oo cH
 xK:oo cK
 xT:oo cT
inductive xlj (Sk cH:RA) (vs:SC) (H:Hp) (Q:VK) (E:XK):Prop
 |mk (x:RA) (a b c:Nat) (h0:vs=xSC) (h1:HH=Bc [a,b,c]) (h2:qd [a,b,c]) (h5:(c=qR/\(b=0->a=0)/\(64<b->BK cH)/\(b=0->wg)/\(G5->YL->∀p dx H',pF->AA->BG xEx zfj->JJ Dc))\/(Eu qR/\BK cH)):xlj Sk cH å
def xyq:XV ["row","told","first","inside"] Jy xt2:=Uf
def xmm (F:Ρ zew Jy)(Z:xTT C)(Er:xLq):E4 32 Jy[xlj Sk cH]:=by
 show(xU3 N Z.need,xF8 GN[xu0 Æ N Z.N] Hr Z.headrow,SP Z.T.init,lX Z.N.X,EF t3 zka t64 Sl Z.most,π,iD xyq Ĉ,Hv x a b c zcu hby hh,Ty ha[hby a Kj] hb8[hby b[AU Kj]],Cc zeB zgl BM U3[ED 2] BM,xCc[gO xyq.nd[zS GN BM N 0][fh kD[xFR χ] xEm[DJ 2 zga 3 zga[vB xYc χ[IX[xrH Hr Z.Y] hr7 Hr 2 LB][og zjV][Uo[kW Ε] xH8 x71[vh xH8[Bv cZ Ab[Ft 64 Sl t64]][og zjV][Cj[xzy MI[xmT (mg:=mg) FI Z.T] U3 Z7 Z.T.m zd7[ac x8o[ac[Rd[mz Ε]] LB]]]]]]]]]],Ib[VY [a,b,c] hx hby[GG l hn]],zf s1[HP [a,b,c] hn] XH[rL H l [a,b,c] l=Bc [a,b,c]][cg H l [a,b,c]] H1,Υ zkT,Υ (va9,Û,x51,zp,?_) (ô,a,b,_S,hb8,λ l2 H2 n2 s2 Yx=>?_),xFD Uz Gg Su x79 (l,l2,qc [a,b,c],qc xX,Ú,RV.of Su,RV.of Yx,r_));clear hx hby XH Su;rcases hh with⟨rfl,h00,k6,k0,k1⟩|⟨hc,k⟩
 rotate_left
 ·show xKT[xPt[xxd[Kr[show m7[Tl c][Tl qR] from x94 l Ya l[2]? z]]]][bY[HG Uz]]
 show(Ζ[JY[Js[List.map[λ b:Nat=>Wd] [a,b,qR]][List.map[λ b:Nat=>Wd] xX]]] Br,SL v0[∀{n},(V.int kK=xGy)<->n=0][λ {n}=>xJ6[xxd x30][CM z]] M',Ib DG);rcases Oh b with hb0|SH
 ·exact Tf[λ _=>Tf[λ _=>k0 hb0 _ Uz][Bp[JY[v0.2 hb0]] h]][Bp[JY[v0.2[h00 hb0]]] h]
 show Υ[ar[UV R g]][(λ(J:R [some (.ref x),some (.ref l),some (vN a),some (vN b)] H2)=>?_) DG]
 ·exact Tf[λ _=>Tf[Bp[v0.1 Jq] xNo][λ _=>J]][λ _=>bD J]
 show(xxP,Υ[Tf[Bp[v0.1 Jq] xNo] pz][zl ze6[x05[k6[iS Jq] _ Uz][Gf h]]],SL hb YL[x0w[h[JY[ku z]]]] (Ø,xZS,Ø,(d6[IF<64]),vcf));intro h dh nh ndh neh;show jA s0[xxh Sk nh ndh] (h,dh,a/64,a%64+1,b,į,λ H5 hh Wu=>Fw[k1 SH hb h dh H5[none_of Uz nh][λ c o e=>Zo[sQ[xUc e]][ai[xUc e] nh]] hh])
inductive ŋ (Sk:RA) (vs:SC) (H:Hp) (Q:VK) (RW:XK):Prop
 |mk (p dx:RA) (a b c:Nat) (h0:vs=Cw) (h1:ni p Sk xE8) (h2:zw[c+5]):ŋ Sk Ã
def xcK:XV xHj xHj xv3:=Uf
def xp0 (F:Ρ zfD xHj)(Z:xTT C):f7 xHj[ŋ Sk]:=by
 show(EF t3 zka t2 h2 Z.twoB,BA xcK[λ RO A outer st H vs Q E hr h=>?_],Hv p dx a b c rfl hp k,kL[Ee[Ee xEm B4][Ft 2 h2 t2]] (ß,Sk,ę,hp,Z.T.cl,Z.T.nI,xkv _ _ _,Å,ø),Bj[Ψ 3+Ψ c+2=Tl[c+5]][ua[Hj xYM xI1][Hj xI1 xYM]])
 try dsimp only
 show Vz k
inductive xjY (Sk:RA) (vs:SC) (H:Hp) (Q:VK) (RW:XK):Prop
 |mk (x:RA) (a b:Nat) (r:LE) (h0:vs=xSC) (h1:HH=xf xX r) (h2:mh) (h3:YL) (h4:G5) (h5:CH[b+2]) (h6:∀p dx H',pF->AA->BG xEx zfj->JJ Dc):xjY Sk Ã
def xjT:XV ["block","head"] x5h xpT:=Uf
def xgY (F:Ρ "need_head" xpT x5h)(O:FL zew Jy fO fdO)(Bs:FL zfD xHj fB fdB)(Z:xTT C)(Er:xLq):
  E4 33 x5h[xjY Sk]:=by
 show(lX Z.N.X,(t3,h3)=Z.three,iD xjT Ĉ,(x,a,b,r,vbz,ha,hb,SH,hl,k)=h,rU _X[fh dX vP xEm[gO xjT.nd[gz[xmm O Z Er] O.m O.F.kp O.b cv[B9[Xc AB xEm]]][fh gq χ dj[fh kD vP[wZ[xp0 Bs Z] Bs 1] xOy]]]],SL el[BF[AY[xX++r]][b+5]][by show az JO hl;show 3+_=_;show pI[Hk Jr] xI1 xI1[Hk Jr]] (vbI,BZ hB,Ć,xIF pz))
 ·show qD h Jq el h (rK C4[x4f 5] D2[iS h]).elim
 show(CJ[FD ĝ x È xWQ[UV l hn]] ec[û[AY[xX++r]] none[some 3]=AY xX][xzE _ 3],uN,ω s1[HP xX hn][JG l a b _ ae[x1o hb][.inl (rfl,x1w,ym hb[ic z],x1w,λ _ _ p dx H2 np s2 hp=>?_)]],xAd Uz Gg[Tf[ym xC3 B0] pz] (vbI,BZ[xUc hB],ß,dx,_,Ö,hp,Ŵ,?_),Γ el F8[xIC[k p dx H2[xGM np] Uz hp]])
def xiA (n d):x5N d[some[-2]]=n-2:=by
 unfold HT._Q;show x7P
def xcQ (B:LE):û vU none[some[-2]]=AY xQP:=by
 show(xG9,[xiA,HT.xrq,MR,NQ,JO,MF])
def xo2 (B:LE)(h:pO 5):tI vU 3[-2]=AY[xLV[xUM 2] 3]:=by
 show(xG9,[xiA,Js[Ψ 3][Tl 3],HT.SY,JO,KY[JW[by decide] h],ME,MF,List.drop_take])
def io (R:LE):Bw=yhx[xX2 b qI]:=CM Mv
def xyd (R):BF xYV[R.length+2]:=JP
def xtg (R):uO xYV (xYV).length 2=R:=Sc xyd Rt
inductive xli (vs:SC) (H:Hp) (Q:VK) (RW:XK):Prop
 |mk (a:RA) (B:LE) (h0:vs=Dl) (h1:Α=ve) (h2:xEG) (h3:xGz) (h4:Ja[JJ[.bl[D3[ü xQP] B]]]):xli Ã
def xac:XV Jy Jy xtt:=Uf
def xit {f fW:RA}(F:Ρ zrh Jy)(Wc:FL zfC Jy zcj)(Y:xLd C):BY 8 Jy xli:=by
 show(BA xac[λ RO A outer st H vs Q E hr h=>?_],ye a B rfl hB ã k,hu=hr.units,kL[yG[xjf hu][fZ[xq5 Wc Y] Wc[Xc AB xYP]] AB] (ô,a,Á,xWQ,UV l hn),[xcQ],ω s1[HP xQP hn] (l,xQP,į,λ b z=>qW[KA z],JW[Ji HN] hl,λ l2 H2 n2 s2 h2=>?_),hB=xPz hB,xDR io hB,oS (Á,l2,a,Å,RV.of h2,xWQ,?_)[BL[D3[qc[ü xQP]][B.map ya5]][D3[ü xQP] B][decide_eq_decide.mpr[xJ6 zlC]]][HG Gg])
def xa6 (r a):Fh r [vN a]=AY[xxf r]:=by
 induction r with
 |zero=>rfl
 |succ r ih=>show Jm LF LG ih
def bt8 (hb:qB)(hi:xOg i):wY[8*i]=R[(i)]:=by
 show Θ h[xoB hb[M8 i] hi] e[(R.take[i+1]).drop i=[R[(i)]]][by rw [xvD[JX hi],List.drop_left'[sr J7]]]
 rw [e,xuv,xz,show i.succ-i=1 by show Cn[px zbh Η AZ[NL.K' x9x]][El Η Δ zbU τ],xu5,xu5] at h;show(Ed,[h],Hf bt[show D1-(8*i+8)=8*(R.length-(i+1)) by show gH[ET [_,_,_,_][Hi[A7 x8l]][xDO V2 xyL] BV[dY τ][DF [_,_] x8A BV xYs BV[dY hi]]] [_,_,_,_][Hi[yI V2]][.a[A7 x8l] xyL] BV τ[dY[mn Tm hi]]])
structure Rdr (K:Frag)(mg:Τ)(C:RA):Prop where
 Y:WZ
 T:xT4
 m:mg "BitReader"=Ff
 init:Ij[yky xsQ/\Ha Jaj/\TY]
 take:aW C zem pi xBw
 left:gP ze4
 atend:gP zof xsW
 need:x40 zdS
 size:yfO zdU
 ones:Ι ze7
 bits:Ι zjs Jam
def Rdr.tk (Z:xFa):Ij[Me K C zem pi xBw Ò/\∀P w base,xyS xBw[xrZ C]]:=by
 show(xBh Ò Tk Z.take,BO L Z.left W Z.Y.whole,vV S Z.size zeL Ba Z.bits,π,Iv Ò Tk[λ _ _ _=>xoX Tk.F S W Ba O L Z.T Z.Y.X])
def _root_.K26.Sd.keep (h:xUg)(k:∀c o,Μ=LT->(c=p\/c=d)->Bo=LT):xQH H' t:=by
 show(x4Z hp hd B_ h,Iv[UT[Yq hp rh]][Yq hd xWy] B_)
inductive xkI (C:RA) (vs:SC) (H:Hp) (Q:VK) (RW:XK):Prop
 |mk (o r d:RA) (x:V) (R:LE) (n:Nat) (h0:vs=[yS,x5,FY,x]) (h1:xLl) (h2:wu) (h3:yhz n) (h4:tJ[B1=Bc[R.take n]->xJA[8*n]->(∀c o,Μ=LT->X6->Bo=LT)->BD]):xkI ä
def xhZ:XV Jad Jad xpL:=Uf
def xer:xEk ["step","reader"]:=Z8
def xdN (C:RA):TE:=xr0 C "take"[xrZ C] [] E0 xXs[rT[xw 8]]
inductive xj7 (C:RA) (H:Hp) (r:RA) (d:RA) (R:LE) (l:RA) (i:Nat) (ys:SC) (σ:St) (H2:Hp):Prop
 |mk (v0:EE) (h0:σ=[v0,yo]) (h1:yhz i) (h2:ys=AY xMh) (h3:pG=oZ) (h4:xCj H2[8*i]) (h5:∀c o,Μ=LT->X6->Zt=LT):xj7 C H r d R l i ys ë
def xnk (F:x53 zsw)(Z:xFa):xyR Jad[xkI C]:=by
 show(Ds Z.Y.X,vc3,DW xhZ[λ RO A outer st H vs Q E hr h=>?_],(o,r,d,x,R,n,ý,Sl,hnR,k)=h,CY[Cj[xaz (js:=[none,some 1]) rfl
  (rfl,Z8,Z8,vc1,DB ?c1,veB)
  (xJx Jk)[λ fp s H=>xSW xer]
  (λ fp s H=>x4g hr)]])
 case c1=>
  rcases hx with hx|hx
  ·show(SB m'[((x,NameKind.cell))∈([xOc,xxs "step",xO1 "reader"]:xBl)] xQj e[x="reader"][by simpa using m'],A6 Dy)
  ·have m':((x,NameKind.free))∈([xOc,xxs "step",xO1 "reader"]:xBl):=xQj;simp at m'
 case c2=>
  show ja zhj
 show(Io È By[by lia][by lia] gQ,(vcQ,hb,_)=xJg,AH Ui[E8 r] zdZ[xhG (g:=ou) (te:=xdN C) (lo:=0) (l:=l) (k:=iE n)
  (xj7 C H r d R l)
  (Io zgr Bz ae[hR.keep λ c o e _=>kr][λ c o e _=>kr]) zdp])
 ·rintro i ys σ H2 hi ⟨v0,rfl,hiR,rfl,UQ,T3,kp⟩;show((hin:i<n)=yeG,((dx,U3),_,_,_)=id T3,(s_,ą,U3,bW,r,d,R,_,f_,T3,Z9,DE [_,_,_][EZ x8A][wy FG] xYs BV[dY hnR][dY hin],Ο H3 SN Sv))
  ·show((Ue:xOg i)=Vx zee hnR hin,[bt8 hb Ue],SL hRi[B8 R R[(i)]] xCY[FD xJs[cz[by show(Fn J7,Ej [_,_,_][AV xH4][ZA Φ] Cg Sl[JN hin DU])]] _ Ue[BH[xvD hRi] J8] ae ?_[λ c o e n=>?_]])
   ·show(SN.keep λ c o e hc=>?_,W8 xRu)
   ·show bp[Gs[OT n] n]
 rotate_left
 ·exact λ x σ H A B h z=>lI
 ·rintro σ H A B h ⟨v,e1,a',dx,fs,e2,e3,e4,p',d',R',t',s',e5,e6,e7,z',z⟩;exact(v,e1,a',dx,fs,e2,e3,e4,p',d',R',t',s',e5,e6,e7,z',λ H' z1 z2=>wK[z H' zbf])
 ·rintro ys σ H2 ⟨v0,rfl,hn,rfl,UQ,T3,kp⟩;rw [KG] at UQ T3 hn;exact yg H2 nl UQ T3 kp
def xby {v:α}(h1:G5)(h2:xFQ b)(h:HC xs[mX b] v):xPq xs[-qI]:=by
 show Bj[UF[xVk[-Wd]][mX b]][by
  show yX Ĩ[Kh[by lia]][Kq[by lia]];congr 1;lia]
 unfold atI;show Vz h
def æ (B:LE) (b:Nat):DQ LE
 |0=>B
 |n+1=>xRD++[yU xRD[xWH B n-b]]
def xzL (B)(b):∀n,BF xRD[xB6 n]:=λ n=>by
 induction n with
 |zero=>rfl
 |succ n ih=>show Jm æ JP ih
inductive RnR (R:LE) (e:Nat):DQ[LE->RB LE]
 |done {t:Nat} {S:LE}:xHy e->xJh e t S t S
 |run {t t':Nat} {S S':LE}:xEF->sj[t+14]->xxo[xRI+1]≤e->xJh e[t+14][S++x4m xRI 1[wY[t+6]]] t' S'->xJh e _N
inductive CpR (R:LE) (e:Nat):DQ[LE->RB LE]
 |done {t:Nat} {S:LE}:xHy e->xK5 t S t S
 |sg {t t':Nat} {S S':LE}:xEF->sj[t+9]->xCR 1=0->xK5 zri t' S'->xK5 _N
 |cp {t t':Nat} {S S':LE}:xEF->sj[t+13]->xCR 1=1->xxo[HX[t+9]+3]≤e->AJ[wY[t+1]]->Yc[wY[t+1]]->xK5 zmV t' S'->xK5 _N
def CpR.le (h:xK5 _N):x5F e:=by
 cases h with
 |done h=>exact wc
 |sg h=>exact xDW
 |cp h=>exact xDW
structure Rds (K:Frag)(mg:Τ):Prop where
 X:u6
 room:Ι ziJ xHh
 lay:Ι zi8 Jan
 add:Ι "add_copy" xtx x6G
 ahead:Ι zsx j6
inductive xkA (vs:SC) (H:Hp) (Q:VK) (RW:XK):Prop
 |mk (a:RA) (xs:SC) (s e:Nat) (h0:vs=[Aj,Jn,vN e]) (h1:Α=Gq) (h2:xWp s≤e) (h3:xEE):xkA Ã
def xnj:XV xHh xHh xrD:=Uf
def xk8 (F:Ρ ziJ xHh)(Z:Vd):xyS xHh xkA:=by
 show(BA xnj[λ RO A outer st H vs Q E hr h=>?_],Hv ċ s e w_ he k,DR[d8 cZ[Ee x8Q χ] Ε pX] (vcw,Ø,_V,xXK k),xOJ,JE[aX [_,_,_] x8K sH he Ua])
inductive xmb (vs:SC) (H:Hp) (Q:VK) (RW:XK):Prop
 |mk (l:RA) (B:LE) (b z:Nat) (h0:vs=[Hm,yP,vN z]) (h1:Vw=ve) (h2:G5) (h3:pO b) (h4:Hc[xB6 z]) (h5:xBx[cg H l[xX6 z]]):xmb Ã
def xlv:XV ["signs","back","size","step"] x6G xtx:=Uf
inductive xkc (H:Hp) (l:RA) (B:LE) (b:Nat) (z:Nat) (j:Nat) (σ:St) (H2:Hp):Prop
 |mk (v3:EE) (h0:σ=[zt,YI,Ν z,v3]) (h1:H2=cg H l[xX6 j]):xkc H l B b z j ë
def xk0 (F:Ρ "add_copy" xtx x6G)(T:u6):f7 x6G xmb:=by
 show(BA xlv[λ RO A outer st H vs Q E hr h=>?_],(l,B,b,z,vbz,vbg,hz,k)=h,DR[ag[zU[xrO zj2 Jk] 3 xlv.nd[xJ5 AB[Hh[xp5 xpk χ]]]]][Io È[Ψ z][by lia][by lia] ?_])
 try dsimp only
 show Ζ KG[xrP (D:=Ym) (xkc H l B b z)[Dt zgr] Î]
 ·funext c;by_cases e:c=l
  ·show(DX,Sc ae hB)
  ·rw [ak e]
 ·rintro j σ H2 hj ⟨v3,rfl,rfl⟩;show Gr hlen[xzL B b j] hg[xWH B j-b<xWH B j][Vx [_,_,_][xSB Ey] EA SH[NL.K'[Dd [_,_,_,_] xCx JA Ę UE ycO]]] (Á,Zy ae,ô,l,_,_,vN[yU[xX6 j][xWH B j-b]],Ú,xG0,xby SH[y8[zg [_,_,_,_][A7 Hb] EA UE ycO]] ?_,?_)
  ·show zm JO KS Kb[JX hg]
  ·show(Υ[JG l ă ae[cz[y8[HK [_,_,_,_][uk[wz SZ]][Yb[C7 mJ]] Cg hz hj[JQ hlen]]]] ?_][Dt[yfo[IF+Lw]] rfl],Jm eQ æ J8)
 ·show(xHi ë v3 rfl,k)
inductive xmc (vs:SC) (H:Hp) (Q:VK) (RW:XK):Prop
 |mk (x:RA) (W:LE) (h0:vs=xSC) (h1:HH=cj) (h2:∀l,DP->qM x9C):xmc Ã
def xg3:XV j6 j6 xp6:=Uf
def xpo (F:Ρ zsx j6)(T:u6):f7 j6 xmc:=by
 show(BA xg3[λ RO A outer st H vs Q E hr h=>?_],ze x W hx k,xLz[xzB[Bv gq AB dj] yw[x6J xvH Ly vk]][vG[bD[Hn x[BZ hx][λ l nl=>yg nl]]]])
inductive spLay (vs:SC) (H:Hp) (Q:VK) (RW:XK):Prop
 |mk (l:RA) (S:LE) (b z e:Nat) (h0:vs=[Hm,yP,vN z,vN e]) (h1:Vw=ud) (h2:Hc e) (h3:G5) (h4:Yc b) (h5:xxo z≤e) (h6:xBx[cg H l[æ S b z]]):spLay Ã
def xjH:XV Jan Jan xwt:=Uf
def xjn (F:Ρ zi8 Jan)(Z:Vd):xyR Jan spLay:=by
 show(BO Nr Z.room Ac Z.add,Ty GN[xk8 Æ Nr Z] zmo,BA xjH[λ RO A outer st H vs Q E hr h=>?_],(l,S,b,z,e,vb3,he,vbg,hz,k)=h,xQ,ZH[Iz[Je GN Nr 0[jZ 2 3]][vh zqN pX[qh[IX GA Si Ac 0[jZ 1 2]]]]] (ô,l,_,z,e,vb3,Ex hz,?_)[Tf[VT VU] pz])
 ·show BU h0[b=0][Qu ylS][xNo h0]
 refine(Ï,l,Á,BZ hl,Ć,xIF pz)
 ·show rO Jq JO (aX zcq AO UE Ua).elim
 exact(ô,l,S,b,z,vb3,vbg,IY zdc xYo D5 he hz,k)
inductive xkJ (C:RA) (vs:SC) (H:Hp) (Q:VK) (RW:XK):Prop
 |mk (o r d:RA) (x:V) (R T:LE) (n t':Nat) (h0:vs=[yS,x5,FY,x]) (h1:xLl) (h2:xJh n ż t' T) (h3:wu) (h4:tJ[B1=DO->xJA t'->(∀c o,Μ=LT->X6->Bo=LT)->BD]):xkJ ä
def xs1:XV ["self","reader","count","before","signs","size","sign"] Jad xp4:=Uf
inductive xkd (C:RA) (H:Hp) (o:RA) (r:RA) (d:RA) (x:V) (R:LE) (T:LE) (n:Nat) (t':Nat) (l:RA) (m:Nat) (σ:St) (H2:Hp):Prop
 |mk (v5:EE) (v6:EE) (S:LE) (t:Nat) (h0:m=x95 n) (h1:xJh n t S t' T) (h2:σ=[zr,yo,Xt,xIf,zt,v5,v6]) (h3:pG=ud) (h4:xCj H2 t) (h5:∀c o,Μ=LT->X6->Zt=LT):xkd C H o r d x R T n t' l m ë
def xgQ (F:x53 zsy)(Y:Vd)(Z:xFa):xyR Jad[xkJ C]:=by
 show(Es X Z.Y.X,vc3,(_,_,Nm)=Y.room,π,GM=xk8 Æ Nm Y,DW xs1[λ RO A outer st H vs Q E hr h=>?_],(o,r,d,x,R,T,n,t',ý,hk,Sl,k)=h,xFn[Em 4 xs1.nd yw[xR8 xCv Ε[Eh 5 xs1.nd[Rd[x4g hr]][zX 6 xs1.nd[x4g hr][aD[Je GM Nm 4[jZ 5 2]]][qh[x1G AS[B9[xZX[vW 6] EH]]]]]]] AS],(vcQ,hb,_)=xJg,π,vcB,veA,Υ Gw[Dt[xkd C H o r d x R T n t' l] (n,vbE,[],0,rfl,hk,į,vc2)])
 rintro m σ H2 ⟨v5,v6,S,t,rfl,hk,rfl,UQ,T3,kp⟩;refine(vbl,xQp,_V,ux h h)
 ·show(x4,qv h' Jq h');clear fd F Y Z X w_1 w_2 Tk GT' GT TR w_3 w_4 Nm GM hr hR Yt hb le dx0 VN;cases hk with
  |done e=>show JE[aX zb1 Δ x9o dC]
  |run q1 q2 q3 q4=>
  clear h h';refine xUn;dsimp only;show(x6g YU zgK rS,(s_,vbK,U3,Fc,r,d,R,t,6,vb1,Z9,Bg [_,_] x76 BV xPP zcY,Ο H3 SN Sv),IZ[xEL ZV],HI[Ψ xRI+1=xV xRI][ua Ts Ts])
  try dsimp only
  show CS;generalize hz:xRI+1=z at*;show(x6g US zgA rS,IZ (vbX,Uj,Fc,r,d,R,t+6,f_,SN,Z9,Bg [_,_] x76 BV[nA xPP] zcY,λ H4 S8 UO=>ZV));generalize wY[t+6]=s at*;show(ω h4l[cI xJs Ui] rS,IZ (ô,l,_,z,n,rfl,h4l,y8[HJ _z _z q3],ZV),Hn[Zy h4l] zqd,XM s4[DI xED n4] h44[(EN H4 l4 xED) l4=Ak xED],Cc h4l'[Fp h4l] nl4[E8 l4][ai h4l n4] hR5[xCj[EN H4 l4 xED][t+14]][S8.keep λ c o e _=>Fp e],Fx Wu[∀c o,Μ=LT->X6->(EN H4 l4 xED) c=LT][λ c o e z=>Fp xTR][EN H4 l4 xED] H5,(Á,vca,h44,by lia,by lia,vee),[KG,xa6],XM s6[HP[ycj s] n6] h66[rL H5 l6[ycj s] l6=Bc[ycj s]],ω h6l[ij h4l'] (l,l6,Å,h6l,h66,bQ[by simp;show IY zdc[ZA XL] Cg Sl q3],_,vb5,q4,rfl,xD0,hR5.keep λ c o e hc=>?_,λ c o e z=>?_))
  ·show([JP,K2,-hz],Mp q1[MV gk])
  ·show Κ xRu[ij e]
  ·show bp[ij[Zo e z]]
 ·cases hk with
  |run q1=>show Yl zhO
  |done e=>exact xP3[yg H2 nl UQ T3 kp]
inductive xjX (C:RA) (vs:SC) (H:Hp) (Q:VK) (RW:XK):Prop
 |mk (o r d x:RA) (R W S:LE) (n t':Nat) (h0:vs=[yS,x5,FY,Dh]) (h1:xLl) (h2:HH=cj) (h5:xWr BJ 0 W t' S) (h6:wu) (h7:V0) (h8:tJ[B1=Bc x3f->xJA t'->(∀c o,Μ=LT->X6->Bo=LT)->BD]):xjX ä
abbrev xdZ:C6:=["self","reader","count","before","signs","begin","end","back","size"]
def SJ:XV xdZ Jad xrE:=Uf
inductive xkP (C:RA) (H:Hp) (o:RA) (r:RA) (d:RA) (x:RA) (R:LE) (W:LE) (S':LE) (n:Nat) (t':Nat) (l:RA) (m:Nat) (σ:St) (H2:Hp):Prop
 |mk (v7:EE) (v8:EE) (S:LE) (t:Nat) (h0:m=x95 BJ) (h1:xWr BJ _N) (h2:σ=[zr,yo,Xt,Z0,zt,yd7,Ν BJ,v7,v8]) (h3:pG=ud) (h4:xCj H2 t) (h5:∀c o,Μ=LT->X6->Zt=LT):xkP C H o r d x R W S' n t' l m ë
def xhr (F:ynO xrE)(Y:Vd)(Z:xFa):xQs Jad[xjX C]:=by
 show(Es X Z.Y.X,vfg,Ty zg9 zmD,Uv tl zjL,DW SJ[λ RO A outer st H vs Q E hr h=>?_],(o,r,d,x,R,W,S',n,t',ý,hx,hk,Sl,hW,k)=h,SB zec zcw,xFn[DJ 4 SJ.nd zjt SJ.nd xCv[Em 6 SJ.nd[Ee EH Ε][xR8 xCv Im[Uc zsz[DJ 7 SJ.nd Mh 8 ztu[qh[Je GL La 4[xEC 7 8 6]]]]]][xAi AS EH]]],(vcQ,_,_)=xJg,π,vcB,veP)
 try dsimp only
 show(Ζ JO Gw,vdQ)
 try dsimp only
 show xO e0 Gw[Dt[xkP C H o r d x R W S' n t' l] (n,vbE,W,0,vfM,į,vc2)]
 rintro m σ H2 ⟨v7,v8,S,t,rfl,hk,rfl,UQ,T3,kp⟩;show ω hle2 zgW
 ·show(x4,vem);clear h h';show SL t1 zn5 xUn;dsimp only;show(vQ zk6 zgA,XJ=xJs);clear fd F Y Z X w_1 w_2 Tk GT' GT TR w_3 w_4 La w_5 w_6 Ao GA GL tl hle hr hR hx TQ Si Yt le dx0 VN e0 YU U3 t1;cases hk with
  |done e=>show JE[aX [_,_,_][G8 AO][HV AO] RQ dC]
  |sg q1 q2 q3 q4=>
   show(xO q3 zky,ω h4l zkv)
   ·show kh x8T
   ·show(S8.keep λ c o e hc=>?_,W8 xRu)
   ·show bp xTR
  |cp q1 q2 q3 q4 q5 q6 q7=>
   show(vfN,vej,Gj zqi)
   try dsimp only
   show([ez],ω h5l[Zo x0U Ui] (vcr,l,S,vfz,BJ,rfl,vfc,q5,q6,q4,_,vb5,q7,į,vdc))
   ·show Sc xzL x87
   ·show((show t+1+8+4=t+13 by show pI xEc xCw xCw xEc)▸hR5.keep λ c o e hc=>?_,W8 xRu)
   ·show bp[Zo xTR z]
 ·cases hk with
  |sg q1=>show Yl zfg
  |cp q1=>show Yl zfg
  |done e=>
   show(xRY,SL ec znn)
   try dsimp only
   show(uN,ω s9[HP x25 n9][Fl l9 ?_ znF λ c o e n=>xE9[OT n]])
   cases e:H l9 with
   |none=>rfl
   |some o'=>
    by_cases z:l9=r
    ·show(TL,vfk,π,A8 YV n9 n9)
    ·show A8[OT z] n9 n9
universe K26.Ck
namespace K26
open PySem L2 QQ W17 W16 BP
seal PE PA PS Ó PT PW PG PI
abbrev xwI:RM:=zC 33 3
inductive ş (C:RA) (vs:SC) (H:Hp) (Q:VK) (RW:XK):Prop
 |mk (p:_) (d:_) (R:_) (t:_) (h0:vs=Cw) (h1:xUg) (h2:zw t):ş ä
def xcb:jB xwI:=Uf
def xmA (F:Cb zhu xwI)(T:xT4):Zr[ş C]:=by
 show(DW xcb[λ RO A outer st H vs Q E hr h=>?_],(p,d,R,t,veK,q)=h,xLz B4 (Ě,vcM,q))
def Sd.same (h:xUg)(s:AA):xQH H' t:=by
 show(x4Z zdA h,Iv[UT[FV h1]][FV h2] h3 h4)
universe K26
namespace K26.C
open PySem L2 QQ C9 C10
seal PE PA PS Ó PT PW PG PI
structure Mk2 (K:Frag)(mg:Τ)(C:RA):Prop where
 X:FW
 Y:Lns Â
 need:ynV xup
 cof:Ι zi4 Jaf
 keep:aW C zlR xnP ygz
 R:CRc ê
def ñ (F:ykx á)(M:Mk2 ê):BY 34 ycV x4Y:=by
 show((X,Y,(_,_,N),(_,_,O),(_,_,Ke),T)=M,Ty GO[xjR Æ O N Y] GK[xb5 Æ Ke.F T X],DW zma,(p,dx,a,L,_R,ha,G,q)=h,xQ,DR[bO xow[bO xow[ag[x2E[xtL Z7 Y.X.enum[B9[jO GO O 1]]][xIe[mF 2 î.nd[mF 3 î.nd xz8]]][ig[xse[xbH Ab]][ad[xoh xYa B4 Ab Ε rfl]
    (qh[xQZ Ke GK Si[IB sf sf]])]]]]]] Gw)
 intro d nd;show((V9:p≠d)=xOn nd,Dp (va3,vbn,(Κ V9 hp),vcm,xFC,Al),xCs)
 intro e ne;show(Df npe p e[by
  show(mD,A8 ae ne ne)] nde[d≠e][by
  show mD;rw [iz,ae] at ne;clear fd F X Y w_1 w_2 N w_3 w_4 O w_5 w_6 Ke GO GK hr Si;cases ne],Dp (p_,(xLy npe ae),vbj,rm,Al),(neH:Bf e)=vH[ak npe.symm][ak nde.symm] ne ne)
 try dsimp only
 show([kB],SB kp[∀b o,Gk=LT->X'->ZW zen b=LT][λ b o ez hn=>by
  show([ak hn,xJI ez neH,ak hn,xJI ez nd],ez)] YX[eC[ZW zen p] xF] ae,jC Yt[UF[ZW zen d] iF][by
  rw [iz,ak nde,iz,ae]] he0[UF[ZW zen e] iF][xLy npe.symm ae][ZW zen] H0,SL nap zoE[VY L[Kd a[DY ha nap] G.most] G[λ l xs H1 nl s1 T2 hC1=>?_]],Df Up l p[TD[Ek YX zcJ]] VE WR[TD[Ek Yt zcJ]],SL nle[E8 e][TD[Ek he0 zcJ]][nj l[RV.of T2][xjp[λ i σ H2=>∃v2 v3 k1 k2,σ=[Bh,Cs,v2,v3]/\eC[H2 p] xF/\UF[H2 d][.dT k1]/\UF[H2 e][.dT k2]/\xEy i k1/\xEz i k2/\pG=Gq/\yt H2 xB3/\
   ∀b o,Gk=LT->X'->H2 b=LT] (vbE,[],vbB,FQ YX,FQ Yt,FQ he0,xbo L,xcs L,T2,hC1,λ b o ez hn=>FQ[kp b o ez hn])[λ i σ H' _ z9=>by show((_,_,_,_,_,_,_,_,_,_,z,_)=z9,jV z)] Î]])
 ·rintro i x t σ H2 hx nt ⟨v2,v3,k1,k2,rfl,Sw,hd2,he2,hT,hB,Su,hC,U6⟩;show(SB Ue[xQX i xB3][C8 hC.1[rB hx]] hiL[jG i][by
   unfold codes at Ue
   rwa [xvJ] at Ue],xFD hLle G.le st[xSM [fV,x]] (t,Á,ygk,vbG,ø),Ew ot[hC.2 i x _ hx xCY] hpT[Xd Sw] hdT[Xd hd2] heT[Xd he2],Cc hlT x9F hCT[yt _ xB3][hC.keep λ t2 ys ez=>Xd ez] othT[∀b o,Gk=LT->X'->p7 t [fV,x] b=LT][λ b o ez hn=>Xd[U6 b o ez hn]],xNq H2 t [fV,x] H3);cases eo:(xB3)[(i)] with
  |none=>
   show wL eo ot ex[xAr x] ot;subst ex;show(SL h0[∀s,B8 L s->¬cw][λ s hs h1=>by
    show uJ[xkQ G hs h1] xCY eo;clear fd F X Y w_1 w_2 N w_3 w_4 O w_5 w_6 Ke GO GK hr hp ha Si R1 ne H0 kp YX Yt he0 nap H1 nl s1 T2 hC1 Up nt hs h1;cases this][Fu ĝ Br],(_,_,k1,k2,rfl,hpT,hdT,heT,xb9 hT h0,xcj hB h0,hlT,hCT,othT))
  |some c=>
   rw [eo] at ot;show(hcs=xgL G[by rw [xCY,eo]],xXH ex hu[hC.keep (H':=H3) (λ t2 ys ez=>by exact(st _ _ ez))|>.2 i x _ hx (by rw [JX Ue,eo])]);clear hx ot;subst ex;show(Υ[Fu ĝ VU] rS,IZ (vby,ę,hpT,vdx,Á,vbs,a_.t (b:=u) (k:=kk sL pH) hdT hu[AI[show _≤300 by have:=hT.1;show Ej [_,_,_][ZN JA][C7[EI 300]] xxY hiL[JN hLle this]]],ZV),Df nud u d[aN hu hdT B0] hu4[Hl[upd H3 d[.dT[putK k1[kk sL pH] fV]] u] [vN sL,vN pH]][Κ nud hu],Υ[qr È p dx zqp[xTl Z8 Z8] ?_] (Á,u,Û,Sr.of hu4,zq,Á,u,Û,Sr.of hu4,zp,?_),xa hc12[zi pH][xsk G hcs.1] (p,d,e,dx,sL,pH,k2,rfl,(Κ V9 hpT),(Κ nde.symm heT),(by have:=hB.1;show Ej [_,_,_][Gi 12 Η[JB 12 SZ]][JB 12[Gi 12 xxY[rQ 12]]][.n 5000][JU 12 hiL][xJR 12 hLle this]),hc12,λ H5 k2' he5 XS hv5 oth5=>?_) (_,_,_,k2',rfl,xYW zqp npe,xYW _ ae nde,he5,à,xYW _[Κ VE hlT] nle,?_,λ b o ez hn=>?_))
   ·have:=xdQ hT hcs.1[Az hcs];rw [<-Et hcs] at this;show xB4
   ·show(Id hB hcs.1 hc12 XS[UV a b],C8[Et hcs][hv5 a b])
   ·show(Υ[hCT.keep[Ο t2 ys ez]][xYW j_[aN ez heT B0]],Κ[aN ez hdT B0] ez)
   ·show(ω h3[othT b o ez hn][xYW j_[ai ez neH]],uC ez nd h3)
 ·rintro σ H2 ⟨v2,v3,k1,k2,rfl,Sw,hd2,he2,hT,hB,Su,hC,U6⟩;show HI[xXc L.length][by show([hC.1],Hf codes xvJ)]
  rw [e1] at hT hB;exact q d e H2 nd neH[zu Sw (k1,hd2,hT) (k2,he2,hB)] U6
def xeB (h:qJ H)(h':Sd B H r g R t):p≠r/\d≠r/\e≠r/\p≠g/\d≠g/\e≠g:=by
 show(TL,((dx,h1),(k1,h2,_),(k2,h3,_))=h,((dy,r1),r2,_,_)=h',π,fH (aN h1 r1 ?_,aN h2 r1 B0,aN h3 r1 B0,aN h1 zi2,aN h2 zi2,aN h3 zi2) z);injection z with _ _ z
 unfold fC fR at z;show(xG1 z z,xG1 z z,xeo z)
def xu8.but (h:qJ H)(h':Sd B H r g R t)(s:∀c o,Μ=LT->X6->Bo=LT):qJ H':=by
 show((n1,n2,n3,_)=xeB h h',h.keep λ c o ez hc=>s c o ez[by rcases hc with rfl|rfl|rfl<;>assumption])
structure Rds (K:Frag)(mg:Τ)(B:RA):Prop where
 X:FW
 whole:x1U
 size:yfO zdU
 ones:Ι ze7
 bits:Ι zjs Jam
 take:aW B zem pi xBw
 left:xxB B ze4
 place:xxB B zhu xwI
 R:CRd zb4
inductive Ŧ (C B:RA) (vs:SC) (H:Hp) (Q:VK) (RW:XK):Prop
 |mk (p d e r g:RA) (L R:LE) (t q s:Nat) (h0:vs=[Dc,x5]) (h1:qJ H) (h2:vL) (h3:Sd B H r g R t) (h4:xQI xYA xyM) (h5:ZX[Sd B H' r g R[t+s]][(∀c o,Μ=LT->X6->Bo=LT)->WD q]):Ŧ C B Ã
inductive xlt (C:RA) (B:RA) (H:Hp) (p:RA) (d:RA) (e:RA) (r:RA) (g:RA) (L:LE) (R:LE) (t:Nat) (m:Nat) (σ:St) (H2:Hp):Prop
 |mk (s:Nat) (h0:m=(D1-t)-s) (h1:sj[t+s]) (h2:(∀j<s,x03[x5v j])) (h3:σ=[Bh,yo,Ν t,Ν xCC,xSs]) (h4:Sd B H2 r g R[t+s]) (h5:qJ H2) (h6:∀c o,Μ=LT->X6->Zt=LT):xlt C B H p d e r g L R t m ë
def ok_thing (F:Cb zor xsV)(T:CRc ê)(D:Vd B):xyR ydb[Ŧ C B]:=by
 show(TL,(X,(_,_,W),(_,_,S),(_,_,O),(_,_,Bi),(_,_,Ta),(_,_,Le),(_,_,Pl),TB)=D,π,zx GT[xoX Æ Ta.F S W Bi O Le TB X] GL[xte Æ Le.F TB X] GP[xmA Æ Pl.F TB],DW xuC[λ RO A outer st H vs Q E hr h=>?_],(p,d,e,r,g,L,R,t,q',s',rfl,hC,G,hR,hD,k)=h,rU _X[DJ 2 xuC.nd[x7V χ Pl GP Si] 3 xuC.nd aj[zX 4 xuC.nd aj[xHq[xse[xds ztm B4]][vB bM[x7V χ Le GL Si] aj xwv[Eh 3 xuC.nd[ap xnC[rR xtY Ab][xUP TB.cl Ta GT hr yc]][qP 4 xuC.nd xYz]]]][xw1[xse[xib ztm B4]] xwv[Cj[xa8 xYa B4[aT[jZ 3 4]] WJ]]]]],Gr ht hR.le hrl[BF xYA[D1-t]][by rw [Kc,xzX]] Gw,yh8 VN hR.ob,Dp (s_,ą,VN,bW,r,g,R,t,ý,Al),YM,YM,Υ Gw[Dt[xlt C B H p d e r g L R t][qr _ 0 rfl[Bg zdI BV xIR BV ht][uo ÿ hj[Au x8f]] hR hC[λ c o z _=>z]]])
 rintro m σ H2 ⟨s,rfl,hs,hbg,rfl,T3,hC2,U6⟩;show(ZZ hus[BF xDG s][xJ1 J7 hrl],(k2,YO,U4)=hC2.bg,Uv dy Sw hC2.ob,Zv zdK[UV u nu],XM su[jN [eF,Jn] nu] hu[Hl[p7 u [eF,Jn] u][xY9[kk xCC s]]],Ty SN[T3.same su] hC3[hC2.same su],(oth3:∀c o,Μ=LT->X6->p7 u [eF,Jn] c=LT)=λ c o z hn=>xLr[U6 c o z hn],Ty hk3[xLr YO] SW[xLr Sw],xNq H2 u [eF,Jn] H3,(va3,dy,vcd,vbj,xkn _ _,e,Á,Ws.t hk3 hu,r_),FR hw[xcI U4 xDG] hus hw);by_cases c1:x03 xDG
 ·show xO[hw.mpr c1] VU xUn;dsimp only;show(SL hbg'[∀j<s+1,x03[x5v j]][λ j hj=>by
   show AD j s
   ·exact hbg j z
   ·show DA j s[Cn[iO zdz hj][xNQ zcH z]]
    clear fd F X TB w_1 w_2 W w_3 w_4 S w_5 w_6 O w_7 w_8 Bi w_9 w_10 Ta w_11 w_12 Le w_13 w_14 Pl GT GL GP hr hC hR Si dx VN H2 T3 hC2 U6 YO U4 Sw u nu su hu hk3;show gB c1] rS,pd US hr3' SN.ob (vbX,hr3',bW,r,g,R,t+s,rfl,SN,Ŵ,Hd))
  ·show(SB h0[D1-(t+s)=0] ygA hn[xQI xYA .none][λ j hj=>hbg' j[A3 hrl hj[VZ [_,_,_,_,_,_][qN[A7[Hi xYq]]][qE[Il[.a[qN EA] xyL]]] Η[JQ h0] hj[JN zob]]]],xXj yeQ)
  ·show((h0:t+s<D1)=by
    show AD[t+s] D1
    ·show xKb
    ·show Yl[xve.mpr[show D1-(t+s)=0 by show Cn[ET [_,_,_,_][EZ xOB][.a mJ FG] Hg z[DF zhq BV Ey BV hs]] xAS]] h1,IZ ZV,rq b SH UE[xc7 h0],tR rS,SB hs12[zi s][by
    show(TL,(q1,s1,z1,z2,_)=c1,π);have:=xsk G z1;show Ej [_,_,_][A7 x8b][AV[vd 2 12]] f6[JQ hus.symm][JN z2 this]] es[xCC<2^s][by have:=BP.xzV xDG;rwa [hus] at this],xa es2[2^s≤2^12][xr hs12][VY È (Au[IE[Xo [] Hg AZ]],Au[IE[Xo [] AZ BB]],by lia) ?_] (vbX,hr3',bW,r,g,R,t+s,1,rfl,SN,Au[Xo [] AZ xCu],h0,Ο H4 S8 oth4),IZ[xEL ZV],SB hb3[b.toNat<2^1][by cases b<;>decide] e1[Builtin.bitOr[Tl xCC*2^x5m][Tl[K26.bt R[t+s] 1]]=Tl[yiW[s+1]]][by
    show yM[Builtin.bitOr _[Tl[xBM/2^(D1-(t+s+1))%2^1]]=_] UE;have:=xsu xCC b.toNat 1 hb3;show([SH,BP.num_snoc],xJ1[Js[Ih][Tl 1]] this)])
   try dsimp only
   show(xFl xEo,E7[Ψ s+1=xV s][ua Ts Ts])
   try dsimp only
   show Sc e2 (_,Mp[Nat.lt_sub_of_add_lt[MM t s▸h0]][My s],s+1,rfl,h0,hbg',rfl,S8,hC3.but SN oth4,λ c o z hn=>oth4 c o[oth3 c o z hn] hn)
 ·show([Bool.eq_false_iff.mpr[TD[c1[hw.mp z]]]],Dp x98,xBh k1 hk1 hT1 hC3.th,EF US hr3' SN.ob tw1 tw2[xbR hT1 xDG],π);rw [hus] at tw1 tw2;show(tR rS,Zv zdK[UV v nv],XM sv[jN [eF,Jn] nv] hv[Hl[sG H3 v [eF,Jn] v][xY9[kk xCC s]]],Ty S8[SN.same sv] hC4[hC3.same sv],(oth4:∀c o,Μ=LT->X6->sG H3 v [eF,Jn] c=LT)=λ c o z hn=>sv _ _[oth3 c o z hn],zx hk4[sv _ _ hk1] hp4[sv _ _ SW] WO[sv _ _ hr3'],xNq H3 v [eF,Jn] H4,(va3,dy,Ö,hp4,vdx,vbs,Ws.t hk4 hv,r_));by_cases c2:∃q,fP xDG q
  ·show((q,hq)=c2,[tw1 ġ],IZ[bD ZV],(hn:xQI xYA xyM)=(Bx zl9,hq,hbg));injection yeQ with e1 e2
   rw [e1,e2] at k;show((va3,dy,Ö,hp4,vdx,Ï,tT,UV x nx),ω sx[jN [eF,Jn] nx][nj d ?_[HG[S8.same sx] λ c o z hn=>sx _ _[oth4 c o z hn]]],Jw[Ws.t[sx _ _ hk4][show Hl[sG H4 x [eF,Jn] x][xY9[kk xCC s]] from ae]][tw1 ġ])
  ·show((c3:∀q,¬fP xDG q)=λ q hq=>c2 yaj,Ζ[tw2 c3] VU,BU hn[xQI xYA .bad] (s,Bx zl9,hbg,c1,c3)[nomatch yeQ])
universe K26.C
namespace K26.M
open BP C9 C10 W17
def xb2 (u)(h:t+s≤u.length):num[(x47).take s]=xQg/2^(xOa[t+s])%2^s:=by
 show iY[xv1[u.take t] x47];rw [Ky,Kc] at h1;show(FR h2[xzV x47] Kc h2,(h3:num x47=xQg%2^(xOa t))=by rw [h1,Lx,Nat.mul_add_mod,Mr h2],[xla _[Bx Kc[zg [_,_,_,_][tF JA] xYh h τ]],h3,Kc,Nat.sub_sub,show xOa t=(xOa[t+s])+s by show gH[ET [_,_,_,_,_][Il qZ][xCP xYt] Φ τ[DF zdP XL ST XL h]] [_,_,_,_,_][Il xYt][xCP qZ] Φ τ[DF zdP XL AO XL h],ML,QG])
def xzs (h:n<2^s)(r):num[Jv[xC1 s] r s]=n:=by
 rw [Pw[Sj n s],xzx,Mr h]
def gu (n s)(r):uQ[xC1 s] r s=r:=List.drop_left'[Sj n s]
inductive ItR:LE->DQ[D7->xTv D7]
 |done {L:LE} {ah:Nat} {b:D7}:bB 272->ItR L ah b L b
 |one {L L':LE} {ah:Nat} {b b':D7}:xXT 272->rJ b.length->pk≠7->cU[L++[pk]] pk[b.drop 3] L'->cU L ah b L'
 |rep {L L':LE} {ah:Nat} {b b':D7}:xXT 272->9≤b.length->pk=7->cU zoJ[b.drop 9] L'->cU L ah b L'
universe K26.M
namespace K26.Ck
open PySem L2 QQ W17 W16 BP K26.M
seal PE PA PS Ó PT PW PG PI
abbrev xu7 (r:RA)(H H':Hp):Prop:=∀c o,Μ=LT->X6->Bo=LT
def xyw (C:RA)(H:Hp)(r d:RA)(b:D7):Prop:=∃R t,xCj H t/\b=xPy
theorem xyw.keep (h:oY)(k:∀c o,Μ=LT->(c=r\/c=d)->Bo=LT):xOe H':=Dj R t h e h (R,t,h.keep k,e)
def xyw.same (h:oY)(k:AA):xOe H':=h.keep λ c o e _=>k c o e
def xyw.ob (h:oY):∃dx t,ni r C TZ:=by
 show(TL,(R,t,((dx,h),_),_)=h,π,Ef dx t h)
def xyw.ls (h:oY):∃o,H d=LT:=by
 show(TL,(R,t,(_,h,_),_)=h,π,Qt h)
theorem xyw.upd (h:oY)(h1:E8 r)(h2:WR):xOe[vD l o]:=h.keep λ c o e hc=>W8[by show(Sx hc,xA1 h1.symm h2.symm)]
inductive ţ (C:RA) (vs:SC) (H:Hp) (Q:VK) (RW:XK):Prop
 |mk (r d:RA) (b:D7) (s:Nat) (h0:vs=[x5,Jn]) (h1:oY) (h2:s≤24) (h3:s≤b.length) (h4:ZX[xQ1 xWz][Jc->WD[num[b.take s]]]):ţ ä
def xiE (hb:qB)(h:sj[t+s]):xCR s=num[xLJ xFZ t s]:=by
 show(FR hv[xzW hb] xu5 hv,[xb2 _[Sc K26.C.xzX h],K26.C.xzX]);unfold K26.C.bt;show BH xzx[Mr hv]
def _root_.K26.Ck.Rdr.tkB (Z:xFa):Ij[Me K C zem pi xBw Ò/\∀P w base,xyS xBw[ţ C]]:=by
 show((f,fd,Tk,G)=Z.tk,(f,fd,Tk,λ P w base=>(G P w base).imp λ vs H Q E h=>?_),(r,d,b,u_,(R,t,hR,rfl),hs,hl',k)=h,yp hl[BF xPy[D1-t]][by rw [Kc,K26.C.xzX]] hl hl',Gr ht hR.le h[sj[t+s]][IY zim[Bu FG] FG hl'[DF zei]] (r,d,R,t,s,ý,hs,h,Ο H' YZ kp),Sc[xiE hR.by' h][xKR zn6])
def xu7.tr (a:Jc)(b:xu7 r H' H''):xBN H'':=λ c o e n=>b c o[a c o e n] n
def xu7.s (a:Jc)(b:C' H' H''):xBN H'':=λ c o e n=>b c o[a c o e n]
def xu7.of (a:AA):Jc:=λ c o e _=>a c o e
def xu7.up (a:Jc)(n:DP):xBN[upd H' l o]:=λ c o e z=>yY n[a c o e z]
inductive xlk (C:RA) (vs:SC) (H:Hp) (Q:VK) (RW:XK):Prop
 |mk (r d:RA) (b:D7) (L:LE) (b':D7) (h0:vs=[x5]) (h1:oY) (h2:cU [] 0 b L) (h3:tJ[B1=ax->xQ1 b'->Jc->BD]):xlk ä
def xvU:XV ["reader","lengths","ahead","told"] Am xsh:=Uf
inductive xj6 (C:RA) (H:Hp) (r:RA) (d:RA) (L':LE) (b':D7) (l:RA) (m:Nat) (σ:St) (H2:Hp):Prop
 |mk (ah:Nat) (L:LE) (v3:EE) (b:D7) (h0:m=272-L.length) (h1:jf 400) (h2:cU L ah b L') (h3:σ=[yo,zt,x0s,v3]) (h4:pG=ax) (h5:xOe H2) (h6:xBN H2):xj6 C H r d L' b' l m ë
def xhL (F:Ρ zpI Am)(Z:xFa):xyR Am[xlk C]:=by
 show(veJ,Ty zdO T Z.T,vdN,BA xvU[λ RO A outer st H vs Q E hr h=>?_],(r,d,b,L',b',ý,hI,kQ)=h,xFn[gO xvU.nd yw[Em 2 xvU.nd aj[xR8[IT χ] xXI[Eh 3 xvU.nd[xQZ Tk GT hr yc][Uc[Bv bM Ab[Ft 7 hag ta]][qh[x1G χ[B9[xZX Jk[Ee[xQZ Tk GT hr yc] xI4]]]]][qg xvU.nd Ab[qh[xHk χ Jk]]]]]] χ]],vek,π,vcB,veA,s0=xPo,YM,Υ Gw[Dt[xj6 C H r d L' b' l] (_,0,[],none,q_,Z9,hI,į,hR.same s0,.of s0)])
 rintro m σ H2 ⟨ah,L,v3,b,rfl,hL4,hI,rfl,UQ,T3,kp⟩;refine(vbl,xQp,vcU)
 rotate_left
 ·show SL Uq[bB 272][by
   show Vv L.length 272
   ·show Yl[wD[Wg Tm um Tm um q]] hc
   ·show Ii] xOR;cases hI with
  |done _=>exact kQ l H2 nl UQ T3 kp
  |one|rep=>lia
 show(x4,(RQ:xXT 272)=rO xZ9 JO[Wg Tm um Tm um Ua])
 clear hc;refine xUn;dsimp only;show(rq YU t2 zgK,tR rS,IZ (s_,vbK,U3,Fc,r,d,b,3,vb1,Z9,by cases hI<;>lia,λ H3 SN Sv=>ZV),xFD XJ xJs Sv yfJ[vG[ux h7 h7]])
 ·show(SL h7[pk=7][yhK h7][Hn xZN zqd],XM s4[DI [xPN] n4] h44[(xFt l4 [xPN]) l4=Ak [xPN]],zx S8[SN.same s4] h4l[Fp XJ] UO[Sv.s s4],lD H3 l4 [xPN] H4,rq dx4 t4 WO S8.ob,(n4r:l4≠r)=aN h44 WO B0);obtain⟨h6,hI2⟩:6≤b.length-3/\cU zoJ[b.drop 9] L':=by
   cases hI with
   |rep _ h _ q=>show AX[DE [_,_][EI 9][AV IU][.n 6] SZ h τ] q
   |done=>lia
   |one _ _ q=>show Dv h7 q
  refine(s_,dx4,Á,WO,Fc,r,d,_,6,rfl,S8,Z9,Sc Kc h6,Ο H5 hR5 Wu);rw [MC] at hR5;show(Fx hb6[xIq 3 6<64][by
   have:=xzV[(b.drop 3).take 6]
   rwa [J7,Kc,KY h6] at this][xIq 3 6] z6,CJ (Å,vca,Zo h44 n4r,by lia,by lia,vee) e1[sF[Ψ z6] 3=z6+3] rfl)
  try dsimp only
  show(xJ3 K26.C.Ł,ω s6[DI[x4m z6 3 xPN] n6] (l,l6,Å,ij[Zo h4l Ui],ae,bQ[by show(Fn K2,DE zcq[xCo x6s][A7 xx8] Cg hL4 hb6)],_,?_,ah,_,Ö,?_,hI2,rfl,by rw [ae,J8,List.map_replicate],(hR5.same s6).upd Ui VE,((UO.tr Wu).s s6).up nl))
  ·show Γ JP K2 x87
  ·show(UU K2,DE [_,_] xCB[xCo um][A7 xx8] x6s RQ hb6)
 ·show(jC h7[pk≠7][TD[h7[xWB z]]] hI2[cU[L++[pk]] pk[b.drop 3] L'][by
   cases hI with
   |one _ _ _ q=>show Ii
   |done=>lia
   |rep _ _ q=>show Dv q h7] pk y,(Ï,xZN,va9,Å,XJ,cz[y8[Z1 x6s Cg hL4]],_,?_,y,_,Ö,?_,hI2,rfl,Zn,SN.upd Ui VE,Sv.up nl))
  ·show kh x8T
  ·show(lP[_+1≤_],Bg m_ um Tm x6s RQ)
structure Tbs (K:Frag)(mg:Τ)(C G:RA):Prop where
 Z:xFa
 Y:Vd
 items:Ι zpI Am
 table:Ι ztv Am
 place:gP zhu xwI
 M:yd1 mg G
 mG:mg "CodeReader"=υ G
 init:Ij[ykx K26.á/\Ha ycV/\xX0 G]
 thing:aW G zor xsV ydb
 codesin:Ι "codes_in" xpR Am
 thingin:Ι "thing_in" xp1 xXi
def xgZ {A B:LE}(h:xAN=vU):A=B:=by
 have:=yiK[λ v=>match v with|V.int i=>i.toNat|_=>0] h;simpa [Mv,Function.comp_def] using this
def xqk:XV ["reader","begin","lengths"] Am xpt:=Uf
inductive _l (C:RA) (vs:SC) (H:Hp) (Q:VK) (RW:XK):Prop
 |mk (r d:RA) (b:D7) (L:LE) (b':D7) (h0:vs=[x5]) (h1:oY) (h2:cU [] 0 b L) (h3:vE) (h4:tJ[B1=ax->xQ1 b'->Jc->BD]):_l ä
def xbn (F:Ρ ztv Am)(D:x1z C G):xQs Am[_l C]:=by
 show(TL,BO It D.items Pl D.place,zx X D.Z.Y.X T D.Z.T GP[xmA Æ Pl.F T],Uv tm hm X.many,BA xqk[λ RO A outer st H vs Q E hr h=>?_],(r,d,b,L,b',ý,hI,hL,k)=h,xQ,xFn[zX 1 xqk.nd[xZc AB Pl GP Si][xtR[qP 2 xqk.nd[jO[xhL It D.Z] It 0]]][vB cZ[IT Ε] xXI xwv xH3]],iV R t hRa xJg,Uv zce hRa.ob,(no:∀{m:Str} t,¬m="taken"->¬m="held"->eN TZ m)=λ t h1 h2=>x4V Ç,xJL (s_,ą,hp,Fc Z8 Z8,r,d,R,Á,hRa,?_) (s_,d,_,Ö,hR,hI,λ l H2 nl UQ T3 kp=>?_) (vbl,xQp,Ć,xXK[AK[yg H2 nl UQ T3 kp]]),uJ Jq JO hL,Dv this[by decide])
inductive xj1 (C G:RA) (vs:SC) (H:Hp) (Q:VK) (RW:XK):Prop
 |mk (r:RA) (d:RA) (b:D7) (L:LE) (b':D7) (h0:vs=[x5]) (h1:oY) (h2:cU [] 0 b L) (h3:vE) (h4:xGX) (h5:∀p dp ep H',pF->Bf dp->Bf ep->xQ1 b'->xWa č dp ep L->Jc->JJ Dc):xj1 C G Ã
def xmR (k:Jc)(n:Ω[H' a])(hr:∃o,H' r=LT):xSv:=by
 cases e:Α with
 |none=>rfl
 |some o=>
  by_cases z:a=r
  ·show(x5E h hr,Ek h n n)
  ·show A8[Yq e z] n n
def xgR (F:Ρ "codes_in" xpR Am)(D:x1z C G):BY 36 Am[xj1 C G]:=by
 show(xU3 Ta D.table,SP D.init,π,GT=xbn Æ Ta D,BA xh5[λ RO A outer st H vs Q E hr h=>?_],(r,d,b,L,b',ý,hI,hl,hG,k)=h,aR Y9 33,DR[ag[xtR[Cj[xzy MI[K26.C.ñ FI D.M] hr Z7 D.mG zd7[B9[zS GT Y9 Ta 0]]]]]] (s_,d,b,L,b',ý,hI,hl,λ l H1 nl h1l hR1 kp x dx nx ndx _=>?_),s1=xxh G nx ndx,sO Vk t1 Si hR1.ob[cF x dx l L ae[FQ h1l] hG[λ dp ep H2 Vl Yr hC kp2=>Xq]],SB kk[xBN H2][λ c o e' n=>xLg[FQ[DY e' n]][ai[DY e' n] nx]] nn[∀{a},CU a->xSv][λ n=>xmR kp n[PL Si]],k x dp ep H2[nn nx][nn[xGM Vl]][nn[xGM Yr]][(hR1.same s1).keep λ c o e hc=>xLg e[by
  show(mD,HQ hc)
  ·show Ek Si nx nx
  ·show((_,hd1)=hR1.ls,Ek hd1 nx nx)]] hC kk)
inductive xkK (C G:RA) (vs:SC) (H:Hp) (Q:VK) (RW:XK):Prop
 |mk (p dp ep r d:RA) (b:D7) (L:LE) (q s:Nat) (h0:vs=[x5,Dc]) (h1:xWa H p dp ep L) (h2:xGX) (h3:oY) (h4:C10.Due L b xyM) (h5:ZX[xQ1 xWz][Jc->WD q]):xkK C G Ã
def u8 (F:Ρ "thing_in" xp1 xXi)(D:x1z C G):xQs xXi[xkK C G]:=by
 show((_,_,Th)=D.thing,Ty Z D.Z GT[K26.C.ok_thing Æ Th.F D.M.R (Z.Y.X,Z.Y.whole,Z.size,Z.ones,Z.bits,Z.take,Z.left,D.place,Z.T)],BA xiO[λ RO A outer st H vs Q E hr h=>?_],(p,dp,ep,r,d,b,L,q,u_,hC,hG,(R,t,hR,rfl),hD,k)=h,yh8 hp hC.ob,EC[DT[ag[xtR[Cj[xUP D.M.R.cl Th GT hr vk]]]]] (vbM,K26.C.I_ _ _ Z8 Z8,ß,dp,ep,r,d,L,R,t,Ö,hC,hG,hR,hD,λ H' YZ kp=>xKR zn6))
universe K26.Ck
namespace K26.M
open BP C9 C10 W17
inductive ShG (L:LE) (e:Nat):LE->D7->xTv D7
 |done {S:LE} {b:D7}:xHy e->xK7 S b S b
 |sg {S T:LE} {q s:Nat} {b b':D7}:xEF->xQI b xyM->D4 q->xK7[S++[q]] xWz T b'->xK7 S b T b'
 |cp {S T:LE} {q s:Nat} {b b':D7}:xEF->xQI b xyM->256≤q->xOr 8 xWz->AJ[xIq s 8]->Yc[xIq s 8]->xxo[q-256+3]≤e->xK7[K26.Ck.æ S[xIq s 8][q-256+3]][(xWz).drop 8] T b'->xK7 S b T b'
def ShG.le (h:xK7 S b T b'):x5F e:=by
 cases h with
 |done h=>exact wc
 |sg h=>exact xDW
 |cp h=>exact xDW
universe K26.M
namespace K26.Ck
open PySem L2 QQ W17 W16 BP K26.M
seal PE PA PS Ó PT PW PG PI
inductive xlR (C:RA) (vs:SC) (H:Hp) (Q:VK) (RW:XK):Prop
 |mk (o r d x:RA) (W:LE) (b b':D7) (n:Nat) (L T:LE) (b1:D7) (h0:vs=[yS,x5,FY,Dh]) (h1:oY) (h2:HH=cj) (h3:wu) (h4:V0) (h5:ItR [] 0 b L b1) (h6:vE) (h7:xGX) (h8:x4j BJ W b1 T b') (h9:tJ[B1=Bc ych->xQ1 b'->Jc->BD]):xlR ä
def _root_.K26.C.xu8.but2 (h:xWa H p d e L)(h':xyw C H r g b)(s:Jc):xWa č d e L:=by
 show((R,t,h',_)=h',h.but h' s)
inductive xjQ (C:RA) (G:RA) (H:Hp) (o:RA) (r:RA) (d:RA) (x:RA) (W:LE) (b':D7) (n:Nat) (L:LE) (T:LE) (l:RA) (e:Nat) (p:RA) (dp:RA) (ep:RA) (m:Nat) (σ:St) (H2:Hp):Prop
 |mk (v8:EE) (v9:EE) (S:LE) (b:D7) (h0:m=x95 e) (h1:xK7 S b T b') (h2:σ=[zr,yo,Xt,Z0,zt,yd7,Ν e,Bh,v8,v9]) (h3:pG=ud) (h4:xOe H2) (h5:xWa H2 p dp ep L) (h6:xBN H2):xjQ C G H o r d x W b' n L T l e p dp ep m ë
def xhQ (F:x53 zrj)(D:x1z C G):BY 37 Jad[xlR C]:=by
 show(Ty Z D.Z Y D.Y,veJ,Ty zdO TR Z.T,BO La Y.lay zkl,BO Ci D.codesin Ti D.thingin,Ew zg9 zmD GC[xgR Æ Ci D] GI[u8 Æ Ti D],EF tl zjL tf hfi X.first,vv xzZ[λ RO A outer st H vs Q E hr h=>?_],(o,r,d,x,W,b,b',n,L,T,b1,ý,vcn,hI,hl,hG,hk,k)=h,tS Y9[ED 33] hr32 32,SB zec zcw,xFn[DJ 4 xzZ.nd zjt xzZ.nd xCv[Eh 6 xzZ.nd[Ee EH Ε][Em 7 xzZ.nd[jO GC Ci 1][xR8 xCv Im[Eh 8 xzZ.nd[IX GI Y9 Ti 1[vW 7]][Uc[Bv dX zrU][qh[xHk AS[vW 8]]][Eh 9 xzZ.nd Mh[qh[IX GL hr32 La 4[yD 9[ac[Ee[yQ zrU] xI4][vW 6]]]]]]]]][xAi AS EH]]]],vek,π,SL no[∀t,x1k][λ t=>bW] Gw,Dp[rE È x W zjK],Df Ui l r zdZ,XM s0[xCq xAJ] h0l[(x9C) l=cj],hR0=hR.same s0,Fx kp0[xBN x9C][.of s0] x9C H0,xCs,Dp[Hn l[BZ h0l] Al])
 try dsimp only
 show(Ζ JO Gw,Dp[FD zc3 _ Ð Al],(e0:xGu+By=Tl BJ)=rfl)
 try dsimp only
 show(x6h e0 he BJ e,xCs,Dp (s_,d,b,L,b1,rfl,hR0,hI,hl,hG,λ p dp ep H1 np Vl Yr hR1 hC1 TH=>Al),Cc h1l[jY h0l Ui] zdv[ai h0l np] nldp[E8 dp][ai h0l Vl],ZY nlep[E8 ep][ai h0l Yr] TH[kp0.tr TH]);clear kp0 hR0 h0l s0 hI;show Υ Gw[Dt[xjQ C G H o r d x W b' n L T l e p dp ep] (_,vbE,W,b1,rfl,hk,rfl,h1l,hR1,hC1,TH)]
 rintro m σ H2 ⟨v8,v9,S,b,rfl,hk,rfl,UQ,T3,hC2,kp⟩;show ω hle2 zgW
 ·show(x4,qv h' Jq h',(RQ:xEF)=x9o);clear h h';show DR xCb rS
  clear fd F D Z Y X w_1 w_2 Tk GT' GT TR w_3 w_4 La w_5 w_6 Ao w_7 w_8 Ci w_9 w_10 Ti GA GL GC GI tl hle tf hfi hr hR hx hl Y9 hr32 TQ Si dx0 t0 VN w_11 Yt e0 np Vl Yr hR1 hC1 h1l TH;cases hk with
  |done h=>show Dv RQ[jr xGI]
  | @sg _ _ q s _ _ _ hD hq hk=>
   show(IZ (Ŷ,dp,ep,r,d,b,L,q,u_,hC2,hG,T3,vfm),xAd XJ xJs[zl ze6[xDP[JY[Au[ku[Wg zbP zbP hq]]]] h]] (Á,xZN,va9,Å,XJ,cz[y8[HK zh8[ZA[x9n[tF EA]]] Cg Sl hW[Ge he.symm hle2]]],_,vb5,hk,rfl,Zn,SN.upd Ui VE,?_,(yfJ).up nl))
   ·show kh x8T
   ·show((hC2.but2 T3 Sv).keep λ c o' e' hc=>?_,Κ zlj)
  | @cp _ _ q s _ _ _ hD hq h8 SH UE hb3 hk=>
   show(IZ (Ŷ,dp,ep,r,d,b,L,q,u_,hC2,hG,T3,vfm),rq US t3 zgA,xAd XJ xJs[zl ze6[xTY[by lia]]] rS,IZ (vbX,Uj,Fc,r,d,_,f_,SN,Z9,h8,λ H4 S8 UO=>ZV),HI[Ψ q-256+3=Tl[q-256+3]][by omega],ω h4l x0U (vct,vcf))
   try dsimp only
   show xFl (l,S,_,_,e,rfl,h4l,Ej zix D5 Sl[JN hW[JQ he.symm]],vbg,hb3,_,vb5,hk,į,S8.upd Ui VE,?_,((yfJ).tr UO).up nl)
   ·show Sc xzL x87
   ·show(((hC2.but2 T3 Sv).but2 SN UO).keep λ c o' e' hc=>?_,Κ zlj)
 ·cases hk with
  |sg q1=>show Yl zhO
  |cp q1=>show Yl zhO
  |done he2=>
   show(xRY,SL ec[x2c WI xGu=AY ych] zkz)
   try dsimp only
   show(uN,Es s9[HP ych n9],ka dx9 t9 YV T3.ob,Fl l9[xmR kp n9[PL YV]] ae[T3.same s9][kp.s s9])
universe K26.Ck
namespace L2
open PySem
def xoC (hK:X.K=K)(he:Ax e ta)(hb:yct f X.env xRq=xRq):Ax[xVT e pos][xkw K ta f]:=FU hK[xvM he hb]
def xdg (hK:X.K=K)(ha:X3)(hb:xEW)(hs:xnz b):Ax[xGi a b][xQ2 xBq tb]:=FU hK[aL xqK Ā hs]
universe L2
namespace K26.Ck
open PySem L2 QQ W17 W16 BP K26.M
seal PE PA PS Ó PT PW PG PI
abbrev xtN:RM:=top 109
abbrev xph:RM:=top 110
inductive TxG (R W:LE):i'[LE->cm]
 |raw:xEU 0 R.length R D1
 |run {v t:Nat} {T:LE}:xJh v ż t T->xEU 1 v T t
 |æ {v t:Nat} {S:LE}:xWr[xUE v] 0 W t S->xEU 2 v x3f t
 |shr {v t:Nat} {L S:LE} {b1:D7}:ItR [] 0 xFZ L b1->vE->xGX->x4j[xUE v] W b1 S xPy->sj t->xEU 3 v x3f t
inductive spRdG (C:RA) (u:Nat) (vs:SC) (H:Hp) (Q:VK) (RW:XK):Prop
 |mk (o r d x:RA) (R W T:LE) (n t:Nat) (h0:vs=[yS,x5,FY,Dh]) (h1:xLl) (h2:HH=cj) (h5:wu) (h6:V0) (h7:xEU u n T t) (h8:tJ[B1=DO->xJA t->Jc->BD]):yhX u Ã
structure RdG (P:RE)(w:RF)(K:Frag)(mg:Τ)(base:RI)(C Cu:RA)(u:Nat):Prop where
 cl:my Cu
 read:Ij[Meth K Cu "read" f/\Ha Jad/\BY 37 Jad[yhX u]]
structure xyl (K:Frag)(mg:Τ)(C G C0 C1 C2 C3:RA):Prop where
 D:x1z C G
 r0:aW C0 "read" zsw Jad
 r1:aW C1 "read" zsy Jad
 r2:aW C2 "read" "CopyWay.read" xrE Jad
 r3:aW C3 "read" zrj Jad
def xyl.ok (Z:xyl ê G Ź)(c0:my C0)(c1:my C1)(c2:my C2)(c3:my C3)(hu:u<4):RdG _M C[xRj u] u:=by
 show(D=Z.D,xU6 u)
 ·show(xF1 M Z.r0 (c0,_,_,M.m,M.b,yhY[xnk M.F D.Z] zhJ),(o,r,d,x,R,W,T,n,t,vch,k)=h,EL hk (o,r,d,_,R,vcb,Sl,ρ,λ l H' nl hl YZ kp=>xQ4 zo7 YZ kp))
 ·show(xF1 M Z.r1 (c1,_,_,M.m,M.b,yhY[xgQ M.F D.Y D.Z] zhJ),(o,r,d,x,R,W,T,n,t,vch,k)=h);cases hk with
  |run q=>exact(o,r,d,_,R,T,n,t,ý,q,Sl,k)
 ·show(xF1 M Z.r2 (c2,_,_,M.m,M.b,yhY[xhr M.F D.Y D.Z] zhJ),(o,r,d,x,R,W,T,n,t,vch,k)=h);cases hk with
  |æ q=>exact(o,r,d,x,R,W,_,n,vcb,hx,q,Sl,hW,k)
 ·show(xF1 M Z.r3 (c3,_,_,M.m,M.b,(xhQ M.F D).imp λ vs H Q E h=>?_),(o,r,d,x,R,W,T,n,t,vch,k)=h);cases hk with
  | @shr _ _ L S b1 q1 q2 q3 q4 q5=>
   show((o,r,d,x,W,_,_,n,L,S,b1,rfl,(R,0,hR,rfl),vcn,vci,λ l H' nl hl YZ kp=>xQ4 nl hl ?_ kp),(R',t',YZ,e)=YZ,yh8 hp hR.ob,Df nrd d r[jh hR.ls B0] eR[R'=R][xgZ[HO.lst.inj[Kr[YZ.ls.symm.trans[DY hR.ls nrd]]]]]);subst eR;show(xEj e'[jz e] Kc Kc K26.C.xzX e',ht=YZ.le,Fv[t=t'][Cn[HK [_,_,_,_,_][Il[EZ m6]][Bu[.a x8j FG]] ST[JQ e'.symm] τ[DF zjc q5]][Hu [_,_,_,_,_][Bu[EZ x8j]][Il[.a m6 FG]] Ę[JQ e'] zob]],YZ)
 ·show JE[rK C4 ztp hu]
def xqa:XV ["body","head","window","reader","text"] x6M xtN:=Uf
def xbe (g:x6Y)(h:xzU zgN R):∃e,e<8/\D1=Jz+e/\xFZ=xBK++xJi e/\xJd%2^e=0:=by
 show Gr hl h.len hle[sj Jz][Ej [_,_,_][EZ[x4f 7]][wy x8l] BV[dY jj] zj][xAu[D1-Jz][x3 [_,_,_,_][wy[EZ qZ]][EZ[.a[vd 3 7] BV]] FE[Ct 8 hl][JN ER[DF zeo FK ST FK hle]]][iP[HJ FK EA FK Φ τ] EA FK Φ FK[DF zeo FK ST FK hle]] ?_]
 ·show AH hn[xJd=num[xBK++xJi[D1-Jz]]][by
   rw [xv1,Sj,xzx,xiU g,h.num,Nat.zero_mod,NA]] hlen[CZ xBK[xJi[D1-Jz]]=D1][by
   show(xLF xrK Sj,iP[HJ AO FG Δ FG[DF zjc hle]] FG AO FG Δ τ)][C10.ľ[by rw [K26.C.xzX,hlen]] ?_];unfold K26.C.bt;show(FR RQ[xzV[xBK++xJi[D1-Jz]]] hlen RQ,Γ xzx hn[Mr RQ])
 ·rw [h.num,Nat.mul_mod_left]
def xfQ (hb:qB)(hn:n<2^s)(e:xPy=xC1 s++r)(ht:sj t):sj[t+s]/\xCR s=n/\(xFZ).drop[t+s]=r:=by
 have hl:=jz e;rw [Kc,K26.C.xzX,JP,Sj] at hl;show SL h1[sj[t+s]][IY [_,_,_,_,_][.a[AV JD] m6][Bu FG] FG jj[DF zei]][Dt h1 ?_]
 ·rw [xiE hb h1,e,xzs hn]
 ·rw [<-MC,e,gu]
theorem xmO (hb:qB):∀{rs} {t} {S},(oN zpU)->sj t->xPy=SO[pR rs] z->xJh[xxo (x7s).length] t S[t+j7 rs][S++x7s]
 | [],t,S,_,_,_=>Γ[Js[exp []] []] Ku x5i
 |q::rs,t,S,hq,ht,e=>by
  show x7z zbT[hq q Kj];rw [xwj,cS,cS,JT,JT] at e;show(xFY zd1[xJj[show IL-1<2^6 by show _<64;show x3 [_,_] x70 xYl bP h2[xDz AZ h1]] e ht] zcP b3[xJj[Kl Dw[2^8] h3] a3 a1],SB ee[exp[q::rs]=x3c Dw++x7s] rfl e6[xRI+1=IL][Bx a2[JS[UK[xDz AZ h1]][El ST zdD τ]]],Zz[xmO hb (S:=S++x3c Dw) (DB[hq x xON]) b1 b3]);rw [JP,K2,JT] at ih;show([ee,xwj,dn,dn,JP,K2],.run[Bg [_,_,_] AZ ST Tm Jt h1] b1[Bx e6[Xo zj6 Jt]] ?_,[e6,b2,show t+(6+(8+j7 rs))=t+14+j7 rs by show xG[A7[EM 6[EI 8]]][HY x76][HY x76][A7[EM 6[EI 8]]],-Lm],x0t)
theorem xsZ (B)(b):∀n,K26.Ck.æ B b n=K26.æ B b n
 |0=>rfl
 |n+1=>by rw [K26.Ck.æ,K26.æ,xsZ B b n]
theorem xpW (hb:qB):∀{Pp} {t} {S},GR S Pp->sj t->xPy=SO[pP Pp] z->xWr (xHW S).length t S[t+xJu][xHW S]
 | [],t,S,_,_,_=>x5i
 |x::Pp,t,S,g,ht,e=>by
  show((gx,gr)=g,vdK);cases x with
  |sg s=>
   rw [xzA,Js[pcP xxO] [((0,1)),((s,8))],NN,NN,KN,cS,cS,JT,JT] at e;show(xBh zd1[xJj[show 0<2^1 by decide] e ht],ka zcP b3[xJj[Kl s[2^8] gx] a3 a1],Zz[xpW hb gr b1 b3],[er,xzA,bq],.sg[by show x2W _;show(kU[(Pc.sg s).size=1],Vx zsc Φ hl zZ)] b1 a2 ?_,Γ b2[show t+(yaI+xJu)=t+1+8+xJu by show Bx[Js yaI 9][JS[ya[A7[EI 9]][HY af]][ya[HY af][A7[EI 9]]]]] ih)
  |cp b y=>
   show(TL,(g1,g2,g3,g4,g5)=gx);rw [xzA,Js[pcP[xJc y]] [((1,1)),((b,8)),((y-3,4))],NN,NN,NN,KN,cS,cS,cS,JT,JT,JT] at e;show(ka zd1[xJj[show 1<2^1 by decide] e ht],xFY zcP b3[xJj[show b<2^8 by show D4 _;show FX xxX zbP g2] a3 a1] c1 c2 c3[xJj[show y-3<2^4 by show _<16;show x3 [_,_][AV IU][EI 18][.n 16] g5[xAg g4]] b3 b1],Cc ih[xpW hb gr c1 c3] ey[y-3+3=y][Cn[vX IU IU[xAg g4]][El ST IU ST IU τ]] e9[HX[t+9]=y-3] c2,(hsz:ygj b y=y)=rfl,[er,xzA,bq],.cp[Vx zod[AV xYq] hl[JN g4 xMJ]][gY[t+1+8+4≤_] c1] a2[by show([e9,ey],IY zoS Hb XL hl xMJ)][Sc b2 g1][Sc b2 g3] ?_,[b2,e9,ey,xsZ,show t+(xGp[xJc y]+xJu)=t+1+8+4+xJu by show Bx[Js[xGp[xJc y]] 13][JS[ya[A7[EI 13]][HY xEc]][ya[HY xEc][A7[EI 13]]]]],x0t)
theorem xpr:∀{It:xBd} {L:LE} {a:Nat},(lF It x4N)->L.length+yfa≤272->cU[L++jI a][W13.nxtS a It] r L'->cU L a[SO jv r] L'
 | [],L,a,_,_,h=>by rwa [Js[x54 []] [],Ku] at h
 |x::It,L,a,hk,hl,h=>by
  show(Θ hx[hk x Kj] ep zg5,[ep,xq2,JT]);cases x with
  |one l=>
   show SB h6[l≤6] hx h8[l<2^3][by show _<8;show FX[.n 6] Tm FE h6]
   rw [Js[x54[.one l::It]][l::jI l]] at h hl;rw [Ki] at hl;show(Ζ[BL[ykR[.one l]][dig l 3][x5S W13.Itm.Ë]][.one[Bg zcq um Tm um hl][by show(UU Sj,Au[Hj D2 kX])][sr[xzs h8]] ?_],yz[xzs h8] gu[xpr[λ y hy=>hk y xIc][by show(lP[_+1+_≤_],Bg zcq um V3 um hl)] ?_],Sc JT h)
  |rep n=>
   obtain⟨h3,h66⟩:lG 3/\n≤66:=hx;rw [Js znA] at h hl;rw [JP,K2] at hl;show([BL[ykR[.rep n]][dig 7 3++dig[n-3] 6][x5S W13.Itm.Ë],JT],AH e1[num[Jv[dig 7 3][dig[n-3] 6++(SO jv r)] 3]=7][xzs[by decide] _] e2[num[xLJ[dig 7 3++(dig[n-3] 6++(SO jv r))] 3 6]=n-3][by rw [gu,xzs[show n-3<2^6 by show _<64;show x3 [_,_][AV IU][EI 66] bP h66[xAg h3]]]][.rep[x3 [_,_,_][PC Jt][EI 272] um hl h3][by show([JP,JP,Sj,Sj],Au[Hj DV[Hk[Xj 6]]])] e1 ?_],[e2,Js[rV 9][3+6],-MC,gu,gu,show n-3+3=n by show Cn[vX IU IU[xAg h3]][El ST IU ST IU τ]],oS[xpr[λ y hy=>hk y xIc][by show(UU K2,Bg zj9 um xBW um hl)] ?_] JT h)
def xjx (g:xGX)(hq:kF)(hs:cw)(c):C10.Due L[xIm q s s++c] xyM:=by
 show AH hl[BF[xIm q s s] s][Sj _ _] hn[num[xIm q s s]=xF7 q s][C10.wd_num g hq hs] (by show(UU hl,Au[ya SZ Δ]),?_,xD8)
 ·show Sc[Pw hl] (ke hq,ke hs,by rw [hl,hn])
 ·show([Ln[ke[Ks hj]]],SL elj[BF[(xIm q s s).take j] j][xJ1 J7 hl][xAu q s hq[Sc elj hj]],[elj,C10.xla _[ke[Ks hj]],hl,hn])
theorem xk1:gL Pp S xQh[GR S Pp->x4j (xHW S).length S[SO xCO z][xHW S] z]
 | [],S,_,_=>x5i
 |x::Pp,S,k,g=>by
  show((gx,gr)=g,vdK,(k1,k2,_)=k.at Kj gx,Zz[xk1 (z:=z) ((k.good,k.len,k.six,λ y hy=>k.has y xIc):xQh) gr],[er,xoZ,xq2,JT]);cases x with
  |sg s=>
   show(Ζ[BL[Ñ[xPf xxO]][xIm s xJU xJU][x5S cP]][.sg[by show(kU[(Pc.sg s).size=1],Vx zsc Φ hl zZ)][xjx k.good k1 k2 _] gx ?_],Γ[Js[th xxO] s] gu ih)
  |cp b y=>
   show(TL,Xh g1 g2 g3 g4 g5 gx,[BL[Ñ[xPf[xJc y]]][xIm[253+y] xRz xRz++dig b 8][x5S cP],JT],SB hsz[ygj b y=y] rfl e1[num[xLJ[xIm[253+y] xRz xRz++(dig b 8++(SO xCO z))] xRz 8]=b][by rw [gu,xzs[show b<2^8 by show D4 _;show FX xxX zbP g2]]],SL e2[253+y-256+3=y][Cn[El[rM 256][EI 253] IU ST[DF C4 Ġ HW[Xj 253] g4]][El[EI 253][rM 256] ST IU τ]][.cp (q:=253+y) (s:=xRz) (Vx zod[AV xYq] hl[JN g4 xMJ])[xjx k.good k1 k2 _][Bg C4 Ġ HW[Xj 253] g4][by show(az gu Sj,Au[Hj FE[Xj 8]])][xFk g1][xFk g3][Bx e2[Dd zoS Hb _z hl xMJ]] ?_],[e1,e2,xsZ,gu,gu],x0t)
theorem xm3:∀T N,qj[xNY s ((s,8))]=N*256^T.length+val T
 | [],N=>by show(EU[N=_] xz ON Rl,Cn[Hj SZ[ir[wQ 1]]][xLY[ir[wQ 1]]])
 |s::T,N=>by
  show EU[d4[xNY s ((s,8))][N*2^8+s]=_][xm3 T] xuv Ki;show(N*256+s)*256^T.length+val T=_;rw [NI,Lh,Lx 256,Lm,<-LA]
def xcr (h:jg)(t:W7)(r:xzU zgN R):xEU u T.length T Jz/\D1-Jz<8/\xJd%2^(D1-Jz)=0:=by
 show(TL,(gd,_)=h.good t,Xh e he hl hbt hv[xbe gd r],SL ee[D1-Jz=e][gH[zg [_,_,_,_][Hi Ey][xQB xyL] oV[DF zdP FG ST FG jj]] [_,_,_,_][xQB xyL][Hi Ey] ST jj τ] (?_,Sc ee he,Sc ee hv),(h0:sj 0)=Bz,xU6 u)
 ·clear gd right;show(Fv[ps=fE] h,Cc ht[xzG T] hlen[xOP T.length][by have:=r.len;show Cn[Fs zbY[G8[Xe Dk]][xKW[.a Xs BV]] n_ he[Ge hl[JQ ht]]][Fs zbY[.a Xs BV][Xe Dk] Ę jj[JQ ht.symm]]] hv'[xJd=val T][by
   show([r.num,show D1-É fE=0 by show Cn[HK [_,_,_,_,_][.a xH0[A7[xRa FG]]][EZ[AV[Bu[yI JD]]]] Hg jj[JQ ee][Ge ht.symm xZP]] xAS,Rl,Nat.mul_one],EU[d4[xNY s ((s,8))] 0=_] xm3 OK Lr)])
  clear ee;show(Fv[R=T][wr r.byt t.tb hlen hv'],Sc ht .raw)
 ·clear gd right ee;show(Fv[ps=yhV T] h,q=xmO r.byt (S:=[]) (xnS t.le t.tb) h0 hbt);rw [xwJ,KN,Lr,ON,Lr] at q;exact .run q
 ·clear gd right ee;show(dR Pp w h,(g,er,_)=x7o w,xEj q[xpW r.byt g h0 hbt] er Lr JP q);have:=TxG.æ q
  rwa [O1] at this
 ·show TL
  clear r gd right ee;show(Hv Pp L It b w sl wi rfl,(g,er,_)=x7o w,π,ql x38[by
   clear he hv h0 w right;cases Pp with
   |nil=>
    show(ZE[jz[BL W[W++T] er]] JP,xMO t.one)
   |cons=>exact NM Bz],Ty k[sl.tok g h1] hd[W13.xqT wi]);rw [Ol,KN,<-k.len,K0] at hd;have q:=xk1 (z:=xJi e) k g;rw [er,JP] at q;show SB hI[ItR [] 0 xFZ L[SO xCO[xJi e]]][by
   show([hbt,xq2,JT],xpr[W13.xqX k.six wi][xCl hd k.len[JQ rfl]] ?_,j8 KN hd[.done[JQ k.len.symm]])] ez[(xFZ).drop[É[jv++xCO]]=xJi e][by rw [hbt,<-xrK,O1]]
  have:=TxG.shr (W:=W) (v:=T.length) hI k.len k.good[Sc ez q][Bg zhq BV SZ BV jj]
  rwa [O1] at this
 ·exact h.elim
def xrz:XV ["row","before","block","window","head"] yfu xph:=Uf
structure Tbk (K:Frag)(mg:Τ)(CK Sk C G C0 C1 C2 C3:RA):Prop where
 H:xTT CK
 Z:xyl ê G Ź
 ahead:Ι zfB j6
 win:Ι zih xGm
 nhead:Ι "need_head" xpT x5h
 headof:Ι zew Jy
 bsize:Ι zfD xHj
 ends:Ι zrh Jy
 wcheck:Ι zfC Jy
 textin:Ι "text_in" xtN x6M
def xn3 (hi:i<4)(h1:xKX)(h2:wu):D4[64*i+n-1]:=x3 zfW HW[xb hi][JN h2[DF ze8 h1]]
theorem xsd:∀(It:xBd) (a:Nat),(lF It x4N)->9*yfa≤66*xx3
 | [],_,_=>Bz
 |x::It,a,hk=>by
  show(Θ hx[hk x Kj] ep zg5,[ep,bq]);cases x with
  |one l=>
   show Zz[xsd It l λ y hy=>hk y xIc]
   show 9*(aO[jI l] 1)≤66*(3+_);show Bg [_,_][vR 9][rQ 66][xKt 9][.m 66 xyJ] ih
  |rep n=>
   obtain⟨_,h66⟩:lG 3/\n≤66:=hx;show(Zz[xsd It a λ y hy=>hk y xIc],az[Js znA] K2);show _≤66*(9+_);show DE [_,_,_][Gi 9 SZ[rQ 9]][Gi 9[.n 66][CA 66]][.m 9 Δ][.m 66[EM 9 XL]][JU 9 h66] ih
def UD.low (h:jg)(t:W7):8≤Jz/\(xWN 2->9≤Jz):=by
 show(iY t.one,xU6 u)
 ·show(Fv[ps=fE] h,Sc xzG (Bg C4[yI AZ] FK FE FK[dY h1],λ _=>by lia))
 ·show Fv[ps=pR oJ] h
  suffices 14≤j7 oJ from(Gm xHY FE this,λ _=>Gm xHY DV this)
  have e:=xwJ T;cases z:oJ with
  |nil=>rw [z] at e;rw [<-BL [] T e] at h1;show uP
  |cons q rs=>rw [xwj,dn,dn];lia
 ·show(dR Pp w h,hP1=xto zpP)
  suffices 9≤xJu from(Gm DV FE this,λ _=>this)
  cases Pp with
  |nil=>cases hP1
  |cons x Pp=>
   rw [xzA,bq];cases x with
   |sg s=>exact KL 9 _
   |cp b y=>show 9≤13+_;show Au[Hj DV[Xj 13]]
 ·show(TL,Hv Pp L It b w sl wi rfl,(_,_,_,_,tok,hk,hd)=tz t w sl wi,π,hl=xsd It 0 hk);rw [hd,tok.len] at hl;show Sc bq (by lia,λ _=>by lia)
 ·exact h.elim
def PB.parts (h:PB W T R)(t:W7):∃i ps Rb,i<4/\UD i W T ps/\xzU zgN Rb/\R=wo zhW/\ydx/\ydB:=by
 show(Es hf (h.facts t).2,Hv i ps Rb hi hm hp hr rfl,FJ (i,ps,Rb,hi,hp,hr,rfl,à))
 ·show oO hr.len (UD.low hp t).1;lia
 ·rw [xyd,JP] at hf;show(kU[BF[pZ[ZI[64*i]-1]] 3],Ej [_,_][PC[D8 AO 2]][EI 69] bP hf zZ)
universe K26.Ck
namespace K26.Ck
open PySem L2 QQ W17 W16 BP
seal PE PA PS Ó PT PW PG PI
abbrev xnF:RM:=top 115
abbrev xtS:RM:=top 116
abbrev xsn:RM:=xY1 0
abbrev xnI:RM:=xY1 1
abbrev xn6:RM:=xY1 2
abbrev xsc:RM:=xY1 4
def four (n:Nat):LE:=xXP++xXO
def Ų (n c:Nat):LE:=wo Zi UI
def xr6 (n):E3 x22:=λ b h=>ki h[xyc Jl b][xyc Jl b]
def xrn:¬(x2J="many_signs"):=Z8
def xqs:¬(yfr x2J):=Z8
def xrf:¬(x2J="group"):=Z8
def xrk:¬(yfr xMr):=Z8
def xqy:¬(xMr="group"):=Z8
def xqt:¬(ycc="group"):=Z8
def fO (b m:Nat) (ck g:RA):yn:=[(("blocks",yP)),(("many_signs",o7)),(("signs_check",.ref ck)),(("group",.ref g))]
def xzq (b m)(ck g):x5D g[xAZ ck[ybh m[vK "blocks" b []]]]=gC:=by
 show(x5D g[xAZ ck[xGc "blocks" "many_signs"[xRs:: [(("many_signs",o7))]]]])=_;show(E1[Kh xrn][(x5D g[xGc "blocks" "signs_check"[xRs::xVr "signs_check"[((xMr,o7)):: [(("signs_check",.ref ck))]]]])=_],pJ xqs[Kh xrk]);show xWO "group"[xRs::xVr "group"[((xMr,o7))::yeb "group"[Yd ycc ck:: [Yd "group" g]]]]=_;show Jm[Kh xrf][Kh xqy][Kh xqt]
def xrd (b m)(ck g):S9 gC "blocks" yP:=by
 rw [<-xzq,ay,Kh xrf,ay,Kh xqs,ay,Kh xrn,ay,Cm]
def xvm (b m)(ck g):S9 gC "many_signs" o7:=by
 rw [<-xzq,ay,Kh xqy,ay,Kh xrk,ay,Cm]
def xn4 (b m)(ck g):Vq gC "signs_check"=υ ck:=by
 rw [<-xzq,ay,Kh xqt,ay,Cm]
def xkp (b m)(ck g):Vq gC "group"=υ g:=xIp xzq ay
def xfH (b m)(ck g){x:Str}(h1:o1[x="group"])(h2:o1[yfr x])(h3:o1[x="many_signs"])(h4:o1[x="blocks"]):eN gC x:=by
 rw [<-xzq,ay,xyG,ay,xyH,ay,Kh h3,ay,Kh h4];rfl
def xfL (b m)(ck g):xNz gC:=xBt 4
def xjA (b m b')(ck g):vK "blocks" b' gC=xIj b' m:=gK[xWO "blocks" _=_] Cm
def xjO (b m m')(ck g):ybh m' gC=xIj b m':=HF[xWO "many_signs"[xRs::xVr "many_signs" _]=_][Kh xrn] Cm
def xnL (b m)(ck g g'):x5D g' gC=fO b m ck g':=by
 show xWO "group"[xRs::xVr "group"[((xMr,o7))::yeb "group"[Yd ycc ck::AQ "group" "group" _]]]=_;show zm[Kh xrf][Kh xqy][Kh xqt] Cm
structure xuE (C CK:RA)(H:Hp)(p ck g:RA)(S:LE)(b:Nat)(G:LE):Prop where
 ob:∃dx,Xb[xFT b ck g]
 ch:∃dk,yB ck[.ins CK dk[x0f[ju S]]]
 gr:H g=Ak mx
 byt:DH S
def xuE.keep (h:xuE C CK H p ck g S b G)(s:∀c o,Μ=LT->c=p\/c=ck\/c=g->Bo=LT):xuE C CK č ck g S b G:=
 (h.ob.elim λ dx z=>UT[FV z rh],h.ch.elim λ dx z=>UT[xY6 z rh],xY6 h.gr xWy,h.byt)
structure Crs (K:Frag)(mg:Τ)(CK CO:RA):Prop where
 Y:xLd CK
 initd:∃f fd t,EO dV[yf4 zcx]/\xFJ K xV5 [Sf 16]/\xX0 CK
 cl:my CO
 nB:xUy CO "blocks"
 nM:xUy CO "many_signs"
 nC:xUy CO "signs_check"
 nG:xUy CO "group"
 m:mg "Course"=υ CO
 gb:Vy "GROUP_BLOCKS" 4
 four:Ι zrk j9
 tailof:Ι "tail_of" xtS xVq
 init:Ij[ylt xsn/\xPd/\xX0 CO]
 win:xxB CO zo0 xnI
 go:aW CO zpJ xn6 xGJ
 tail:xxB CO zqO xsc
inductive V_ (vs:SC) (H:Hp) (Q:VK) (RW:XK):Prop
 |mk (n:Nat) (h0:vs=[FY]) (h1:tJ[AA->B1=Bc x22->BD]):V_ Ã
def xdh:XV j9 j9 xnF:=Uf
def xct (F:Ρ zrk j9)(Z:xEh):xKZ j9 V_:=by
 show(ycT Z.Y.two,GT=xsR Æ Tw,BA xdh[λ RO A outer st H vs Q E hr h=>?_],sO n rfl k h[DT[Cj[HA[fZ GT Tw[rR xzr[xSw xpl]]][fZ GT Tw[xSw xzr]]]]],AH e1[By/2^Int.toNat 16=Tl[n/65536]][gY[By/65536=_][NJ[yju rfl]]] e2[∀m:Nat,Builtin.bitAnd X9 65535=Tl[xMo m]][λ m=>xt5 m 16] (Ø,(d6[IF≤16]),ø))
 try dsimp only
 show(yz ğ[zN Jl xZw],zf s1[HP xXP n1] VB[rL H l1 xXP l1=Bc xXP][cg H l1 xXP] H1,xEo)
 try dsimp only
 show(Ζ e2[zN Jl[UV l2 n2]],XM s2[HP xXO n2] Yx[rL H1 l2 xXO l2=Bc xXO],Ty h21[Cv VB] Uz Gg,rf H1 l2 xXO H2,EC (l1,l2,Å,h21,Yx,(rP 4),gQ)[YH zkk])
inductive xlT (vs:SC) (H:Hp) (Q:VK) (RW:XK):Prop
 |mk (n c:Nat) (h0:vs=[FY,uF]) (h1:dH c) (h2:tJ[AA->B1=Bc xRx->BD]):xlT Ã
def xaV:XV xVq xVq xtS:=Uf
def xiz (F:Ρ "tail_of" xtS xVq)(Z:xEh):BY 8 xVq xlT:=by
 show(BO Tw Z.Y.two Fo Z.four,BO Hr Z.Y.headrow ztt,BA xaV[λ RO A outer st H vs Q E hr h=>?_],ze n c hc k,tS _H U3 2,kL[fZ[xq5 Wc Z.Y] Wc[HA[HA[xSR[xrH Hr Z.Y] Hr xBX][zS[xct Fo Z] U3 Fo 0]][wZ[xsR Tw] Tw 1]]][xAk 0 0 Ċ[λ l1 H1 n1 s1 VB=>?_]],Υ[Fu È n[λ l2 H2 n2 s2 Yx=>?_]] (l1,l2,Å,Cv VB,Yx,(rP 7),UV l3 n3),x7w,XM s3[HP Zi n3] h33[rL H2 l3 Zi l3=Bc Zi],s03=xZj,rf H2 l3 Zi H3,Zv c hc[UV l4 n4],XM s4[HP UI n4] h44[rL H3 l4 UI l4=Bc UI],Ty h43[Fp h33] s04 yc3,rf H3 l4 UI H4,(l3,vca,h43,h44,(rP 9),UV zcO),x7w,XM s5[HP[Zi++UI] n5] h55[rL H4 l5[Zi++UI] l5=xf Zi UI],s05=s04.trans s5,rf H4 l5[Zi++UI] H5,(l5,Á,h55,uL,(d6[Hc 9]),λ l H6 nl s6 hl=>yg H6[iJ s05] ymp hl),gU _J)
 ·show gU _J
  ·exact xo Ì
  ·exact xr6 n Ì
 ·exact xyc hc Ì
def xbA (S T):ju[S++T]=crc 16 45[ju S] T:=by
 unfold ħ crc;rw [Nu]
theorem dG (x)(v):∀l,Ez[Þ x v l][l.length+1]
 | []=>ρ
 |((y,u))::l=>by
  show xNC Þ
  ·simp
  ·have:=dG x v l;show xVh
def fOC:xW8 CO gC≠HO.ins CK dk xy1:=by
 show vj;injection z with _ _ z
 have:=jz z;simp [fO,fC] at this
def xuE.ne (h:xxQ H p g S b G):p≠ck/\uV g/\g≠ck:=by
 show(EF zce h.ob dk hk h.ch,Ef[xZ7 hk fOC][jh h.gr B0][aN h.gr hk B0])
inductive ŗ (CO CK:RA) (vs:SC) (H:Hp) (Q:VK) (RW:XK):Prop
 |mk (p dx:RA) (h0:vs=Cw) (h1:ni p CO []) (h2:∀(ck g:RA) (H':Hp),xZr->Bf g->xxQ č g [] ż->rj zcn):ŗ zb3
def xcn:jB xsn:=Uf
def xpN (F:ylt xsn)(Z:xEh):pS 4[ŗ Ĝ]:=by
 show(xU3 W Z.Y.Z.whole,(_,_,t16,(_,FI),B16,MI)=Z.initd,vv xcn[λ RO A outer st H vs Q E hr h=>?_],ze p zce k,ZH[bO aj[bO aj[xDJ[xlC MI[yd0 W Z.Y.Z.T Z.Y.Z.X] BM Z7 Z.Y.Z.T.m zqM bo] yw]]] (ß,CO,vbn,vbU,Z.nB,xFC,?_) (vbW,ae,Z.cl,Z.nM,vbx),SB Sw[BG[(yL zfm) p] CO xKx] ae kp2[∀c o,Μ=LT->A9->(yL zfm) c=LT][λ c o e n=>Γ CP CP e],Fx no2[∀c,Ω[(yL zfm) c]->Bf c][λ c e=>by
  by_cases n:c=p
  ·show CN n ae e e
  ·show vH CP CP e e][yL zfm] H2);intro x dk nx ndk nek;show(Gr s0[xJX CK] zgb[ai Sw nx][JG x dk 16 45 iA ae[λ H3 hx Sv=>Xq]],Θ SW[Gs[sQ Sw] npx] k13[∀c o,Μ=LT->A9->qO=LT][λ c o e n=>Gs[sQ[xLg e n]][ai[xLg e n] nx]])
 clear Sv s0;show(Ty Su[dG "many_signs" TC yjE] T2[dG "blocks" TC []],Gr SV[dG "signs_check" Dh xKx] znk rfl (vbW,SW,Z.cl,Z.nC,(VZ zj9[ZN[ir vF]] D5 Su T2 xN1),?_),SB hp4[BG[(yL zfM) p] CO[xAZ x xKx]] ae hx4[sh[(yL zfM) x] CK dk[x0f[2^16-1]]][Κ npx.symm hx],Fx k14[∀c o,Μ=LT->A9->(yL zfM) c=LT][λ c o e n=>Κ n[k13 _ _ e n]][yL zfM] H4,EJ[rP 0][UV g ng],XM s5[DI [] ng] hg5[(EN H4 g []) g=xC8],Ty hp5 x7i hx5[Dm hx4],Df ngp g p[sM hp4 ng] hgH[Bf g][by
  cases e:H g with
  |none=>rfl
  |some o=>show A8[k14 _ _ e ngp] ng ng],lD H4 g [] H5,Υ (vbW,hp5,Z.cl,Z.nG,(VZ [_,_,_,_][x5l qZ][G8[wz[ir Η]]] D5 Su T2[JN SV xN1]),?_)[k x g _[no2 x nx] hgH (UT[Ry ae[x5o l[xW8 CO l][xzq 0 0 x g]]],(dk,Κ npx.symm hx5),Κ ngp hg5,λ z hz=>x7t) λ c o e n=>?_],Κ n[Dm[k14 _ _ e n]])
inductive _h (CO CK:RA) (vs:SC) (H:Hp) (Q:VK) (RW:XK):Prop
 |mk (p ck g:RA) (S G:LE) (b:Nat) (h0:vs=Cw) (h1:xxQ H p g S b G) (h2:∀l,DP->qM[o5 mx]):_h zb3
def xc9:jB xnI:=Uf
def xgf (F:Cb zo0 xnI)(Z:xEh):Zr[_h Ĝ]:=by
 show(lX Z.Y.Z.X.R.X,DW xc9[λ RO A outer st H vs Q E hr h=>?_],(p,ck,g,vbt,((dx,hp),_,hg,_),k)=h,xLz[x6J xvH Ly xOC] (_v,vbU,vfE,g,Á,BZ hg,k))
inductive Ř (CO CK:RA) (vs:SC) (H:Hp) (Q:VK) (RW:XK):Prop
 |mk (p ck g:RA) (S G:LE) (b:Nat) (h0:vs=Cw) (h1:xxQ H p g S b G) (h2:tJ[AA->B1=Bc Aq->BD]):Ř zb3
def xbw:jB xsc:=Uf
def xgk (F:Cb zqO xsc)(Z:xEh):pS 9[Ř Ĝ]:=by
 show(TL,BO To Z.tailof Va Z.Y.Z.value,π,CT=Z.Y.Z.T,DW xbw[λ RO A outer st H vs Q E hr h=>?_],(p,ck,g,vbt,((dx,hp),(dk,hk),hg,hb),k)=h,xQ,kL[xSR[xiz To Z] To[IB B4[xOH CT.cl Va[xmY Va.F CT] Si]]] (_v,vbU,vfP,_v,vbU,Z.nC,vdj,dk,Á,hk,xTl,ck,dk,16,Á,hk,?_),nj _ xyA k)
def grp (b:Nat) (G T:LE):LE:=DM[(b+1)%4] ż[G++T]
inductive spOGo (CO CK:RA) (vs:SC) (H:Hp) (Q:VK) (RW:XK):Prop
 |mk (p ck g a:RA) (S G T:LE) (b:Nat) (h0:vs=jP) (h1:xxQ H p g S b G) (h2:Α=DO) (h3:xSL) (h4:Hc[ZI G.length]) (h5:∀(g':RA) (H':Hp),Bf g'->xxQ č g'[S++T] zju->o8[Μ=LT->A9->W2->Bo=LT]):spOGo zb3
def xei:XV xGJ xGJ xn6:=Uf
def xjs (F:Cb zpJ xn6)(Z:xEh):BY 6 xGJ[spOGo Ĝ]:=by
 show(Es T Z.Y.Z.X.R.X,(X,CT,(_,_,W),(_,_,R),(_,_,N),(_,_,Yw),_,(_,_,Ad),_)=Z.Y.Z,Uv tg hgb Z.gb,DW xei[λ RO A outer st H vs Q E hr h=>?_],TL,(p,ck,g,a,S,G,T',q_,hC,ha,hT,hl,k)=h,(npk,ngp,ngk)=hC.ne,((dx,hp),(dk,hk),hg,hb)=hC,π,AH nap zoE nak[a≠ck][aN ha hk B0][DT[bO[Rd B4][bO[Ee B4[xFR χ]][Iz[xyi B4 CT.cl Ad[xnV Ad.F N R W Yw CT X] hr Yk][Uc[kW[xDa B4[Ft 4 hgb tg]]][xBC yw][xBC[HA B4 χ]]]]]]],AH e1[Wd+1=xV b][Qb _] e2[Ψ S.length+xWL yeR=Tl xGg][y8 xKs] M',Gd (_v,vbU,vfO,Å,vbW,vbU,Z.nB,xFg,Al))
 try dsimp only
 show(xJ3 xjA,jC SI[BG[(yL zie) p] CO[xFT[b+1] ck g]] ae k1[∀c o,Μ=LT->A9->(yL zie) c=LT][λ c o e n=>W8 n][yL zie] H1,Gd (_v,SI,Z.cl,vfP,_U,BZ[k1 _ _ ha nap],Å,vbW,SI,Z.cl,Z.nM,xFg,Al))
 try dsimp only
 show([e2,xjO],jC Sw[BG[(yL zif) p] CO[xIj zeN]] ae k2[∀c o,Μ=LT->A9->(yL zif) c=LT][λ c o e n=>Κ n[k1 _ _ e n]][yL zif] H2);clear k1 SI;show(xCs,YO=k2 _ _ hk npk.symm,Dp (_v,Sw,Z.cl,Z.nC,vdj,dk,Á,YO,xTl,Á,ck,dk,a,16,45,_,T',rfl,iA,xyA,YO,k2 _ _ ha nap,hT,λ H3 hk3 Sv=>Al));rw [<-xbA] at hk3;show Θ SW[Gs Sw npk] k3[∀c o,Μ=LT->A9->W2->qO=LT][λ c o e n m=>Gs[k2 _ _ e n] m]
 clear Sv YO Sw k2;show(Ty hg3[wq hg ngp ngk] ha3[wq ha nap nak],SB XI[DH[S++T']][DB[ki hx[hb x][hT x]]] eL[CZ S T'=xGg] JP,SB hgH[∀l,Ω[H3 l]->DP][λ l nl=>by
  cases e:Vw with
  |none=>rfl
  |some o=>
   by_cases n:l=p
   ·clear fd F T X CT init value w_1 w_2 W w_3 w_4 R w_5 w_6 N w_7 w_8 Yw w_9 w_10 Ad tg hgb hr ha hT ngp ngk hg hb hp hk nap nak e1 e2 H1 H2 R1;show CN n SW zcJ
   ·by_cases m:l=ck
    ·clear fd F T X CT init value w_1 w_2 W w_3 w_4 R w_5 w_6 N w_7 w_8 Yw w_9 w_10 Ad tg hgb hr ha hT ngp ngk hg hb hp hk nap nak e1 e2 H1 H2 R1;show CN m hk3 zcJ
    ·show A8[wq e n m] zcJ] fin[∀l L H4,Ω[H3 l]->H4=yL[xSG Vt][fO zeN ck l]->L=x0g G T'->xBx H4][λ l L H4 nl e4 eL'=>by
  subst e4 eL';show(AH zdv[ik SW] nlk[E8 ck][ik hk3][YH[hgH l nl] (UT[by rw [ae,eL]],(dk,Γ[ak npk.symm][ak nlk.symm] hk3),xLy Up ae,XI) λ c o e n m=>?_],Γ CP[xJI[wq e n m] nl][wq e n m])],SL e4[xV b%4=Tl[(b+1)%4]][NJ[Nat.ToInt.mod_congr Ð]] (_v,SW,Z.cl,vfO,Å,(d6[IF<4]),?_))
 try dsimp only
 show Ζ e4[xy8 _[ux h h]]
 ·show(SL h0[(b+1)%4=0][by
   show(DA[V.int[Tl[(b+1)%4]]] xGy Jq,yen this,Int.ofNat_eq_zero.mp this)] ((rP 0),gQ),SL T6[(xSG []) p=_] zla,Sc xnL[fin l [] _ nl rfl[xJV grp h0]])
 ·show(SL h0[¬(b+1)%4=0][TD[h[JY[CM z]]]] (_v,SW,Z.cl,vfE,Á,g,a,Å,hg3,ha3,bQ[X8 JO x9s],gQ),SL T6[(xSG[mx++yeR]) p=_] zla,j8 xnL J8[fin l[G++T'] _ nl rfl[Hf grp[Kh h0]]])
abbrev xsz:RM:=xO4 0
abbrev xrb:RM:=xO4 1
abbrev xsy:RM:=xO4 2
abbrev xsq:RM:=xO4 3
abbrev xsx:RM:=xO4 4
abbrev xsH:RM:=xO4 5
abbrev xwr:RM:=top 130
def xrl:¬(x2K="waiting"):=Z8
def xn5:¬(x2K="begun"):=Z8
def Fr:¬(x6z x2K):=Z8
def xn2:¬(xMI="begun"):=Z8
def xrh:¬(x6z xMI):=Z8
def xra:¬(x6z yeY):=Z8
def xzF (co wt:RA) (bg fn:Bool):yn:=[(("course",.ref co)),(("waiting",yg7)),(("begun",x66)),(("finished",xXD))]
def xz3 (co wt)(bg fn):x3B xXD[ydr x66[x4C wt[kO "course" co []]]]=sU:=by
 show(x3B xXD[ydr x66[xGc zrA[xSI:: [Yd "waiting" wt]]]])=_;show(E1[Kh xrl][(x3B xXD[xGc "course" "begun"[xSI::x7E "waiting"[Yd xMI wt:: [(("begun",yhZ))]]]])=_],pJ xn5[Kh xn2]);show xGw "course"[xSI::xGw "waiting"[Yd xMI wt::xGw "begun"[((yeY,yhZ)):: [(("finished",V.bl fn))]]]]=_;show Jm[Kh Fr][Kh xrh][Kh xra]
def xgr (co wt)(bg fn):Vq sU "course"=υ co:=by
 rw [<-xz3,ay,Kh Fr,ay,Kh xn5,ay,Kh xrl,ay,Cm]
def im (co wt)(bg fn):Vq sU "waiting"=υ wt:=by
 rw [<-xz3,ay,Kh xrh,ay,Kh xn2,ay,Cm]
def xgu (co wt)(bg fn):S9 sU "begun" x66:=by
 rw [<-xz3,ay,Kh xra,ay,Cm]
def xgn (co wt)(bg fn):S9 sU "finished" xXD:=xIp xz3 ay
def xfz (co wt)(bg fn){x:Str}(h1:o1[x6z x])(h2:o1[x="begun"])(h3:o1[x="waiting"])(h4:o1[x="course"]):eN sU x:=by
 rw [<-xz3,ay,xyG,ay,xyH,ay,Kh h3,ay,Kh h4];rfl
def xfa (co wt)(bg fn):xNz sU:=xBt 4
def xz2 (co wt Xu)(bg fn):x4C Xu sU=xw8 Xu bg fn:=HF[AQ zrA[xSI::AQ "waiting" "waiting" _]=_][Kh xrl] Cm
def AT (co wt)(bg fn bg'):ydr[.bl bg'] sU=xw8 wt bg' fn:=by
 show x7E "course"[xSI::x7E "waiting"[Yd xMI wt::x7E "begun" _]]=_;show Jm[Kh xn5][Kh xn2] Cm
def xwA (co wt)(bg fn fn'):x3B[.bl fn'] sU=xMu fn':=by
 show xGw "course"[xSI::xGw "waiting"[Yd xMI wt::xGw "begun"[((yeY,yhZ))::xGw "finished" _]]]=_;show zm[Kh Fr][Kh xrh][Kh xra] Cm
structure xvj (K:Frag)(mg:Τ)(C:RA):Prop where
 cl:X5
 nC:gM "course"
 nW:ynL
 nB:gM "begun"
 nF:ymM
 m:mg "Presser"=Ff
 mark:∃d,mg "MARK"=ES/\∀H,bZ ziB
inductive spUn (C:RA) (vs:SC) (H:Hp) (Q:VK) (RW:XK):Prop
 |mk (p dx co wt:RA) (bg:Bool) (h0:vs=Cw) (h1:Xb[xMu false]) (h2:xEE):spUn ä
def xeb:jB xrb:=Uf
def xjb (F:Cb zmc xrb)(T:xvj ê):Zr[spUn C]:=by
 show(DW xeb[λ RO A outer st H vs Q E hr h=>?_],Hv p dx co wt bg rfl hp k,EC[DT[ig xOz pX]] (Ě,T.nF,rz,_T,bD k))
def mk (bg:Bool):LE:=EB bg [] [184,66,1]
inductive _c (C:RA) (vs:SC) (H:Hp) (Q:VK) (RW:XK):Prop
 |mk (p dx co wt:RA) (bg fn:Bool) (h0:vs=Cw) (h1:Xb sU) (h2:tJ[eC xEx[xVw fn]->B1=Bc UB->(∀c o,Μ=LT->A9->Bo=LT)->BD]):_c ä
def xbp:jB xsy:=Uf
def xoe (F:Cb znp xsy)(T:xvj ê)(X:u6):Zr[_c C]:=by
 show((dM,mM,hM)=T.mark,DW xbp[λ RO A outer st H vs Q E hr h=>?_],(vbr,bg,fn,_R,k)=h,DR[xw1 xOz[Cj yw][bO bV[Cj[xRf[B9[oa dM mM]]]]]] (Ě,T.nB,jW,bg,vbJ));cases bg with
 |true=>
  show EC[bY ((rP 0),gQ)][YH nl[uC hp nl hp] ae λ c o e _=>kr]
 |false=>
  show(tN[bD (p_,va4,T.nB,g_)] AT,SL SI[eC[(ZW H[xVw fn]) p][xVw fn]] ae[nj dM[.inr[hM _]] gQ],SL Up[p≠l][ai SI nl][YH[xAb Up.symm zcJ][Κ Up SI] ae λ c o e n=>?_],Γ[xJI[W8 n] nl] CP e)
def nb (A:LE):Nat:=A.length/64
def wn (A:LE) (i:Nat):LE:=(A.take[64*i]).drop[i/4*256]
structure PrAt (C CO CK:RA)(H:Hp)(p co ck:RA)(A:LE)(bg:Bool):Prop where
 ob:∃dx wt g,Xb[xMu false]/\H wt=Bc[A.drop[64*XO]]/\Ub H g[A.take[64*XO]] XO[wn A XO]
 byt:DH A
def xzu (t:qS)(kp:∀c o,Μ=LT->(∀C dx fs,o≠ xUo C fs)->EG xs[o≠ xBZ]->Bo=LT):xyW:=sO ps h z t (ps,DY h zlN,z.imp id λ z9=>by show((c',oc,vs,t,e,hc,r)=z9,(c',oc,vs,t,e,DY hc zlN,r)))
structure Prz (K:Frag)(mg:Τ)(B D G CW C0 C1 C2 C3 c CK Sk CO C:RA):Prop where
 xnE:Bks zc4 G zdt c Ğ
 Cr:xEh
 T:xvj ê
 bs:Vy ztw
 putblock:Ij[xZq "put_block" xpV Jae Ò]
 init:Ij[yk1 xsz/\xPd/\TY]
 un:gP zmc xrb
 mark:gP znp xsy
 next:aW C zm9 xsq ydP
 feed:aW C zqj xsx xGJ
 finish:gP zoK xsH
inductive ś (C CO CK:RA) (vs:SC) (H:Hp) (Q:VK) (RW:XK):Prop
 |mk (p dx:RA) (h0:vs=Cw) (h1:xQS) (h2:∀(co ck:RA) (H':Hp),Bf co->xZr->x9l Ĝ č y_ [] false->rj zcn):ś C zb3
def xcH:jB xsz:=Uf
def xaj (F:yk1 xsz)(Z:xLv C):pS 6[ś C Ĝ]:=by
 show(lX Z.T,SP Z.Cr.init,DW xcH[λ RO A outer st H vs Q E hr h=>?_],ze p zce k,CY[bO[ml[xpN FI Z.Cr] hr Z.Cr.m][bO yw[xDJ bV bV]]])
 intro x dk nx ndk nek;show(Gr zkd zgb zmj,Cc zrK k1 zmk Yy xZr x6D);clear TH s0;show((va3,vbn,SI,vbC,xFC,?_),jC Sw[eC[(ZW H1 TP) p] TP] ae k2[∀b o,xST=LT->X'->(ZW H1 TP) b=LT][λ b o e n=>W8 n][ZW H1 TP] H2,EJ[rP 0][UV wt nwt],veU,(p_,SW,_s,vbx),vd7,Υ (vbN,vbj,(VZ zfA[G8[ir Η]] D5 T2 Su xN1),?_) (vbN,vbD,(VZ [_,_,_,_] zo2 D5 T2 Su[JN SV xN1]),?_),[eQ,eQ,xz3],(npk,ngp,ngk)=hC.ne,Df Yu ck p[TD[Ek hp Yy Yy]] hgp[uV g][TD[xIH hC.gr SI]],SL k3[∀b o,xST=LT->X'->(ZW H3[ycz x wt]) b=LT][λ b o e n=>Κ zru][k x ck _ nx Yy[IQ (dx,wt,g,ae,Κ nwp hw3,hC.keep λ c o e hc=>wq e ?_) z hz x7t] λ b o e n=>wq[k1 _ _ e] n])
 clear nx nek nck ng hC Sw SW T2 Su SV npk ngp k3;show iW hc
 ·exact npx.symm
 ·exact Yu
 ·exact hgp
inductive _e (Tb C CO CK:RA) (vs:SC) (H:Hp) (Q:VK) (RW:XK):Prop
 |mk (p dx co wt ck g a:RA) (bg fn:Bool) (S G T:LE) (b:Nat) (h0:vs=jP) (h1:Xb sU) (h2:Ub H g S b G) (h3:Α=DO) (h4:TW T G) (h5:qS) (h6:∀(l g':RA) (R:LE) (H':Hp),DP->Bf g'->PB G T R->B1=ur->Ub H' g'[S++T] zju->(∀c o,Eu Tb->Μ=LT->xk->W2->Bo=LT)->xyW->BD):_e Tb C zb3
def ņ:XV[xBe "signs" "block"] ydP xsq:=Uf
def xop (F:Cb zm9 xsq)(Z:xLv C)(hC:WG)(hBm:VI)(hK:z8):BY 41 ydP[_e Tb C Ĝ]:=by
 show(xF8 T0 Z.T Pb Z.putblock,(_,FP)=Pb.F,BO Wi Z.Cr.win Go Z.Cr.go,DW ņ[λ RO A outer st H vs Q E hr h=>?_],(vbr,ck,g,a,bg,fn,S,G,T,q_,hp,hCo,ha,tw,hT,k)=h,tS _H hr6 6,xCc[Em 2 ņ.nd[gz[sK FP Z.xnE zcF] Pb.m Pb.kp Pb.b bo[AL 1[xOH Z.Cr.cl Wi[yh0 Z.Cr] Si]]][aD[xyi B4 Z.Cr.cl Go[xjs Go.F Z.Cr] hr6 Yk]] Ε],vQ Gw Y3 U7 hCo.ob,(vby,ę,hp,vcx,Y3,Á,U7,il,vbA,vbt,hCo,UV lw nlw),zf s1[DI mx nlw] hw1[(G9 lw mx) lw=Ak mx][G9 lw mx] H1,hT1=xV1,Dp (a,.ref lw,T,G,rfl,CV,.inr[ID lw hw1],tw,hT1,λ l R H2 nl pb hl sT hT2=>Al),(k2:gL e o[G6=LT][EG ps[o≠ xxN]->H2 e=LT])=λ h hn=>jb[hT1.ne[FQ h] hn][FQ h],Θ Sw[k2 hp xh] YC[Ub H2 g S b G][JI dk hk hCo.ch ((Y3,k2 U7 xh),(dk,k2 hk xh),k2 hCo.gr xh,hCo.byt)],Ty XT[k2 ha xh] Ww tw.le,ω hwl tw.wl Gw,(dxo2,Wl)=YC.ob,Dp (vce,vcx,dxo2,Á,Wl,il,Á,vbA,a,S,G,T,q_,YC,XT,tw.tb,(Dd zfL Δ D5 Ww hwl),λ g' H3 ng' hC3 Sv=>Al),xOm dk2 YO YC.ch hTb3[xMi H3][xzu hT2 λ e o h hn _=>Gs h[aN h Wl[je _ _]][aN h YO[je _ _]]],jA SV[Gs zot[aN hl YO B0]][AK[yg g' R H3[iJ s1][xGM[xpM hT2 sT ng']] pb SV hC3[λ c o n e n1 n2=>Gs[jb n Eo] ï] hTb3]])
def ĥ (F:LE) (i:Nat):LE:=(F.drop[64*i]).take 64
def Bl (F:LE)(i:Nat)(R:LE):Prop:=PB x2a xJE R
def xpK (F:LE)(i):F.take[64*i]++xJE=F.take[64*(i+1)]:=yX ĥ[BL[64*(i+1)][64*i+64][Nat.mul_succ 64 _]] Q4
def xsp (h:x67[64*i]):Ez x2a 192:=by
 show yX wn Kc J7;lia
def xo7 {F:LE}(h:x67[64*(i+1)]):grp i x2a xJE=wn F[i+1]:=by
 unfold grp wn;by_cases z:(i+1)%4=0
 ·show([Kq z,Mb],Ji[HK [_,_,_,_][BE 64[A7[xHI vF]]][BS Hg[BS vF[xHI[nL 4 Dk]]]][xC7 256][Ct 64 z] DU[Ct 64 (xPJ).symm]])
 ·rw [Kh z,<-xpK,LX[sr J7],BL[(i+1)/4][i/4][Nat.succ_div_of_mod_ne_zero z]]
def xoR {F:LE}(h:x67[64*(i+1)]):BF xJE 64:=by
 show yX ĥ J7 Kc;lia
def xnU {F:LE}(h:x67[64*(i+1)])(hb:DH F):TW xJE x2a:=
 (Tz[K8 V1],IC[xoR h],IC[xoR h],Tz[KA xOw],xsp[Nat.le_of_add_right_le h])
inductive T_ (Tb C CO CK:RA) (vs:SC) (H:Hp) (Q:VK) (RW:XK):Prop
 |mk (p a co ck:RA) (A:LE) (bg:Bool) (T:LE) (h0:vs=jP) (h1:x9l Ĝ H p y_ A bg) (h2:Α=DO) (h3:xSL) (h4:Hc[CZ A T]) (h5:qS) (h6:bL l RA Rs HB Hp[DP->XO+Rs.length=nb[A++T]->(∀j R,xE2->Bl[A++T][XO+j] R)->B1=Bc[xGP UB]->x9l Ĝ č y_[A++T] true->(∀e o,kG->G6=LT->Y4->e≠co->xKF->xKN=LT)->xyW->BD]):T_ Tb C zb3
def xvV:XV ["self","text","signs","told","begin"] xGJ xsx:=Uf
inductive Đ (CK:RA) (CO:RA) (C:RA) (Tb:RA) (H:Hp) (p:RA) (a:RA) (co:RA) (ck:RA) (bg:Bool) (dx:RA) (wt:RA) (l2:RA) (F':LE) (n0:Nat) (l3:RA) (m:Nat) (σ:St) (H4:Hp):Prop
 |mk (j:Nat) (Rs:HB) (g4:RA) (h0:m=xB8-(n0+j)) (h1:σ=[Bh,Cs,υ l2,xyP,Ν[64*j]]) (h2:n0+j≤xB8) (h3:xXU j) (h4:ynd[69*j]) (h5:(∀i R,B8 Rs R->Bl F'[n0+i] R)) (h6:H4 l3=Bc[xGP UB]) (h7:H4 l2=Bc[x5J n0]) (h8:eC[H4 p] yft) (h9:Ub H4 g4[F'.take[64*(n0+j)]][n0+j][wn F'[n0+j]]) (h10:(∀e o,kG->G6=LT->Y4->e≠co->xKF->H4 e=LT)) (VB:xMi H4):Đ CK CO C Tb H p a y_ bg dx wt l2 F' n0 l3 m σ H4
def xcE (F:Cb zqj xsx)(Z:xLv C)(hC:WG)(hBm:VI)(hK:z8):BY 42 xGJ[T_ Tb C Ĝ]:=by
 show(Ty T0 Z.T zsW,TL,vV Un Z.un Mo Z.mark Nx Z.next,(tb,hbs)=Z.bs,vV W Z.Cr.Y.Z.whole Ri Z.Cr.Y.Z.isrow Nr Z.Cr.Y.Z.needrow,vv xvV[λ RO A outer st H vs Q E hr h=>?_],(p,a,co,ck,A',bg,T,rfl,hP,ha,WB,hlen,hT,k)=h,tS _H WO 4,xFn[Iz[x0T Un[xjb Un.F T0] Si][DJ 2 xvV.nd[HA B4[zS[xu0 Nr Z.Cr.Y.Z.X.R] WO Nr 1]] 3 xvV.nd[x0T zsB Si][zX 4 xvV.nd aj[xHq[Bv xuS[yQ[IT Ε] AS][Ft 64 hbs tb]][Iz[x1G Ab[B9[x8p AB zo3 hr[B9[aV Ε AS[Ee zsY]]]]]][qP 4 xvV.nd[Ee zsY]]]][bO[xAi Ε AS][Cj Ab]]]]],((dx,wt,g,hp,hw,hCo),hA)=id hP,FJ M',Gd (vbM,tZ,vbr,bg,_R,Al),Ai g1 (vbh,hp,va8,_t,T,_S,WB,xZw),zf s1[DI WI n1] VB[(VC WI) l1=DO][VC WI] H1,(hn64:64*ow≤A'.length)=by show(uy,KB _ 64),Dp (wt,l1,Å,xZs,VB,bQ[by show(xLC JO Kc,A3 JP hlen[Dd ziA xYo Δ Cg hlen IJ])],bf l2 n2),E7[AY[A'.drop[64*ow]]++WI=AY[uQ zdx]][by rw [<-J8,LX hn64]],x0v,XM s2[HP[uQ zdx] n2] Yx[rL H1 zq7 l2=Bc[uQ zdx]],s02=Gg,rf H1 zq7 H2);clear s1 s2 n1 n2 VB;show(Cc Sw[s02 _ _ hp] YC[Ub H2 g[Jv zdx] ow[wn xJO ow]][by
  show(SB e[Jv zdx=A'.take[64*ow]][Ln hn64] e'[wn xJO ow=wn A' ow][Hf wn e],Γ e e'[hCo.keep λ c o z _=>s02 _ _ z])] hF[qd xJO][λ y hy=>ki hy[hA y][WB y]],SB hnF[ow≤nb xJO][by show(uy,Bx JP[Fs zex[xG5[Ar Hb]][C7[xCo xHe]] n_ ER zj])] hFl[64*nb xJO≤CZ A' T/\CZ A' T<64*nb xJO+64][by show(uy,AX ER[Nat.lt_mul_div_succ _ Z9])],xw0 xJO F' ow n0,Gd (vbo,tZ,vbr,bg,_T,Sw,λ l3 H3 n3 SW SV Sv=>Al),YM,TL,EF Y3 Wl YC.ob dk hck2 YC.ch,π,Df npc co p[TD[by show(xR7 Sw Wl,xMA Wl Wl Wl _ _ z,xIE[yec z])]] npk yad[TD[by show(xR7 Sw hck2,xMA hck2 hck2 hck2 _ _ z,xPA[jz z])]],Df ngp g p[aN YC.gr Sw B0] nl2p[uV l2][aN Yx Sw B0],(nH3:Bf l3)=yhy s02,uH g1[Dt[Đ CK CO C Tb H p a y_ bg dx wt l2 F' n0 l3] (xB8-n0,0,[],g,Ú,hnF,rfl,Bz,λ i R e=>xYQ,Dq SV,Gs Yx nl2p,SW,YC.keep λ e o z hz=>Gs zl0,λ e o _ z n _ _=>Gs[s02 _ _ z] n,xzu[hT.same s02] λ e o z hn _=>Gs z[YJ Sw[je _ _]])])
 rintro m σ H4 ⟨j,Rs,g4,rfl,rfl,hj,hRl,hR69,hRs,hl34,hl24,hp4,hCo4,fr4,hT4⟩;refine(Á,l2,Á,BZ hl24,Ø,vcU)
 ·show(x4,AH hj1[64*(n0+j+1)≤F'.length][by
   show uJ xZ9 JO Kc;lia] hjb[n0+j+1≤xB8] Z5 xUn);dsimp only;show Gr tw[xnU (i:=n0+j) hj1 hF] e64[Tl[64*j]+64=Tl[64*j+64]][Uw[Hj xOL xOL] xOL xOL][xFH g2 (Á,Zy hl34,ų,hp4,tZ,vcr,Ć,l2,Á,RV.of hl24,UV ls nls)]
  try dsimp only
  show([e64,xum _ Z5[by show(Fn Kc,DE [_,_,_,_][BS[Ar m6] XL][C7[AV[ZP 64]]] xOL ST hj1 τ)],BL[64*j+64-64*j] 64[Og _ 64],-ME,MC,-MF,show 64*n0+64*j=64*(n0+j) by show xG x8D x8N x8N x8D],Cc s5[HP[xYX[n0+j]] nls] hls[rL H4 zi9 ls=Bc[xYX[n0+j]]] ae e5[cg H4 ls[(x5J[n0+j]).take 64]=cg H4 zi9] rfl,[e5]);clear e5;show(rf H4 zi9 H5,ω ztx (vbr,ck,g4,ls,true,false,_,_,_,n0+j,rfl,x7i,hCo4.keep λ e o z _=>Dm z,hls,tw,hT5,λ l6 g6 R H6 n6 ng6 pb hl6 hC6 kp6 hT6=>?_),Ew hR yne hl35[Dm hl34] hl25[Dm hl24] hp5 x7i,vd0,π,(nlst:gL e xs[H5 e=Gq][H6 e=Gq])=TD[xTM[hT5.ne zrv] z[YJ[Dm hco4] oA][YJ[Dm hck4] oA]],zx WU[nlst hl35] hl26[nlst hl25] hp6[xTM[hT5.ne hp5[xNk y y]] hp5 zsC],IZ (l3,l6,Å,WU,hl6,bQ[by
   show(vdS,DE [_,_,_,_,_,_][xSH[AV[rH[xHI[Ar xOA]] JA]]][rH D5[Gi 69 uZ[xSH[PC xYe]]]] xBW Cg[xEZ hlen][JN hR69[xJR 2 hj1[JN hR.2 hmk]]])],ZV),Df n36 l3 l6[ai hl35 n6] nl23[l2≠l3][by
   show vj;clear SV n36;show CN z Yx n3 n3],SL e66[Tl[64*j]+64=Tl[64*(j+1)]] jc (Ø,xB8-(n0+(j+1)),LH _ _ hjb,j+1,Rs++[R],g6,vbJ,hjb,xVh,?_,HL i R',à,à,λ e o n z n1 n2 n3'=>?_,?_))
  ·try dsimp only
   show CM e66
  ·show(az Mq[show x1T [R] R by simp],Jx hR.2[JN hR69 hR.2])
  ·show gJ i Rs.length h h
   ·show A3[Ld h] e[hRs i R' e]
   ·show(wL[KM h] e hi0[i-Rs.length=0][by
     rcases Oh[i-Rs.length] with q|q
     ·show Ii
     ·show lK[KZ xVh]],lK hi0,DA i j[(JS[xLX hi0] h).trans hRl],x1N pb)
  ·rw [ae,Mq,<-JT,J8 (l₁:=xGP UB)];simp
  ·show Κ nl23 hl26
  ·show Κ zoM
  ·show([show n0+(j+1)=n0+j+1 by show xG Ec uj uj Ec,-xpK,-xo7 hj1],bK[hC6.keep λ e o z hz=>?_],xLZ hco6 hC6.ob hck6 hC6.ch,π,Κ[by
    clear hP hp Sw hCo YC SW Wl hC6 hp6;show iW hz
    ·exact xTt zty
    ·exact xTt ztz
    ·exact sM hl35 ng6] z)
  ·show uC z nH3[xTM n[Dm[x0h _ n z ï n3']] n2 n3']
  ·exact xzu hT6 λ e o z _ hn=>Κ[YJ WU je] z
 ·show((hnb:n0+j=xB8)=by
   show(ql[¬(Ψ 64≤BN[AY[x5J n0]]-Tl[64*j])][xPt xJf],xCJ Kc h1);lia,xRY,(ô,l2,Á,RV.of hl24,UV lw nlw))
  try dsimp only
  show([dW,-ME,MC,show 64*n0+64*j=64*xB8 by show iP[HJ x8N xH2 x8D xH2[xb hj]] xH2 x8N xH2 x8D[Ct 64 hnb.symm]],vd0,π,Ty s5[HP xPk nlw] hco5[Dm hco4],(hlw:rL H4 lw xPk lw=Bc xPk)=ae,Ew hp5 x7i ztx hCo5[hCo4.keep (H':=cg H4 lw xPk) λ e o z _=>Dm z] hl35[Dm hl34],Fx Y2[∀e o,kG->G6=LT->Y4->e≠co->xKF->rL H4 lw xPk e=LT][λ e o n z n1 n2 n3=>Dm[x0h _ n z zbu]][cg H4 lw xPk] H5,tN (p_,hp5,vbR,g_) xz2,SL Up[gL e xs[H5 e=Gq] Y4][TD[YJ hp5 oA]][AK[k l3 Rs _ nH3[JS[Dd [_,_,_,_] xYn Hb _z hj[JQ hRl]][Dd [_,_,_,_] Xs[AV qZ] XL Δ[JQ hRl.symm][JQ hnb.symm]]] hRs[Κ[Up hl35] hl35] ((dx,lw,g4,ae,Κ[Up hlw] hlw,?_),hF)[λ e o n z n1 n2 n3=>Κ n1[xLs n z zbu]][xzu hT5 λ e o z hn _=>Κ[YJ hp5[je _ _]] z]]])
  ·show C8 hnb[hCo5.keep λ e o z hz=>Κ[by show(vft,Up hCo5.gr)] z]
def xvi (A R:LE):Prop:=(A.length%64=0/\R=[])\/(A.length%64≠0/\PB[wn A XO][A.drop[64*XO]] R)
def xoM (hb:DH A)(h:A.length%64≠0):TW[A.drop[64*XO]][wn A XO]:=
 (Tz xOw,by show([Kc],uy);exact C8 PY[Pq h],by show([Kc],uy);exact C8 PY[Ks Jl],Tz[KA xOw],xsp[by show(uy,KB _ 64)])
inductive spFin (Tb C CO CK:RA) (vs:SC) (H:Hp) (Q:VK) (RW:XK):Prop
 |mk (p co ck:RA) (A:LE) (bg:Bool) (h0:vs=Cw) (h1:x9l Ĝ H p y_ A bg) (h2:Hc A.length) (h3:qS) (h4:bL l RA R LE Hp[DP->xvi A R->B1=xf[UB++R][Ų A.length[ju A]]->(∀e o,kG->G6=LT->Y4->e≠co->xKF->xKN=LT)->xyW->BD]):spFin Tb C zb3
def P_:xAT[k7 "told"] xsH:=Uf
def xdG (F:Cb zoK xsH)(Z:xLv C)(hC:WG)(hBm:VI)(hK:z8):pS 42[spFin Tb C Ĝ]:=by
 show(Ty T0 Z.T zsW,BO Un Z.un Mo Z.mark,BO Nx Z.next Ta Z.Cr.tail,DW P_[λ RO A outer st H vs Q E hr h=>?_],(vcq,A',bg,rfl,((dx,wt,g,hp,hw,hCo),hA),hlen,hT,k)=h,tS _H YV 9,Av[Iz[x0T Un[xjb Un.F T0] Si][bO bV[gO P_.nd[x0T zsB Si][vB cZ x74 aj[qh[x1G χ[B9[x8p AB zo3 hr xOC]]]][Cj[HA χ[xOH Z.Cr.cl Ta[yh1 Z.Cr] YV]]]]]]] (vbM,tZ,vbr,bg,_R,Al),EF Y3 U7 hCo.ob dk Yu hCo.ch,Df npc co p[TD[by show(xR7 hp U7,ven)]] npk yad[TD[by show(ver,xPA[jz z])]],Df ngp g p[jh hCo.gr B0] nwp x9z[jh hw B0],Gd (p_,hp,T0.cl,T0.nF,ZT,Al),[xwA],SB SI[eC[(yaX) p][xMu true]] ae k1[∀e o,G6=LT->Y4->(yaX) e=LT][λ e o z n=>Κ n z],Fx no1[∀e,Ω[(yaX) e]->Bf e][λ e z=>by
  by_cases n:e=p
  ·show CN n SI z z
  ·show A3 CP z z] yaX H1,Gd (ų,SI,tZ,vbr,bg,ŵ,SI,λ l3 H3 n3 SW SV Sv=>Al),(k3:∀e o,G6=LT->Y4->H3 e=LT)=λ e o z n=>Gs[k1 _ _ z n] n,Θ nH3[no1 _ n3] hCo3[Ub H3 g[A'.take[64*ow]] ow[wn A' ow]][hCo.keep λ e o z hz=>wq zl0],Θ hw3[wq hw nwp] hT3[xMi H3][xzu hT λ e o z hn _=>wq z[YJ hp[je _ _]]])
 clear Sv k1 SI no1;show(CJ Gw J[∀R S G b g5 H5,xvi A' R->S=A'->Ub H5 g5 S b G->xBG 100->H5 l3=xf UB R->eC[H5 p] ygB->(∀e o,kG->G6=LT->Y4->e≠co->xKF->H5 e=LT)->xMi H5->R1 [Bh,xyP] H5][by
  intro R S G b g5 H5 hLB eS hC5 hR XS hp5 Y2 hT5;subst eS;show(vQ Al dxo5 hco5 hC5.ob,Υ (vby,ę,hp5,vcx,dxo5,Á,hco5,il,co,ck,g5,_,G,q_,hC5,λ lt H6 nt s56 RQ=>?_) (l3,lt,Å,s56 _ _ XS,RQ,bQ[by
   show(vdS,aQ[_+11],DE ù[PC FZ][D8 Δ 11] Cg hR hmk)],gQ),ω s67[xCq[AY[UB++R]++AY Aq]][yg R j_ hLB[by rw [ae,<-J8]][λ e o n z n1 n2 n3=>s67 _ _[s56 _ _[xLs n z zbu]]][(hT5.same s56).same s67]],(n5:Ω[H5 l])=iJ s56);cases e:Vw with
  |none=>rfl
  |some o=>
   exfalso;by_cases z1:l=p
   ·show CN z1 hp5 n5 n5
   ·by_cases z2:l=co
    ·show CN z2 hco5 n5 n5
    ·by_cases z3:l=ck
     ·show((_,hk5)=hC5.ch,CN z3 hk5 n5 n5)
     ·by_cases z4:l=Tb
      ·show(yfI h hT5,CN z4 h n5 n5)
      ·show A8[xLs z4 e zbf z3] n5 n5],x4,(vbh,SW,va8,vba,BZ hw3,vcU))
 ·show(ZY h0[A'.length%64≠0][by
   show uJ xZ9 JO Kc;unfold nb at this;omega] tw[xoM hA h0],Υ (Á,Zy SV,ų,SW,tZ,vbh,SW,va8,?_) (vbr,ck,g,wt,true,true,_,_,_,ow,rfl,SW,hCo3,hw3,tw,hT3,λ l6 g6 R H6 n6 ng6 pb hl6 hC6 kp6 hT6=>?_),zx hR yne.2 hco3 hCo3.ob hck3 hCo3.ch,xLZ hco3 hco3 hck3 hck3,Ty WU[xTM[hT3.ne SV[xNk y y]] SV[aN SV hco3 oA][aN SV hck3 oA]] hp6[xTM[hT3.ne SW[xNk y y]] SW zsC],Υ (l3,l6,Å,WU,hl6,bQ[by
   show((hmk:Ez UB 3)=by cases bg<;>decide,xKc,IY ù[PC xYe] Cg hR hmk)],?_)[J R _ _ _ g6 _[zQ h0 pb][Ky _ _][hC6.keep λ e o z hz=>?_][Ga hR] xD0[Κ zoM][λ e o n z n1 n2 n3'=>?_][xzu hT6 λ e o z _ hn=>Κ[YJ WU je] z]])
  ·show(xLZ hco6 hC6.ob hck6 hC6.ch,Κ[by
    show iW hz
    ·exact xTt zty
    ·exact xTt ztz
    ·exact sM SV ng6] z)
  ·show uC z nH3[xTM n[wq z n1] n2 n3']
 ·show SL h0[A'.length%64=0][by
   show(ql[¬(IF<xWL[AY[A'.drop[64*ow]]])][xPt xJf],xCJ Kc h1);unfold nb at h1;omega][J [] _ _ _ g H3[x7B h0][Kg[by show(uy,Ej zhi[qE x4R] xHe[JQ h0] x80)]] hCo3 Z9[Sc Ku SV] SW[λ e o _ z n _ _=>wq z n] hT3]
def xqW (T Z:LE):Prop:=∃(Rs:HB) (R:LE),xXU[nb T]/\(∀j R,xE2->Bl T j R)/\xvi T R/\Z=xGP [184,66,1]++R++xZM
inductive xkH (Tb:RA) (vs:SC) (H:Hp) (Q:VK) (RW:XK):Prop
 |mk (a:RA) (T:LE) (h0:vs=Dl) (h1:Α=DO) (h2:xSL) (h3:IW) (h4:qS) (h5:bL l RA Y LE Hp[DP->xqW T Y->B1=Ak mY->(∀e o,kG->G6=LT->xKN=LT)->xyW->BD]):xkH Tb Ã
def xqg:XV ["text","presser","bale"] xWX xwr:=Uf
theorem xmZ (hb:DH F):∀(Rs:HB) i,i+Rs.length≤nb F->(∀j R,xE2->Bl F[i+j] R)->ynd[69*Rs.length]
 | [],_,_,_=>Bz
 |R::Rs,i,h,hR=>by
  show(Ir Ki,Θ h1[xmZ hb Rs[i+1][HJ Ec XL V3 XL h] λ j R' e=>by
   have:=hR[j+1] R' xNa;show Sc[show i+1+j=i+(j+1) by show xG V3 Ec Ec V3] this] h0[Bl F i R][hR 0 R rfl],h2=(h0.facts[xnU[by show(pM nb,DE [_,_,_,_][BS xYm[ZP 64]][BE 64 ST][xHI Tm] ST[xb h] ER)] hb]).2,az LG Ki,IY zdP[D8[CA 69] 69][.m 69 vF] Ç)
def xvi.len (h:xvi A R)(hb:DH A):xBG 69:=by
 rcases h with⟨_,rfl⟩|⟨h0,h⟩
 ·decide
 ·exact(h.facts[xoM hb h0]).2
def xgP (F:Ρ zjv xWX)(Z:xLv C)(hC:WG)(hBm:VI)(hK:z8):BY 43 xWX[xkH Tb]:=by
 show(Es T0 Z.T,x6i,BO Fe Z.feed Fi Z.finish,π,BA xqg[λ RO A outer st H vs Q E hr h=>?_],Hv a T w_ ã hT k,aR hr7 7,ZH[DJ 1 xqg.nd[ml[xaj FI Z] hr7 T0.m] 2 xqg.nd[xUP T0.cl Fe[xcE Fe.F Z zcF] hr vk][Cj[HA Ε[x3I χ Fi[xdG Fi.F Z zcF] hr]]]] M' Gw)
 intro p dp np Vl Yr;show(s0=x5K C,Dp[g9 p dp[λ co ck H1 nco nck hP TH=>x0z]],(s1:Ik)=λ e o z=>jY[sQ z][ai z np],Ty ncoH[xxk nco] Yy x6D);clear TH s0;show(tR Gw,TL,((Vk,wt1,gg1,SI,_,_),_)=id hP,π,Dp (ß,vbb,SI,tZ,ß,a,co,ck,[],false,T,rfl,hP,CV,õ,xV1,λ l Rs H2 nl hRl hRs Su hP2 fr2 hT2=>Al),TL,((YU,wt2,gg2,Sw,_,_),_)=id hP2,π,AH hRl'[xXU[nb T]][by
  show(kU[nb ([]:LE)=0],vH this Lr hRl hRl)] hRs'[∀j R,xE2->Bl T j R][λ j R e=>Jw[hRs j R e][BL[nb ([]:LE)+j] j[Lr j]]] (Ŷ,vbK,Sw,vb6,T,ŵ,hP2,hl,hT2,λ l5 R H5 nl5 hLB XS Y2 hT5=>?_),ZZ Up[gL e xs[H2 e=Gq][Y4/\e≠co/\xKF/\kG]][TD[by
  show(TL,((_,_,_,h,_,hCo),_)=hP2,xLZ U7 hCo.ob Yu hCo.ch,π,Iv[YJ h oA][YJ U7 oA][YJ Yu oA][hT2.ne zrv])]],DS m1 m2 m3 m4[Up Su],Ty hl25[xLs m4 Su m1 m2 m3] hfl[xmZ hb Rs 0[vX SZ DN[JQ hRl']] λ j R e=>Sc Lr[hRs' j R e]],Θ hRlen[hLB.len hb] hnb[nb T≤15][by show(uy,Au[Fs 64 zjf xWS SZ[.n 15] hl ER])],SL ht11[BF xZM 11] rfl (l,l5,Å,hl25,XS,bQ[by
  show([JO,JO,JP,JP,JP,ht11],aQ[3+_+(0+_+11)],DE [_,_,_,_][JB 69[A7[AV[ZP 69]]]][BE 69[JB 69[EM 69[.m 69[.n 15]]]]][.a kX[D8[EI 0] 11]] Cg[Ct 69 hRl'][JN hfl[JN hRlen[JU 69 hnb]]])],UV l6 n6),Gr s6[DI[AY[xGP[mk false]]++AY[mk true++R++xZM]] n6] frA[∀e o,kG->G6=LT->H5 e=LT][λ e o n z=>by
  show(Df n1 e p[ai z np] n2[e≠co][ai z ncoH],BU n3 xKF[ai z Yy][xLs n[fr2 _ _ n[FQ z] zbu] zbu])][Fl l6 _[xpM hT5 frA n6] (Rs,R,hRl',hRs',hLB,rfl) ?_[λ e o n z=>ij[frA _ _ n z]][hT5.same s6]],[ae,-J8]);show some[HO.lst[AY[xGP [184,66,1]++([]++R++xZM)]]]=_;rw [KN,<-JT]
universe K26.Ck
namespace HT
open PySem PySem.Spec PyProof.Rows
def xe6 {lo hi:SR}{Q:BQ}(ht:x8C t)(hs:x2Y vl zgG)(pl:x5e lo)(pu:x5f hi)
  (hw:oU=0/\yik zJ) (h:Q yd s):yk[yhL yd]:=by
 show(TL,DS os hos hcs hds[id hs],(hTs:s.TypeIs x3X "slice")=(os,hos,hcs));unfold getItem
 try with_reducible refine yap
 first|show Du yu|skip
 show(vt[yi9 Z9 ?_][MU zqD Mf
  (ymY Mf ht.typeIs ?_[yjF _])],veh,J' zqW,(hyes:JL[x0O==0&&Ih==1&&x44[zJ-oU]])=V5 hw.1 hw.2,uM[EB znL _],J' hyes ?_,iu Builtin.Tuple.tupleIsExact[wpAny_typeOf ht.typeIs yu],J'[by rfl][Ot ?_])
 first|show UN[AK[Kn h]]|show UN[AK h]
universe HT
namespace L2
open PySem PySem.Spec PyProof.Rows QQ
def Ix (K:Frag):V->SR->x1x:=λ x lo hi H Q=>∃a xs,x=Aj/\bZ ċ/\xD9=0/\ao xYC/\lQ Aj
def xca:xC0[Ix X.K]:=by
 intro RN s σ H x v vl vu lo hi sl Q I rx hs pl pu h;show(TL,ye ċ zcu Ç q,π,qX,qo r ht hx,SL hlen yjL zk8,HT.xe6 ht zdG[Sc hlen[xIu h2]][Fu Aj H I q])
def xjG (K:Frag):R2:=λ x y H Q=>∃(p q:RA) (ns ms:Ya),x=Dc/\y=gc/\bZ p jy/\bZ q x3K/\ns.length=ms.length/\yO[! D3 ns ms]
def xch {X:Cx}(hu:xQT):x5q[xjG X.K]:=by
 intro RN s σ H x y v u Q I rx ry h;show(TL,(p,q,ns,ms,Ú,_w,k)=h,π,xPn,TL,qo zbV ha,DS zcW[I.tuple hb],Ty l1 rv.length l2 XC.length);rw [JO] at l1 l2;refine yku[kP j[ns[j]?=ms[j]?]][xL3 p its.toArray pl][xL3 q T7.toArray WL][yj zeD Tm hu] zjn _ İ
 ·show(AH j1 zlJ j2[j<ms.length][Vx zee oV j1] gE,(u1,e1,r1)=xWq j (x:=xSi ns j) (by simp [j1]),ka u2 e2 r2[XC.get (i:=j) (x:=xSi ms j) (by simp [j2])],SB zpQ[by
   show(x3E z e1,jL)] zqu[by
   show(x3E z e2,jL)],[g1,g2],Θ e[xiH (A:=X.A.in1) (s:=s) B_ Ð] ee[eqV[xSi ns j][xSi ms j]=D3 ns[j]? ms[j]?][by
   rw [JX j1,JX j2];show(ns[(j)]==ms[(j)])=_;show Dq OO],A3 ee e e)
 ·refine Jb[.bl _] I ?_ k;show xML=xML;congr 1;congr 1;rw [Ko,Ko,<-l1,<-l2,<-hl,Nat.min_self,OO];simp only [OD,List.all_eq_true,OG,decide_eq_true_eq,beq_self_eq_true,and_true];show(EJ[TD[MB[Gf j]]][λ z j _=>by rw [z]],Vv j ns.length)
  ·exact z j q
  ·rw [KZ q,KZ[Ej zed ST jj q]]
universe L2
namespace K26.Ck
open PySem L2 QQ W17 W16 BP
seal PE PA PS Ó PT PW PG PI
abbrev xsT:RM:=zC 38 3
abbrev xtA:RM:=xY1 3
abbrev xpb:RM:=top 120
abbrev xrB:RM:=top 121
abbrev xwh:RM:=top 122
abbrev xww:RM:=top 123
structure Prt (K:Frag)(mg:Τ)(C Sk CO:RA):Prop where
 H:xTT C
 R:Crs ê CO
 tuple:x4S
 mark:∃d,mg "MARK"=ES/\∀H,bZ ziB
 signs:Vy ztw
 tbytes:Vy "TAIL_BYTES" 11
 headof:Ι zew Jy
 bsize:Ι zfD xHj
 nmark:Ι "need_mark" xpb x5T
 nexth:Ι ziK xNs
 partat:Ι zjw xNb
 nlast:Ι ziL xHD
 ctwin:gP zrl xsT
 otwin:xxB CO zqP xtA
abbrev ç:LE:=[184,66,1]
inductive xjZ (cM:RA) (vs:SC) (H:Hp) (Q:VK) (E:XK):Prop
 |mk (a:RA) (B:LE) (h0:vs=Dl) (h1:Α=ve) (h2:IK=xF5->wg) (h3:IK≠xF5->BK cM):xjZ cM å
def xjU:XV ["bale","begin"] x5T xpb:=Uf
def xhm (F:Ρ "need_mark" xpb x5T)(Z:xLi)(Er:xLq):x2e x5T[xjZ cM]:=by
 show(xWI,(d,hm,hd)=Z.mark,iD xjU Ĉ,IG a B w_ k1 k2,hu=hr.units,DR[gO xjU.nd[xvG xkZ Z7 Z.tuple Px[B9[Xc AB[x8x xtX O0[B9[oa d hm]]]]]][d8[xch hu] χ[xvL[SlR.or xcZ xca][oa d hm] xrQ[xu3[x8x xtX O0 Yk]]][og Er.mM Er.xM]]][HU (Á,vbs,.inr[hd H],_U,RV.of ha,gQ)],(ec:û vU none[some[BN ([xO2,xQk,xSp]:SC)]]=xY3)=by rw [Js[xWL ([xO2,xQk,xSp]:SC)][Tl 3],xzE,MF],uN,s1=HP IK nl,Gj[JH l _[jk xG0[GG t nt]]] g,XM s2[xSM xY3] ht[Hl[(sG[cg H l IK] t xY3) t] xY3],Uz=Gg,xNq[cg H l IK] t xY3 H2,AH hl[Ez IK 3][Ji DU] em[x9w=xF5][by
  show Vv B.length 3
  ·rw [Kg[Ks q]]
  ·rw [J7,KY q,Kg[d6[rJ 3]],Kg[gY[rJ _] q]]] (Ï,t,Á,.inr zW,r_),SB inj[∀{u v:LE},(u.map ya5)=(v.map ya5)->u=v][VT[QR (f:=λ b:Nat=>(b:Int)) (λ _ _ e=>Qu e)|>.mp h]] fin[∀(q:RA) (H3:Hp) (R:VK),xQr H3->Sr K H3 q[AY x9w]->R[.bl[! D3 IK xF5]] H3->xjG K yd gc H3 R][λ q H3 R s3 hq r=>by
  refine(t,q,qc IK,qc x9w,Ú,à,à)
  ·show C8 io[Sr.of[Dz ht]]
  ·show C8 io hq
  ·show bE JO JO[J7 (l:=ç)] (KY hl).symm
  ·show Sc[BL[D3[qc IK][qc x9w]][D3 IK xF5][xL2[xJ6[C8 em[inj z]][by rw [em,<-z]]]]] r],(fin2:∀{A B':Prop},((BK cM)->A)->((wg)->B')->EB[! D3 IK xF5] A B')=λ a b=>by
  by_cases e:IK=xF5
  ·show Sc[JY e][bD[b[k1 e]]]
  ·show xKT e[bY[a[k2 e]]],[JO],Vv (IK).length 3)
 ·refine .inl[xAk d _[hd H2] ?_[UV p np]]
  ·rw [HT.SY];rintro⟨_,z⟩;show((z:min (IK).length 3=3)=z,Au[aX [_,_][TO xyJ][Hk AO] q[Ge z.symm DU]])
  ·show Sc xzE[fin p _ _[am np][Sr.of[BH ae MF]][AK[fin2[VT[o6[Uz.trans[am np]]]][VT[o6[Uz.trans[am np]]]]]]]
 ·show(SL q3[BF IK 3][JS hl q][.inr[rE d È[hd H2] ?_[fin d H2 _ EK[Sc q3[hd H2]][AK[fin2[VT[o6 Uz]][VT[o6 Uz]]]]]]],BH HT.SY q3)
def xrx:XV ["row","many_signs","head"] xNs xrB:=Uf
def xyp:XV ["bale","place","many_signs","head_end","head","end"] xNb xwh:=Uf
def xk3:XV xHD xHD xww:=Uf
inductive ō (C:RA) (vs:SC) (H:Hp) (Q:VK) (RW:XK):Prop
 |mk (p dx:RA) (s:Nat) (h0:vs=Cw) (h1:Xb[x0f s]) (h2:∀x dk H',Bf x->AA->sh[H' x] C dk[x0f s]->JJ Dh):ō ä
def Ń:xAT ydO xsT:=Uf
def xa7 (F:Cb zrl xsT)(Z:Chk ê):pS 4[ō C]:=by
 show(TL,(X,T,(_,_,W),_,_,_,(_,_,_,FI,bI,M),_)=Z,vv Ń[λ RO A outer st H vs Q E hr h=>?_],IG p dx s rfl hp k,DR[Em 1 Ń.nd[xzy M[yd0 W T X] hr Z7 T.m zd7 xOC] xYO χ] (vcZ,xmN _ _,λ x dk nx ndk nek=>?_),ω s0[xJX C][JG x dk 16 45 iA ae[λ H1 hx kp=>Xq]],SL s1 zn3 (vbh,sI,va5,xp3 _ _,ć,C,dk,Á,hx,va5,xjw _ _,?_),Sc xjv[AK[k x dk _ nx[λ c o e=>yY nx Eo] ae]])
def xdV (b m)(ck ck' g):xAZ ck' gC=fO b m ck' g:=by
 show xWO "signs_check"[xRs::xVr "signs_check"[((xMr,o7))::yeb "signs_check" _]]=_;show Jm[Kh xqs][Kh xrk] Cm
inductive ř (CO CK:RA) (vs:SC) (H:Hp) (Q:VK) (RW:XK):Prop
 |mk (p ck g:RA) (S G:LE) (b:Nat) (h0:vs=Cw) (h1:xxQ H p g S b G) (h2:∀p' ck' g' H',Bf p'->Bf ck'->Bf g'->ybs H' p' ck' g' S b G->AA->xXv p'):ř zb3
def Ņ:xAT ydO xtA:=Uf
def xip (F:Cb zqP xtA)(Z:ye6 CK):pS 6[ř Ĝ]:=by
 show(Ty R Z.R CT R.Y.Z.T,TL,SP R.init,BO Tw Z.ctwin Wi R.win,vv Ņ[λ RO A outer st H vs Q E hr h=>?_],(p,ck,g,vbt,hC,k)=h,AH zeb zcw[DT[zX 1 Ņ.nd[ml[xpN FI R] hr R.m] xYO[ad xYO
  (ad[xXW[xOH CT.cl Tw[xa7 Tw.F R.Y.Z] WO]]
  (ad[xXW[cu AB R.cl Wi[yh0 R] Si]]
  xOy))]]])
 intro x dk nx ndk nek;show(ω zkd[g9 x dk[λ ck1 g1 H1 nck ng hC1 TH=>Xq]],ZZ s1 zoH,EF zce hC.ob dck Yu hC.ch,Uv Vk XD hC1.ob);clear s0 TH ndk nek;show((npx:p≠x)=x9O,ω SI sI (_v,SI,R.cl,R.nB,xrd _ _ _ _,ć,CO,vbb,XD,R.cl,R.nB,xFg,?_),Ζ xjA (_v,Xm npx SI,R.cl,R.nM,xvm _ _ _ _,ć,CO,vbb,ae,R.cl,R.nM,xFg,?_),[xjO,eQ],jC s2[qq[qi H1 x CO x6L]][λ c o e=>yY nx Eo] YN[sh[(qi H1 x CO x6L) x] CO Vk x6L] ae[qi H1 x CO x6L] H2,(_v,Cv hp,R.cl,R.nC,vdj,dck,Á,Cv Yu,xTl,ck,dck,Á,Cv Yu,λ c dc H3 nc s3 hc=>?_),tB ncx[Eu x][sM YN nc] (ć,CO,vbb,Dz YN,R.cl,R.nC,xFg,?_) xdV,SB s4[qq[qi H3 x CO xZT]][λ c o e=>yY nx[wN e]] hx4[sh[(qi H3 x CO xZT) x] CO Vk xZT] ae,Fx hc4[sh[(qi H3 x CO xZT) c] CK dc[x0f[ju S]]][Xm ncx hc][qi H3 x CO xZT] H4,SL hC4[xxQ H4 p g S b G][CC c o e[Fp e]] (ų,Fp hp,il,p,ck,g,vbt,hC4,gQ),Cc s5[xCq mx] XS[(nO H4 mx) l=Ak mx] ae nlx[E8 x][ik hx4],lD H4 l mx H5,oS (ć,CO,vbb,Dm hx4,R.cl,R.nG,xFg,?_) xnL[AK[k x c l _ nx[none_of s2 nc][iJ s4] ((Vk,ae),(dc,Xm ncx[Dm hc4]),Xm nlx XS,hC.byt) λ c o e=>yY nx[xCM e]]])
abbrev xtV:RM:=xIg 0
abbrev xtB:RM:=xIg 1
abbrev xtG:RM:=xIg 2
abbrev xwT:RM:=xIg 3
abbrev xpH:RM:=xIg 4
abbrev xwu:RM:=xIg 5
abbrev xwc:RM:=xIg 6
structure CRe (K:Frag)(mg:Τ)(C:RA):Prop where
 cl:X5
 nC:gM "course"
 nW:ynL
 nB:gM "begun"
 nF:ymM
 m:mg "Reading"=Ff
structure Rdg (K:Frag)(mg:Τ)(B D Gx CW C0 C1 C2 C3 CK Sk CO C G Ce cM cH cK cT:RA):Prop where
 er:xLq
 pr:ye6 CK
 bk:Tbk Â Ğ C G Ź
 wl:xLu Gx
 tt:CRe Â Ce
 take:Ij[xZq ztA yfu Ò]
 init:Ij[yk0 xtV/\xPd/\xX0 Ce]
 twin:xxB Ce zqk xtB
 mark:xxB Ce znr xtG
 tail:aW Ce "read_tail" "Reading.read_tail" xwT xV4
 block:aW Ce zna xpH ydN
 parts:xxB Ce "read_parts" "Reading.read_parts" xwu
 thru:aW Ce "go_through" "Reading.go_through" xwc Jaj
structure xvh (Ce CO CK:RA)(H:Hp)(p co ck g wt:RA)(S:LE)(b:Nat)(G W:LE)(bg fn:Bool):Prop where
 ob:∃dx,ni p Ce sU
 cr:Ub H g S b G
 ws:H wt=cj
def xvh.ne (h:xBu H p zcc W bg fn):uV co/\yad/\uV g/\x9z/\wt≠co/\wt≠ck:=by
 show(xRp h,xLZ zgL Yu hC.ch,(oM,oM,jh hC.gr B0,jh hw B0,aN hw U7 B0,aN hw Yu B0))
 ·show(xR7 hp U7,ven)
 ·show(ver,xPA[jz z])
def xuE.off (h:Ub H g S b G)(s:∀c o,Μ=LT->A9->Bo=LT)(h1:uV co)(h2:yad)(h3:uV g):Ub H' g S b G:=h.keep λ c o e hc=>s c o e[by rcases hc with rfl|rfl|rfl<;>assumption]
inductive xln (Ce CO CK:RA) (vs:SC) (H:Hp) (Q:VK) (RW:XK):Prop
 |mk (p dx:RA) (h0:vs=Cw) (h1:ni p Ce []) (h2:∀co ck g wt H',Bf co->xZr->xBu č g wt [] 0 i_ false false->o8[Μ=LT->A9->Bo=LT]):xln ze3
def xam:jB xtV:=Uf
def xmv (F:yk0 xtV)(T:CRe Â Ce)(R:xEh):pS 6[xln ö]:=by
 show(SP R.init,DW xam[λ RO A outer st H vs Q E hr h=>?_],ze p zce k,CY[bO[ml[xpN FI R] hr R.m][bO yw[xDJ bV bV]]])
 intro x dk nx ndk nek;show(Gr zkd zgb zmj,Cc zrK k1 zmk Yy xZr x6D);clear TH s0;show((va2,vbn,SI,vbC,xFC,?_),jC Sw[BG[(xKr TP) p] Ce TP] ae k2[∀b o,xST=LT->X'->(xKr TP) b=LT][λ b o e n=>W8 n][xKr TP] H2,EJ Z9[UV wt nwt],veU,(_u,SW,_s,vbx),vd7,Υ (_u,ae,vbj,(VZ zfA[G8[ir Η]] D5 T2 Su xN1),?_) (_u,ae,vbD,(VZ [_,_,_,_] zo2 D5 T2 Su[JN SV xN1]),?_),[eQ,eQ,xz3],SL k3[∀b o,xST=LT->X'->(xM2 H3[ycz x wt]) b=LT][λ b o e n=>Κ zru][k x ck g wt _ nx Yy[zu ae[hC.off k3 npx.symm[TD[Ek hp Yy Yy]][TD[xIH hC.gr SI]]][Κ nwp hw3]] λ b o e n=>wq[k1 _ _ e] n])
def xeC (co co' wt)(bg fn):kO "course" co' sU=xzF co' wt bg fn:=gK[AQ "course" "course" _=_] Cm
inductive xlq (Ce CO CK:RA) (vs:SC) (H:Hp) (Q:VK) (RW:XK):Prop
 |mk (p co ck g wt:RA) (S:LE) (b:Nat) (G W:LE) (bg fn:Bool) (h0:vs=Cw) (h1:xBu H p zcc W bg fn) (h2:∀p' co' ck' g' Xu H',Bf p'->Bf co'->Bf ck'->yiy H' p' co' ck' g' Xu S b G W bg fn->AA->xXv p'):xlq ze3
def xlc:xAT ydO xtB:=Uf
def xnb (F:Cb zqk xtB)(Z:oB):pS 8[xlq ö]:=by
 show(Ty T Z.tt X Z.pr.H.N.X,x6i,ycT Z.pr.otwin,DW xlc[λ RO A outer st H vs Q E hr h=>?_],(vbc,S,b,G,W,bg,fn,rfl,((dx,hp),hC,hw),k)=h,AH zgl BM zgo BM[DT[zX 1 xlc.nd[ml[xmv FI T Z.pr.R] hr7 T.m][xXW[ydF Tw[xip Tw.F Z.pr] hr6]][ad[xXW[xRf xOC]]
  (ad xYO
  (ad xYO
  xOy))]]])
 intro x dk nx ndk nek;show(ω s0[xJX Ce][g9 x dk[λ co1 ck1 g1 wt1 H1 _ _ h1 TH=>Xq]],xZl s1 zoH Vk XD h1.ob);clear s0 TH ndk nek h1;show(pd Y3 zgL (Ė,sI,vbC,wj,co,Y3,Á,FQ U7,il,vbA,vbt,CC c o e Eo,λ co2 ck2 g2 H2 nco nck ng hC2 s2=>?_),Df nxo co2 x[sM XD nco] nxk[ck2≠x][sM XD nck],tB nxg[g2≠x][sM XD ng] (ć,Ce,vbb,Cv XD,vbC,g_) xeC,SB s3[qq[qi H2 x Ce x1W]][λ c o e=>yY nx x8y] hx3[sh[(qi H2 x Ce x1W) x] Ce Vk x1W] ae,Fx hC3[ybs[qi H2 x Ce x1W] co2 ck2 g2 S b G][hC2.off znR nxk nxg][qi H2 x Ce x1W] H3,(Ė,Dz hp,_s,zo,vba,BZ[Dz hw],gQ),Cc s4[xCq xAJ] hl4[(xSG xAJ) l=cj] ae nlx[E8 x][ik hx3],Ty hC4[hC3.keep λ c o e _=>Fp e] s4 xVP,Fx hx4[(xSG xAJ) x=_][Xm nlx.symm hx3][xSG xAJ] H4,SL zgb x9O (ć,Ce,vbb,hx4,_s,g_),Ζ xz2 (vfB,vbj,jW,ć,Ce,vbb,ae,vbj,g_),yz AT eQ (vfB,vbD,rz,ć,Ce,vbb,ae,vbD,g_),Γ xwA eQ[AK[k x co2 ck2 g2 l _ nx[xGM nco][xGM nck][Ud Vk ae[hC4.off znR nxk nxg][Κ nlx hl4]] λ c o e=>yY nx[Fp e]]])
inductive xlo (Ce CO CK cM:RA) (vs:SC) (H:Hp) (Q:VK) (E:XK):Prop
 |mk (p co ck g wt:RA) (S:LE) (b:Nat) (G W:LE) (h0:vs=Cw) (h1:xBu H zfa false) (h2:W.take 3≠ykv->BK cM) (h3:W.take 3=ykv->W.length<3->wg) (h4:∀Y Xu H',W=184::66::1::Y->AR č g Xu S b G Y false->o8[Μ=LT->A9->Bo=LT]):xlo ö cM å
def xbk:jB xtG:=Uf
def xhT (F:Cb znr xtG)(Z:oB):E4 32 Jaa[xlo ö cM]:=by
 show(Ty T Z.tt X Z.pr.H.N.X,(_,_,Nm)=Z.pr.nmark,(d,hm,hd)=Z.pr.mark,xx1 xbk Ĉ,(vbc,S,b,G,W,ý,kE,k0,k)=h,vdk,ZH[Iz[gz[xhm Nm Z.pr Z.er] Nm.m Nm.F.kp Nm.b cv xOC][d8 xuS x74[IT[oa d hm]][xDJ bV[xAi B4[IT[oa d hm]]]]]] (Ė,va4,T.nW,zo,wt,W,vb2,Ο h3 l_,kE) (Ė,sI,_s,zo,vba,BZ xZs,vbs,.inr[hd H1],Ć,xIF[VT[k0 h3[N7[TD[h[JY ?_]]]] _ s1]]))
 rotate_left
 ·show(E1 JO[Ψ 3≤_],Au[IE[Wg Ġ Ġ z]])
 show(qv h Jq h,(h:rJ W.length)=by
  have:Ψ 3≤xGu:=h;show Gm D2 D2[ycw this])
 clear kE k0;show(B5 Y Y[W=184::66::1::Y] (W.drop 3,gD[Ky 3 W] h3[Kg h] this.symm),(_u,sI,vbj,g_),Ζ AT (Ė,ae,_s,zo,vbs,.inr[hd _],Á,vba,RV.of[Xm n4 xZs],gQ),(ec:x2c[AY[184::66::1::Y]][BN ([xO2,xQk,xSp]:SC)]=mY)=dW _ 3,uN,tB zdv[TD[Ek ae zcJ]] (_u,xSy Up.symm,_s,g_) xz2,BU kp[∀c o,Μ=LT->A9->xM2[nO[xKr yft] mY][xw8 l true false] c=LT][λ c o e n=>by
  show(ql[(xKr yft) c=LT] x1e,Γ CP[xJI h1 nl] h1)][k Y l È[zu ae xZ0[xSy Up]] kp])
inductive xlp (Ce CO CK cT:RA) (vs:SC) (H:Hp) (Q:VK) (E:XK):Prop
 |mk (p co ck g wt a:RA) (S R:LE) (b:Nat) (G W:LE) (h0:vs=jP) (h1:AR H zfa) (h2:Α=ur) (h3:R=Aq->ZX zlI) (h4:R≠Aq->BK cT):xlp ö cT å
def xot:XV xV4 xV4 xwT:=Uf
def xir (F:ynD "read_tail" xwT)(Z:oB):x2e xV4[xlp ö cT]:=by
 show(xF8 T Z.tt Ta Z.pr.R.tail,xx1 xot Ĉ,(vbc,a,S,R,b,G,W,ý,ha,k,kE)=h,vdk,x72 hu[DT[vB xYc zoh[og Z.er.mT Z.er.xT][xBC bV]]],vfn);rw [io] at YS hl;show tN (a,vbd,RV.of YS,xWP,r_)[BL[D3[xX2 b qI][qc Aq]][D3 R Aq][xL2[xJ6 zlC]]];by_cases e:R=Aq
 rotate_left
 ·show xKT e[bY[kE e _ s1]]
 show(Ζ[JY e][bD (_u,sI,vbD,g_)],[xwA],BU kp zlD[Fl e zo4])
def xma:XV[xBe "block" "text"] ydN xpH:=Uf
def nB (T:LE):Nat:=(xMk 63)/64
def xqV (T:LE)(Rs:HB):Prop:=xXU Β/\∀j R,xE2->Bl T j R
abbrev tl (T:LE):LE:=xZM
def xqW.all (h:xqW T Z):∃Rs,xqV T Rs/\Z=184::66::1::(xWn DZ):=by
 show IG Rs R hl hRs hL rfl;unfold nb at hl;rcases hL with⟨h0,rfl⟩|⟨h0,pb⟩
 ·show Ef Rs (by show(xYY,Cn[Fs zex[xG5[Um[vd 3 63] xH2]][JB 64[tF[xCo xHe]]] n_[Ct 64 hl][xKo zj]][Fs 64 [_,_,_,_,_][JB 64[Bu[nL 64 JD]]][xG5[qE[.a[vd 4 63][JB 64 Dk]]]] Ę[xb jj][Ge h0[JN ER x80]]]),hRs)[CM Ku]
 ·show(xJP[Rs++[R]] (by show(lP[_+1=_],xYY);lia,HL j R')[Dq Mq],gJ j Rs.length h h)
  ·show A3[Ld h] e[hRs j R' e]
  ·show(wL[KM h] e hj[j-Rs.length=0][xUX (xLR e).1],lK hj,Fv[j=nb T][by show(uy,gH[HK [_,_,_,_][C7 m6][AV[qE Xs]] ST oV[JQ hj] τ] [_,_,_] Φ JA ST jj h)])
   unfold Bl ĥ;show Sc[Kg[by show([Kc],uy,C8 PY[Ks Jl])]] pb
def xpS (h:64*i<F.length)(hb:DH F):TW xJE x2a:=BU hl[BF xJE[min 64[F.length-64*i]]][yX ĥ J7 Kc] (Tz[K8 V1],by lia,Ej zbh[yy 64] bP oV DU,Tz[KA xOw],xsp xDW)
def rem (T:LE)(Rs:HB)(j:Nat):LE:=d9 x4y DZ
def xsw (h:xE2):xJN=R++xVC[j+1]:=by
 show(JK h'[xLR h],xCU rem[Ll h'] LG JT)
def Sq:xAT ["self","signs","place","part","row"] xwu:=Uf
abbrev xts:RM:=qL 126
abbrev xwb:RM:=qK 126
abbrev xtI:RM:=xAz 126
abbrev xsb:RM:=zC 126 3
abbrev xtC:RM:=top 127
def fQ (r:RA):yn:=[(("reading",x5))]
def xsF (r):kO "reading" r []=fQ r:=rfl
def xrj (r):Vq[fQ r] "reading"=yo:=xIp xsF ay
def xfB (r){x:Str}(h:o1[x="reading"]):eN[fQ r] x:=by
 rw [<-xsF,ay,Kh h];rfl
def xi4 (r r'):kO "reading" r'[fQ r]=fQ r':=gK[AQ "reading" "reading" _=_] Cm
structure COp (K:Frag)(mg:Τ)(C:RA):Prop where
 cl:X5
 nR:gM "reading"
 m:mg "Opener"=Ff
 init:Ij[ylr xts/\xPd/\TY]
 feed:aW C zhX xwb Jaj
 over:gP zqQ xtI
 fin:gP zo1 xsb
def xrs:XV[xBe "row" "signs"] Jaj xwc:=Uf
def xaO:jB xts:=Uf
def xyo:XV ["self","row","come","trial","signs"] Jaj xwb:=Uf
def xbc:jB xtI:=Uf
def Db:jB xsb:=Uf
def xqZ:XV ["row","opener","text"] Jy xtC:=Uf
universe K26.Ck
namespace K26.Ck
open PySem L2 QQ
seal PE PA PS Ó PT PW PG PI
abbrev xwa:RM:=top 132
abbrev xwK:RM:=top 133
inductive S_ (K:Frag) (vs:SC) (H:Hp) (Q:VK) (RW:XK):Prop
 |mk (a:RA) (ns:Ya) (k:Nat) (h0:vs=sZ xDU) (h1:xTz a) (h2:ra[x6t k]):S_ K Ã
def xdz:XV xMd xMd xwa:=Uf
def xon (F:Ρ zid xMd)(X:u6):f7 xMd[S_ K]:=by
 show(BA xdz[λ RO A outer st H vs Q E hr h=>?_],IG a ns k rfl hS q,ZH[vB dX χ yv[Cj[Hh χ]] xYf] (ě,Á,.inl hS,vcf) Hd)
 ·show(SL h2[xNN k][rO xBL JO xNc] (ě,_,_,V.int[x6t k],Ú,hS,aF ?_,q),zm KS[JX h2] Kb[JX h2])
 ·show Df UR[vo zv[BN jy]] true Ç[xWj k][by
   rw [JO] at UR;by_cases h:zv<ynx
   ·show Yl h UR
   ·exact QP.mp[ybX h]]
  try dsimp only
  show vH Kb[KZ h2] q q
def xqx (c k:Int):Int:=((c*48271+16807*k*k+69621*k+11)%2147483647*69621)%2147483629
def K_ (c k:Int):Nat:=(xqx c k).toNat
def xcd (c k):Ψ[K_ c k]=xqx c k:=Int.toNat_of_nonneg[Int.emod_nonneg _ Z9]
inductive ŕ (vs:SC) (H:Hp) (Q:VK) (RW:XK):Prop
 |mk (c k:Int) (h0:vs=[.int c,x9p]) (h1:0≤k) (h2:Hc k) (h3:zw[K_ c k]):ŕ Ã
def xbX:XV xMn xMn xwK:=Uf
def xm5 (F:Ρ ziu xMn):f7 xMn ŕ:=by
 show(BA xbX[λ RO A outer st H vs Q E hr h=>?_],IG c k rfl h0 h1 q,ZH[Cj[mz[rR xzI[mz[Rd[Ee[Ee[xSw xzI][ap xzI[wx χ] χ]][wx χ]]]]]]] (Ø,zQ Ċ,Ø,xEa,Ø,zQ Z5 Z5,ø) (Ø,xEa,Å,Å,Å,(d6[IF<2147483647]),Å,zQ Ċ,Å,(d6[IF<2147483629]),?_))
 try dsimp only
 show A3[BL (vN[K_ c k]:V)[V.int[xqx c k]][xMy[xcd c k]]] q q
universe K26.Ck
namespace K26.Ck
open PySem L2 QQ W17 W16 BP
seal PE PA PS Ó PT PW PG PI
abbrev xnT:RM:=top 134
def InH (H:Hp)(a C:RA):Prop:=∃vx,dE[xAP C5 vx a]
structure Exc1 (K:Frag)(mg:Τ)(cP c:RA):Prop where
 x:oo c
 n:Eu cP
 s:mw[xCd c[.ref cP]]
def wds:C6:=["row","bits","nobits","lengths","shares","code","table","pieces","body","head","check","mark","tail","cut","behind"]
def WdI (i:Nat)(z:Str):Prop:=HE 8/\B8 wds z
@[elab_as_elim] theorem wds_go {P:RB Str} {i:Nat} {z:Str} (h:B8 wds z) (h0:∀i z,i<8->P i z) (p8:P 8 "body") (p9:P 9 "head") (p10:P 10 "check") (p11:P 11 "mark") (p12:P 12 "tail") (p13:P 13 "cut") (p14:P 14 "behind"):P i z:=by
 show Vv i 8
 ·exact h0 i z q
 show(JK j[Nat.exists_eq_add_of_le' q],xGC j)
 ·show qw p8
 show xGC j
 ·show qw p9
 show xGC j
 ·show qw p10
 show xGC j
 ·show qw p11
 show xGC j
 ·show qw p12
 show xGC j
 ·show qw p13
 show xGC j
 ·show qw p14
 show yN
inductive spWord (cs:Ξ) (vs:SC) (H:Hp) (Q:VK) (RW:XK):Prop
 |mk (a C:RA) (i:Nat) (z:Str) (h0:vs=Dl) (h1:InH H a C) (h2:xKl C) (h3:WdI i z) (h4:IH zoO):yfp Ã
def names:C6:=["BadRow","BadBits","NoBits","BadLengths","BadShares","BadCode","BadTable","BadPieces","BadBody","BadHead","BadCheck","BadMark","BadTail","Cut","Behind","Over","NoRange","BadLetters"]
structure Ers (K:Frag)(mg:Τ)(cP:RA)(cs:Ξ):Prop where
 tuple:x4S
 verr:ylp
 mP:ylj=υ cP
 xP:oo cP
 len:∃c0 c1 c2 c3 c4 c5 c6 c7 c8 c9 c10 c11 c12 c13 c14 c15 c16 c17:RA,cs=[c0,c1,c2,c3,c4,c5,c6,c7,c8,c9,c10,c11,c12,c13,c14,c15,c16,c17]
 m:jJ i x Str c RA[V7 names->xKl c->cY=υ c]
 k:jJ i z Str c RA[WdI i z->xKl c->Exc1 Â cP c/\xx6 c/\xEn c/\∀(j:Nat) (d:RA),aA cs d->UF[ybk c xOD][D3 j i]]
abbrev Tw (H:Hp):dS Ξ yhE:=Paired λ p x=>E2 p [yid,.bl ZF]
def Tw.same (s:AA)(h:xTX H):xTX H':=by
 induction h with
 |nil=>show zG
 |cons h _ ih=>show xj[FV h]
def Tw.append (h:xTX H)(s:Tw H qs ys):Tw H[ps++qs][xs++ys]:=by
 induction h with
 |nil=>exact s
 |cons r _ ih=>show xj r
def Tw.get {i:Nat}(h:xTX H)(e:B8 ps p):∃x,uG/\E2 p [yid,.bl ZF]:=by
 induction h generalizing i with
 |nil=>show Hy
 |cons r _ ih=>cases i with
  |zero=>show xi[AK r]
  |succ i=>show xRN e
section
variable (K:Frag)
def xes:xAl:=λ xs H Q=>∃a C vs c b,xs=sZ[xkz c]/\EO zn8/\dE[xXm a]/\xS9/\xRM C5 c/\xK1
def xjJ (z:Str)(c:RA):TE:=tTup[xB0[tC xGj][tCB[xes K][Bk 0[x4b xBj]]]]
def xwL:xn->TA
 | []=>è
 |x::r=>Õ[xjJ K Yo ZF][xwL r]
variable {K}
def xfc {X:Cx}{z x:Str}{j k:Nat}{p1 p2 p3 p4 p5 p6:Pos}(hi:xNh "isinstance")(hm:yr=υ c)(hN:AM[HC X.N 0[Iw "_law_e"]])(hv:autoParam[x3x "_law_e"] xlZ)
  (hg1:AM[xGA "isinstance"]) (hg2:AM yF) (hd:sV)
  (hs1:AM[sR [xIY,xyK]=nN xIY::sR [xyK]]) (Vj:AM[sR [xyK]=nN xyK::sR []])
  (hs3:AM[sR [xBv xGj p1,x0M zey p5]=nN[xBv xGj p1]::sR [x0M zey p5]])
  (hs4:AM[sR [x0M zey p5]=nN[x0M zey p5]::sR []])
  (T6:AM ((backTo p5[starEach [.Name x p4] X.env]).any (·.1)=false)):
  Ax[.Tuple [xBv xGj p1,x0M zey p5] k p6][xjJ X.K z c]:=
 aT[ac bd[B9[xqI xns hg1 hi L7[ac[xiI hN hv][B9[xrW hg2 hm rfl hd] Vj] hs1] Ċ hs1 T6] hs4] hs3]
def xm8 (ci:xS9)(h0:YK 0 Cs)(l):∀bs H Q,Paired[λ x b=>xRM C5 x55] l bs->InH H a C->
  (∀H' ps,C' H H'->Tw H' ps ((l.map (·.1)).zip bs)->Q[ps.map V.ref] H')->xwL K l Ż:=by
 induction l with
 |nil=>intro bs H Q hp _ k;show EL hp[k H [] Bq .nil]
 |cons x l ih=>
  intro bs H Q hp hE k;cases hp with
  | @cons _ b _ _ r rr=>
  show(pd vx hE hE (_,h0,a,C,vx,x55,q_,(ZF,rh),hE,ci,r,tT,pL),SL s1[qq[sG H p [yid,Cf]]][λ c o e=>yY hp e][ih _ _ _ rr[xZY[FQ hE]] λ H' ps s2 tw=>?_],xKR[p::ps] Gg[.cons[Cv ae] tw])
universe s
def Ug:XV ["_law_e","_law_some","_law_found"] x4P xnT:=Uf
structure xrw (H0 H:Hp)(a C l:RA)(xs:yhE):Prop where
 s:C' H0 H
 e:InH H a C
 l:∃ps:Ξ,Vw=Ak VW/\xTX H
def xrw.first {a C l:RA}(e:InH H0 a C)(s:C' H0 H)(tw:xTX H)(hl:DP):x0i[o5 VW] a C l xs:=by
 show((s1:qq[o5 VW])=λ c o q=>uC q hl q,JI vx e e (x4k,xZY[FQ[FV e]],ps,ae,tw.same s1))
def xrw.more {a C l:RA}(S:x0i H a C l xs)(s:Ik)(tw:Tw H1 ps ys)(hb:CU b):
  ∃qs:Ξ,xTB l=Ak yc8/\ao qs.length/\∀p,Ω[xTB p]->x0i[EN xTB p[yc8++VW]] a C p[xs++ys]:=by
 show(TL,(s0,(vx,e),qs,hl,tq)=S,π,SL s1[xVz xTB][λ c o q=>uC q hb q] (qs,FQ[FV hl],Oz tq,pL),(s2:C' xTB[EN xTB p[yc8++VW]])=λ c o q=>uC q hp q,jA s3[(x4k).trans s2] (s0.trans s3,xZY[Dz e],qs++ps,xD0,(tq.same s3).append[tw.same Gg]))
def xaa:∀x σ H A B,rF[xZa->xZb]->xOV zsR x Ä A->xOV zsR x Ä B:=by
 rintro x σ H A B m ⟨a,xs,e1,e2,e3,v,r,e4,v2,r2,e5,e6,z⟩;exact(a,xs,e1,e2,e3,v,r,e4,v2,r2,e5,e6,m _ _ z)
def ndW:xEk ynU:=Z8
def xtj (h:n≤40):sS n:=Ga h
def xaD (ci:xS9)(h0:YK 0 Cs)(l)(bs)(pr:Paired znC bs)(hE:InH H a C)(hn:l.length≤3)
  (k:∀b H' ys,ys=yjZ bs->ys.length≤l.length->xrw H H' a C b ys->D.nx[σ.set 1[υ b]] H'):xwC[c_[xwL K l]][xu2 1] ì:=by
 show(xDp[xm8 ci h0 l bs H _ pr hE λ H1 ps s1 tw=>IQ ?_ Ì[Fl b È[Γ OM JO DU][.first hE s1 tw hb]]] e[Oz tw],[JO,e,OM,JO],xtj[ET ù xyJ xHV hn DU])
def xfM (ci:xS9)(S:x0i H a C b xs)(h0:YK 0 Cs)(h1:YK 1[υ b])(hx:xs.length≤m)(l)(bs)(pr:Paired znC bs)(hn:l.length≤3)
  (k:∀b' H' ys,ys=xs++yjZ bs->ys.length≤m+l.length->x0i H' a C b' ys->D.nx[σ.set 1[υ b']] H') (hm:kJ[m≤20]):xwC[Vb ē 1[c_[xwL K l]]][xu2 1] ì:=by
 show(xDp[De h1[xm8 ci h0 l bs H _ pr S.e λ H1 ps s1 tw=>?_]] e[Oz tw],TV OM JO,EJ[Ex[xtj[HK zfA[Hk EA] xHV hn[JQ e] DU]]][UV b1 SH],Dj qs hl hq kk[S.more s1 tw SH] (b,b1,Å,hl,ae,X8 JO[xtj[Hu [_,_,_,_,_][C7[Bu[AV xYj]]][EM 20[Hk[Il Hb]]] Δ xHV[JW hx hm] hn[Ge e[Ge hq DU]]]],rG[Fl p È[bE JP OM JO[JN hx DU]][kk ĳ]]))
def xiw (xs:yhE)(i)(x)(h:uG):Xg ((xs.take[i+1]).filter (·.2)) x yfX=Xg ((xs.take i).filter (·.2)) x yfX++(EB ZF [yfX] []):=by
 rw [Lk,h];simp only [QS,KP,J8];by_cases hb:WF ZF
 ·simp [hb]
 ·simp [hb]
def xtM {cP:RA}{cs:Ξ}(F:Ρ "_law_word" xnT x4P)(T:u6)(Z:Ers Â cP cs):xSz x4P yfp:=by
 show(TL,(c0,c1,c2,c3,c4,c5,c6,c7,c8,c9,c10,c11,c12,c13,c14,c15,c16,c17,rfl)=Z.len,π,BA Ug[λ RO A outer st H vs Q E hr h=>?_],(a,C,i0,z,rfl,hE,hC,hzz,k)=h,xFn[DJ zdl[aK[ac[xOk 0][xJ9 1 2]]] zdl[xEf[xJ9 4 3]][DJ zdl[xEf[ac[xOk 5][xJ9 6 13]]] zdl[xEf[xJ9 7 8]][DJ zdl[xEf[xJ9 9 10]] zdl[xEf[xJ9 11 12]][gO Ug.nd[xEf[ac[xOk 14][xJ9 15 16]]][Em zdl[xEf[B9[xOk 17]]][xar (i:=2) (N:=ynU) (g:=xOV zik) (tt:=xwD xXs) (te:=lg) Ug.nd rfl[Or.inl rfl] ze2 Z8[xu1 χ]
    (λ fp s H=>xIe[mF 0 ndW[mF 1 ndW xz8]])[λ fp s H=>xvI χ][λ fp s H=>AB] Z7][xzB[xvI[SD xns T.isi L7[AL 0[xKB[.ty "ValueError"] Z.verr PyProof.Rows.Boot.«ValueError» rfl]]]]
    (xvG xkZ Z7 Z.tuple Px Jk) Aa]]]]]],(_,ci,hv,kk)=Z.k i0 z C hzz hC,π,x9P[λ R g=>xaD ci rfl [(("row",c0)),(("bits",c1)),(("nobits",c2))] _[xLB[zh 0][zh 1][zh 2]] hE Z6 λ b0 H0 y0 e0 n0 S0=>DG][λ R g=>xKv 3 S0 n0 [(("shares",c4)),(("lengths",c3))] _[si[zh 4][zh 3]] Z6[λ b1 H1 y1 e1 n1 S1=>DG]],x9P[λ R g=>xKv 5 S1 n1 [(("code",c5)),(("table",c6)),(("cut",c13))] _[xLB[zh 5][zh 6][zh 13]] Z6[λ b2 H2 y2 e2 n2 S2=>DG]][λ R g=>xKv 8 S2 n2 [(("pieces",c7)),(("body",c8))] _[si[zh 7][zh 8]] Z6[λ b3 H3 y3 e3 n3 S3=>DG]],x9P[λ R g=>xKv 10 S3 n3 [(("head",c9)),(("check",c10))] _[si[zh 9][zh 10]] Z6[λ b4 H4 y4 e4 n4 S4=>DG]][λ R g=>xKv 12 S4 n4 [(("mark",c11)),(("tail",c12))] _[si[zh 11][zh 12]] Z6[λ b5 H5 y5 e5 n5 S5=>DG]],x9P[λ R g=>xKv 14 S5 n5 [(("behind",c14)),(("over",c15)),(("range",c16))] _[xLB[zh 14][zh 15][zh 16]] Z6[λ b6 H6 y6 e6 n6 S6=>DG]][λ R g=>xKv 17 S6 n6 [(("letters",c17))] _[jt[zh 17]] Z6[λ b7 H7 y7 e7 n7 S7=>DG]],TL,(s8,(vx,e8),ps,hl8,tw8)=S7,π,SB hfin (((y7.filter (·.2)).map λ x=>V.str x.1)=[V.str z])[by
  show([e7,e6,e5,e4,e3,e2,e1,e0],(h8,hz)=hzz)
  revert h8
  refine wds_go hz zdp zdp
  ·exact λ i z q h=>absurd h[ic q]
  all_goals exact JC] hlen[y7.length=18][by rw [e7,e6,e5,e4,e3,e2,e1,e0];rfl])
 clear e0 e1 e2 e3 e4 e5 e6 e7 n0 n1 n2 n3 n4 n5 n6 n7;generalize y7=xs at*;show SL hps[ao ps.length][Oz tw8] (HU (gX b7 hl8 (λ l2 Su=>xty (K:=K) (a:=b7) (xs:=VW) (λ i ys H'=>ys=((xs.take i).filter (·.2)).map[λ x=>V.str x.1]/\H' l2=some[.lst ys]/\C' H7 H')
  (Z6,ae,λ c o e=>yY Su e)[λ i ys H' _ p=>RV.of[Et p _ _ hl8]] Î xaa Î)))
 ·rintro i x ys σ H' hx ⟨e1,e2,s9⟩ hσ;show(YE ĳ rfl p[B8 ps p/\x=V.ref p][by
   show xHH hx;cases e:ps[i]? with
   |none=>show yf zcN
   |some q=>show xc hx[ID q[xHp hx]]],rq y hy Yz[tw8.get hp]);obtain⟨u,v,rfl⟩:∃u v,σ=[u,v]:=by
   match σ,hσ with
   | [u,v],_=>show SQ u v
  show xDp (p,Á,Sr.of[xE9 Yz],vbG,Å,Ï,?_) fs[xiw xs i y hy];cases hb:y.2 with
  |true=>
   try dsimp only
   rw [Cm];rw [hb,Cm,<-e1] at fs;refine xW e2 ?_ fs.symm ae xJ7
   ·have:=rB hy;show(xJ3 JO,FR l1[Oc[λ x=>ZF][xs.take i]] J7 l1,BU h18[i<18][yhS hlen][Kw[JW l1 DU][NU h18 Z9]])
   ·show((T1:Eu l2)=pq Su,Κ T1[xE9 e])
  |false=>
   try dsimp only
   show wG KF;rw [hb,yaf,Ku,<-e1] at fs;show Iv rfl fs.symm e2 s9
 ·rintro ys H' ⟨e1,e2,s9⟩;show Gj DG g;rw [JO,hps,K0,hfin] at e1;show(uK,xAf (_t,C,vx,ybd,ŵ,(0,.inr Dy),xE9 e8,ci,hv,Á,VU)[kM _ l2 bh rfl[jk[RV.of e2][UV t ht]]][Fl t[(s8.trans s9).trans λ c o e=>yY ht e] ae])
 ·rintro σ H A B m ⟨x,e,c,e2,z⟩;show AG x e c e2[m _ _ z]
 ·rintro σ H A B m ⟨x,e,z⟩;show Ef x e[m _ _ z]
universe K26.Ck
namespace CK
def xdM {w s:Nat}(hw:0<w)(hs:s<2^w):xW9 w 1=Fm[2^w][s*2]:=by
 show([No],SB e[2^w=2^(w-1)*2][by rw [<-LA];congr 1;exact x1Z hw] hp[0<2^(w-1)] yR,(RQ:s/2^(w-1)<2)=OW[Kk hs e]);by_cases h:2^w≤s*2
 ·have:AJ[s/2^(w-1)]:=(P8 hp).mpr Z5;show(HI[s/2^(w-1)=1][Nat.eq_of_le_of_lt_succ this RQ],CS,x91)
 ·show(xD1[s/2^(w-1)=0][O6 Z5],x91)
def xeZ {w p s:Nat}(hw:0<w)(hp:p<2^w)(hs:s<2^w):E6 s=if xW9 w 1 then(s*2)^^^(2^w+p) else s*2:=by
 show Hf T[xdM hw hs];by_cases h:2^w≤s*2
 ·show(xNH zrn,Gn[s*2%2^w=s*2-2^w][by
   rw [Nat.mod_eq_sub_mod h,Mr Z4]][s*2=(1*2^w)^^^(s*2-2^w)][by
   rw [xrG 1 _ w Z4];omega],(e3:2^w+p=(1*2^w)^^^p)=sr[xrG 1 _ w hp],xJ3 e3)
  conv=>rhs;rw [e2]
  rw [NR[1*2^w] p,<-MT,NR[1*2^w],MT,MT,NR p,<-MT[1*2^w],QN,Nat.zero_xor]
 ·simp only [h,decide_false,OR,Mt,QO];exact Mr[N7 h]
def lay (w m s V:Nat):Nat:=(s*2^m)^^^((V%2^m)*2^w)
def xni {w m s V:Nat}(hw:0<w):xJk[m+1] s V=((s^^^((V/2^m%2)*2^(w-1)))*2^(m+1))^^^((V%2^m)*2^w):=by
 unfold lay;show(Gn[V%2^(m+1)=((V/2^m%2)*2^m)^^^(V%2^m)][by
  rw [xrG _ _ m[xxr yR],LA,Nat.mod_mul,Lx[2^m],MM]][(V/2^m%2)*2^(w-1)*2^(m+1)=(V/2^m%2)*2^m*2^w][by
  rw [Lh,Lh,<-ML,<-ML];congr 2;lia],[e1,-xrF,-xrF,e2,MT])
def xbB {w m s V:Nat}(hw:0<w)(hs:s<2^w):(xJk[m+1] s V).testBit[w+m]=(s^^^((V/2^m%2)*2^(w-1))).testBit[w-1]:=by
 show(ym8[xni hw] Qw,SB h1[A2[((V%2^m)*2^w).testBit[w+m]]][by
  apply PV;show Γ ML[Lx[2^w]][xXo yR[xxr yR]]] h2[m+1≤w+m] Z5,[h1,show w+m-(m+1)=w-1 by lia]);simp [h2]
def xbb {w p m s V:Nat}(hw:0<w)(hp:p<2^w)(hs:s<2^w):
  (DM[(xJk[m+1] s V)/2^(w+m)%2] 1[xJk[m+1] s V^^^((2^w+p)*2^m)][xJk[m+1] s V])=xJk m[E6[s^^^((V/2^m%2)*2^(w-1))]] V:=by
 show(FR hb[xbB (m:=m) (V:=V) hw hs] No hb,(hs1:s^^^((V/2^m%2)*2^(w-1))<2^w)=by
  show(CJ[xC4 ?_] e[2^w=2*2^(w-1)][by rw [<-Pk];congr 1;lia],Vz[xXo yR Jl]),[xeZ hw hp hs1,-hb,xni hw]);generalize s^^^((V/2^m%2)*2^(w-1))=u at*;unfold lay;by_cases h:(u*2^(m+1)^^^V%2^m*2^w)/2^(w+m)%2=1
 ·show(xNH zrn,[-xrF,Pk,-Lh,MT,MT,NR[V%2^m*2^w]])
 ·simp only [h,decide_false,OR,Mt];rw [Pk,<-Lh]
def xyf (w p n:Nat):DQ Ea
 |0,N=>N
 |k+1,N=>DM[xyf w p n k N/2^(n+w-1-k)%2] 1[xyf w p n k N^^^((2^w+p)*2^(n-1-k))][xyf w p n k N]
theorem xeX {w p:Nat}(hp:p<2^w):∀(m s V:Nat),s<2^w->Gy m V<2^w
 |0,s,V,h=>h
 |m+1,s,V,h=>xrc hp
theorem xiZ {w p n s V:Nat}(hw:0<w)(hp:p<2^w)(hs:s<2^w)(hV:V<2^n):∀k,xEQ->xyf w p n k[(V*2^w)^^^(s*2^n)]=xJk[n-k][Gy k[V/2^(n-k)]] V
 |0,_=>by
  unfold xyf lay F;rw [NQ,Mr hV,NR]
 |k+1,h=>by
  show Θ ih[xiZ hw hp hs hV k[Mz h]] e[n-k=(n-(k+1))+1] Z5;unfold xyf;show([ih,show n+w-1-k=w+(n-(k+1)) by omega,show n-1-k=n-(k+1) by lia,e],[xbb hw hp[xeX hp _ _ _ hs]]);congr 1;show _=E6[Gy k[V/2^(n-(k+1))/2]^^^_];rw [PU,<-LA]
def dv_end {w p n s V:Nat}(hw:0<w)(hp:p<2^w)(hs:s<2^w)(hV:V<2^n):xyf w p n n[(V*2^w)^^^(s*2^n)]=Gy n V:=by
 rw [xiZ hw hp hs hV n ρ];unfold lay;simp [Rw]
universe CK
namespace K26.Ck
open PySem L2 QQ W17 W16 BP
seal PE PA PS Ó PT PW PG PI
abbrev xuX:RM:=top 135
abbrev xtD:RM:=top 136
abbrev xsS:RM:=top 137
def xbJ:oC .LShift[wF[λ i j=>Z2 0/\xNS j/\i.natAbs<2^100000][i*xEN]]:=opI λ i j _ _ _ _ _ hc q=>by
 show(PyProof.Rows.lshift_int hc.1 ?_ q,xRt[PyProof.Rows.intBits_le[Et hc]][Az hc])
def xed (hw:xUa)(hb:xS5):ħ w p B=CK.F w p aJ[2^w-1] ygi:=yX ħ[xjK B.length B rfl hb][CK.G_F hw.facts.1]
def Us:XV ["_law_row","_law_wide","_law_number","_law_byte","_law_size","_law_divisor","_law_k"] xMm xuX:=Uf
inductive Ī (vs:SC) (H:Hp) (Q:VK) (RW:XK):Prop
 |mk (a:RA) (B:LE) (n p:Nat) (h0:vs=sZ FY) (h1:xKQ p) (h2:Α=ve) (h3:xEG) (h4:xGz) (h5:Ja[WD[ħ n p B]]):Ī Ã
def xtJ (F:Ρ ztD xMm)(X:u6):f7 xMm Ī:=by
 show(BA Us[λ RO A outer st H vs Q E hr h=>?_],(a,B,n,p,vb2,ha,hb,hlen,q)=h,yg0 h8 h16 hodd hp,DR[zX 2 Us.nd aj[vn AB 3 Us.nd[qP 2 Us.nd[Ee[rR xzI Ε] Ab]]][DJ 4 Us.nd[wx[x8x xtX O0 vk]] 2 Us.nd[xJm[ap xbJ Ε χ][x0N[uW[xDk χ]] AS]][Em 5 Us.nd[Ee[xDk χ][vA[aK xBX][xvG xhK Z7 X.int PyProof.Rows.boot_int[B9[yG bM χ aj]]]]][zU[xJx xIT] 6 Us.nd[ig[kW[mz[x0u Ε[yQ[uW[Ee AS χ]] Im]]]][qP 2 Us.nd[xJm Ε[x0N EH[yQ[uW AS] Im]]]]]] Ε]]][gX a ha[mr K a vU[λ i σ H2=>∃v,σ=[Cs,Xt,Ν[BP.val xBH],v,none,none,none]/\H2=H] yaa[λ i σ H2 _ z9=>by show xMb e;exact Vz[RV.of ha]] Î]])
 ·rintro i y σ H2 hi ⟨v,rfl,rfl⟩;show(Mk b SH hi,CJ (Ø,zQ Ċ,e_) e[Ψ[BP.val xBH]*256+Wd=Tl[BP.val[B.take[i+1]]]][by show([x0c,BP.xvb],ua[ya x6N x6N][ya x6N x6N])],SQ YI[x5I[TD [xM9 a,Xt,yfo z,YI,none,none,none]]])
 show(xHi ë v rfl,Fn K0,FR hV[BP.xzW hb] BP.xu5 hV,SB eL[xD*BN vU=Tl aJ][y8[Uw[Hj FK FK] FK FK]] eS[Tl aJ+By=Tl[aJ+n]][Qz _ _],SB e1[Ih*2^iE n=Tl[2^n]][xPu[xz9 1 n]] SI[AJ[2^n]] Nat.one_le_two_pow,SL e2[Tl[2^n]-1=Tl[2^n-1]][mE SI] (vcw,Å,xEa,?_))
 try dsimp only
 show Ζ eL (vbk,Dt wM[IE[Ga h16]],Ø,xIx[IE[Ga h16]] Z9,?_)
 ·show Sc QT[J6 hV[xr[Wg FK[yI D5] FK x4x ygD]]]
 try dsimp only
 show xFl xRy
 try dsimp only
 show(x0v,SL h216[2^n≤2^16][xr h16][VY È[xIx[IE[Wg FK[yI D5] FK BB ygD]][Sc QT[Kw IJ[AI h216]]]] ?_])
 try dsimp only
 show yz xz9 xz9 xRy
 try dsimp only
 rw [xz7];generalize hN0:(ygi*2^n)^^^((2^n-1)*2^(aJ))=N0;refine VY È[xIx[IE[Ga h16]] Z9] ?_
 try dsimp only
 show(xFl[IQ tT l1 T2[JH È[.inr x3D]]],SB s1[xQr[EN H2 zqv]][am T2] hdiv[∃j:Nat,(EB[D3 FY yg1] Ih 0)=Lw/\aA ([V.int 29,V.int 45]:SC) xEr][by
  clear h16 hodd eS e1 SI e2 h216;show x3z hw Ÿ
  ·show SQ 0 rfl
  ·show SQ 1 rfl],(j,ej,hj)=hdiv)
 try dsimp only
 show(Ζ ej (l1,_,_,xEr,Ú,xG0,aF hj,ø),(eD:Tl[2^n]+xEq=Tl[2^n+p])=Qz _ _)
 try dsimp only
 show Ζ eD[Io ĝ Z5 Z5[xKu Ym 0[iE aJ][λ i σ H3=>∃v6,σ=[Cs,Xt,Ν[yh3 p aJ i N0],v,Ν aJ,Ν[2^n+p],v6]/\H3=EN H2 zqv] yaa Î]]
 ·rintro i σ H3 hi ⟨v6,rfl,rfl⟩;show(wL KG hi e0[IF+gy=gy][Uw[xLY DN] SZ DN],[e0],AH ea[Tl aJ+By-1-gy=Tl[aJ+n-1-i]] Z5 eb[Tl aJ-1-gy=Tl[aJ-1-i]] Z5 (vct,Å,e_))
  try dsimp only
  show Ζ ea[yq ă xK4 ?_]
  try dsimp only
  show(x6h xwl hM[yh3 p aJ i N0] M,SL eS2[yh3 p aJ[i+1] N0=DM[M/2^(aJ+n-1-i)%2] 1[M^^^((2^n+p)*2^(aJ-1-i))] M][x7q hM][FD ă[d6[IF<2]] zdR Hd])
  ·show(yp UR[M/2^(aJ+n-1-i)%2=1] zg0 eS2,(vct,e_))
   try dsimp only
   show Ζ eb[yq ă[Dt[K5[8*_-1-_]][IE[HK [_,_,_][wy Ey][xDO D5[C7 BV]] BB ygD IJ IJ]]] ?_]
   ·show sr QT
   try dsimp only
   show Ζ xz9 xRy
   try dsimp only
   show j8 xz7 eS2[AK rfl]
  ·show(yp UR[¬M/2^(aJ+n-1-i)%2=1][y9[h1[JY[xMy[NJ[Nat.ToInt.of_eq Ð e.symm]]]]]][Kh UR] eS2,Sc eS2[AK rfl])
 ·show(xHi σ H3 v6 rfl,CY rfl,[KG,-hN0,CK.dv_end[QY h8] hp Z5 hV,-xed hw hb],q _ s1)
def xcF (h:dH n): [V.int[kK/256],V.int[Hs kK]]=AY[two n]:=by
 show(Gn[kK/256=Tl[n/256]][NJ[yju rfl]][Hs kK=Tl[Hs n]][xFP xCy xCy],BH ğ)
def xle:XV[x2A "_law_check_here"] mv xtD:=Uf
def xfG {f fC:RA}(F:Ρ zsD mv)(Ch:ylo xuX xMm fC fdC)(X:u6):xKZ mv xs0:=by
 show(BA xle[λ RO A outer st H vs Q E hr h=>?_],ye a R w_ ã k,CY[gO xle.nd[gz[xtJ Ch X] Ch.m Ch.F.kp Ch.b bo[yD 0 yc]][Cj[jM AB[IB mQ xCz]]]],Gd (_t,R,16,45,rfl,iA,_w,bf l_),SL hc[dH[ju R]] xyA (vbk,xZS,Ø,(d6[D4 IF]),tT,xZw))
 try dsimp only
 show([xcF hc],vd6,veO)
inductive xqQ (vs:SC) (H:Hp) (Q:VK) (RW:XK):Prop
 |mk (a b c:Nat) (h0:vs=[vN a,yP,uF]) (h1:a<4) (h2:G5) (h3:YL) (h4:D4 c) (h5:tJ[AA->B1=Bc[RT zf4]->BD]):xqQ Ã
def ń:XV ["_law_way","_law_count","_law_inside","_law_row"] x4z xsS:=Uf
def xtw {f fC:RA}(F:Ρ "_law_head" xsS x4z)(Ch:ylo xuX xMm fC fdC)(X:u6):xKZ x4z xqQ:=by
 show(BA ń[λ RO A outer st H vs Q E hr h=>?_],(a,b,c,_S,SH,hb,hc,k)=h,CJ[DT[Eh 3 ń.nd[aK[ac[uW[Ee[wx AB] χ]] Jk]][Cj[jM Ab[B9[gz[xtJ Ch X] Ch.m Ch.F.kp Ch.b bo[yD 3 yc]]]]]]] e1 zmh,Gj[ar λ R g=>(Ø,xEa,Ø,Ć,tT,GG l hn)] g)
 try dsimp only
 show(CS,Gr s1[HP [64*a+b-1,c] hn] h1[rL H l [64*a+b-1,c] l=Bc [64*a+b-1,c]] ae (Ï,l,[64*a+b-1,c],8,29,rfl,wp8,h1,DB[by show x7r;lia],d6[Hc 2],λ H2 s2=>uY E9 l2 n2),ω s3[DI [vN[xyN zf4]] n2] (l,l2,Å,wN h1,ae,(rP 3),UV l3 n3),jA s13 xZj[Fl l3[yhy s13][s13.trans xZG] ae])
def Pv (te:TE)(σ:St)(H:Hp)(v:V):Prop:=qz[Ik->∀Q:VK,rC v->x0K Q]
def Ls (te:TE)(σ:St)(H:Hp)(A:LE):Prop:=qz[Ik->∀Q:VK,(IH l[xC9->B1=uc->BD])->x0K Q]
def Tv (t:TT)(σ:St)(H:Hp)(b:Bool):Prop:=qz[Ik->∀Q:Pt,rC b->xQF Q]
def xzi (ta:TA)(σ:St)(H:Hp)(vs:SC):Prop:=qz[Ik->∀Q:xIv,rC vs->xU9 H1 Q]
def Ov (t:xuF)(σ:St)(H:Hp)(o:SR):Prop:=qz[Ik->∀Q:SR->jq,rC o->xQF Q]
def Pv.go (h:GX te v)(k:lQ v):oj Q:=h H Bq Q k
def Pv.up (h:GX te v)(s:AA):Pv te _L v:=λ H1 s1=>h H1 x4k
def Pv.var (h:xMs yV):GX Cz v:=λ H1 _ Q k=>De h k
def Pv.c:GX[tC v] v:=x5U k
def Pv.op0 (ha:GX a HR)(hb:GX b V6):GX[xL4 g a b] wd:=λ H1 s Q k=>xFc[x0j s _[zd i j rfl k]]
def Pv.op (ha:GX a HR)(hb:GX b V6)(hc:C i j):GX[xEb[rI C g] b] wd:=λ H1 s Q k=>xFc[x0j s _[yq i j rfl hc k]]
def Pv.add (ha:qm)(hb:WN):Ju[UJ[i+j] a b][m+n]:=.op0 Ā
def Pv.sub (ha:qm)(hb:WN)(h:n≤m):Ju[UJ[i-j] a b][m-n]:=by
 have:=x5V[xMz[i-j]] Ā
 rwa [BL[V.int[X9-By]][vN[m-n]][xMy[mE h]]] at this
def Pv.div (ha:qm)(hb:WN)(h:xvl n n:=by show AX Ċ):Ju[xEb[wF xvl[i/j]] b][m/n]:=.op Ā h
def Pv.mod (ha:qm)(hb:WN)(h:kJ[0<n]):Ju[xEb[wF zr9] b][m%n]:=.op Ā[ku h]
def Pv.mul (ha:qm)(hb:WN)(h:ſ m n):Ju[xEb zs2][m*n]:=.op Ā h
def Pv.xor (ha:qm)(hb:WN):Ju[UJ xIU a b][m^^^n]:=by
 have:=x5V[xMz xIU] Ā
 rwa [xz7] at this
def Pv.shl (hb:WN)(h:n<8):Ju[Ą zrF b][2^n]:=by
 have:=Pv.op (C:=xzk) (g:=xMz[i*xEN]) (a:=vZ) (i:=1) .c hb (Au xNi,Au[IE[iO C4 FE BB h]],Z9)
 rwa [KG,Rx,show(Ψ 2^n)=Tl[2^n] by show CM Int.natCast_pow] at this
def Pv.neg (h:GX t HR):GX[yj8 t][.int[-i]]:=λ H1 s Q k=>Jd[ID i k]
def xzi.nil:xzi è Ä []:=x5U k
def xzi.cons (h:GX t v)(g:xTA vs):xzi[Õ t ta] Ä[v::vs]:=λ H1 s Q k=>Jd[g H1 s _ k]
def Ov.no:Ov dZ Ä none:=x5U k
def Ov.aa (h:GX t HR):Ov[Ă t] Ä[some i]:=λ H1 s Q k=>Jd[ID i k]
def Ls.var {A:LE}(h:xQC)(ha:Α=uc):yx Cz A:=λ H1 s Q k=>De h[HG H1[C'.refl H1] xIi]
def Ls.lst {A:LE}(h:xTA xAN)(hl:xVS):yx x5A A:=λ H1 s Q k=>Jd[IQ zhP hp[Yq xXq ae]]
def Ls.one (h:Ju t x):yx[x7y t] CI:=.lst[jt h][d6[AJ 2000]]
def Ls.cat {A B:LE}(ha:yx a A)(hb:yx b B)(hl:nP[A.length+B.length]):yx[xEb ē b][A++B]:=λ H1 s Q k=>by
 show(xFc λ l H2 s2 h2=>hb zbX λ m H3 s3 h3=>(l,m,Å,Dz h2,h3,bQ[X8 JO hl],rG[Yq[(Ut).trans xXq] ?_]),xD0)
def Ls.sl {A B:LE}(h:xTQ)(hl:Ov lo Ä o)(hh:Ov hi Ä p)(e:û xAN o p=vU):yx[x2F K t ú] B:=λ H1 s Q k=>oS[Jd λ l H2 s2 h2=>hl zbX[hh zbX[nj l[RV.of h2] xRE]]] e[Yq[s2.trans xYd] ae]
def Ls.upto {A:LE}(h:xTQ)(hh:xCr hi):yx[xx7 K t dZ hi][A.take n]:=h.sl .no[.aa hh][by rw [xzE,MF]]
def Ls.frm {A:LE}(h:xTQ)(hh:xCr lo):yx[x2F K t[Ă lo] dZ][A.drop n]:=h.sl[.aa hh] .no[by rw [dW,ME]]
def xa1 (n k:Nat)(d)(h:AJ k):x5N d[some[-zv]]=n-k:=by
 show yM[ug[(-zv)<0][sF[-zv] By] _=_][Kq[by omega]];omega
def Ls.uptoE {A:LE}{k:Nat}(h:xTQ)(hh:GX hi[.int[-zv]])(h1:kJ[AJ k]):yx[xx7 K t dZ hi][A.take[A.length-k]]:=h.sl .no[.aa hh][by show(xG9,[xa1 _ _ _ h1,HT.xrq,MR,NQ,JO,MF])]
def Pv.len {A:LE}(h:xQC)(ha:Α=uc):ygw[xPW zlX]:=λ H1 s Q k=>by
 show(rE _ h a _[BZ xIi] ?_,Ex k)
def Pv.ix {A:LE}(h:xQC)(ha:Α=uc)(g:Ju tj j)(hj:xHz j):Ju[xTp i tj] xJy:=λ H1 s Q k=>by
 show(De h[g H1 s _[zl a _ _[vN xJy][RV.of xIi][aF ?_] k]],zm KS xZH Kb xZH)
def pick {A:LE}{Q:VK}(h:xTA xAN)(hl:xVS)(g:Ju tj j)(hj:xHz j)(k:Ja[WD xJy]):Ą xBq x5A tj Ż:=by
 show(xFs[IQ zhP hp[g _ xXq _[zl p _ _[vN xJy] xG0[aF ?_][HG xXq]]]],zm KS xZH Kb xZH)
def Tv.of (h:GX t Cf):Tv[ĕ t] Ä b:=λ H1 s Q k=>Jd[AK k]
def Pv.eq (ha:qm)(hb:WN):xPx[xEb rEq b][D3 m n]:=λ H1 s Q k=>xFc[x0j s _[Fw[Sc[BL[D3 o7 FY] zmE] k]]]
def Pv.lt (ha:qm)(hb:WN):GX[xL4[λ i j=>xw7[i<j]] a b][xw7[m<n]]:=by
 have:=x5V[λ i j=>xw7[i<j]] Ā
 rwa [BL[vo X9 By][vo m n][xL2 NS]] at this
def Pv.gt (ha:qm)(hb:WN):GX[xL4[λ i j=>xw7[j<i]] a b][xw7[n<m]]:=by
 have:=x5V[λ i j=>xw7[j<i]] Ā
 rwa [BL[vo By X9][vo n m][xL2 NS]] at this
def xq1 {D:Ends}{p:Prop} [Decidable p] (h:Tv t Ä[decide p])(k1:p->u ì)(k2:¬p->v ì):xvk t u v ì:=xFs[bj[TD[k1 xC3]][TD[k2[Ei[z[JY q]]]]]]
def xl8 {D:Ends}(h:GX te v)(k:xXt yV H):yaZ ì:=h.go k
def d7 {D:Ends}(h:Vg A)(k:qY[B1=uc->xXt zt H']):yaZ ì:=xFs k
def xnY {D:Ends}(h:Vg A)(k:qY[B1=uc->xOT Hm]):xzl te ì:=xFs k
def xdO {te:TE}{cs:St}{R:RA->jq}(ok:cm)(hk:Hc k)(hte:∀j H1 (Q:VK),j<k->Ik->EG b[ok b->rC yP]->te[Ν j::cs] H1 Q)(h:∀l (S:LE) H',DP->AA->B1=ud->xHy k->(Eg S[ok b])->R l H'):∀l,DP->Yh[SC->F9][xN8 ztE/\∀i m ys σ' H',dt->
   (xS6[xJa k]/\R l H')\/(xTs[xJa k]/\∀x H2,xTh[xJa k] x H2->ou x σ' H2[xJ0[λ y H4=>
    X7=oZ/\pW/\eE[m'<m/\fq[i+1]]]])]:=λ l nl=>by
 show x8[λ i m ys σ H2=>m=k-i/\i≤k/\∃(v0:EE) (S:LE),σ=v0::cs/\ys=xFL/\xHy i/\(Eg S[ok b])/\pG=oZ/\Yp] (k,rfl,Bz,none,[],Ú,rfl,nofun,ae,gw);rintro i m ys σ H2 ⟨rfl,hi,v0,S,rfl,rfl,hl,hS,h2,s2⟩;by_cases RQ:i<k
 ·show(xT0 RQ,xDI y);show te zsE _;show(Ζ Int.zero_add[hte i H' _ RQ s2[CG (h2,cz[y8[HK zdL[Yb Φ] Cg hk hi oV]],k-(i+1),Vx zhM[HV mJ] τ[YF zco Η RQ],rfl,RQ,_,S++tG,rfl,CM J8,BH JP hl,UV Ô,ae,λ d o e=>xZI nl xPZ)]],HQ[xLH hx])
  ·exact hS x z
  ·show uv z hb
 ·show DD (xLQ RQ,h l S H2 nl s2 h2[gH[zg zdB hi oV] zj7 Ey ST jj[KW RQ]] hS)
def xun {a b c:Nat}(h:a^^^c=b^^^c):a=b:=by
 have:=congrArg (·^^^c) h;simp only [MT,QN,QO] at this;show xB4
def xjC (hw:xUa)(ha:a<2^w)(hb:b<2^w)(h:a≠b):xHX w n a≠xHX w n b:=y9[by
 show((h1,_,h2,h3)=hw.facts,E7[xHX w n[a^^^b]=0][by rw [CK.G_,e,QN]],Jx[CK.Tn_inj[J6[by decide] h1] zbT[LN Ā] e2][h[xun[this.trans (QN b).symm]]])]
def xnJ (hw:xUa)(h:qG):x*2^(w-8)<2^w:=by
 rcases hw with⟨rfl,rfl⟩|⟨rfl,rfl⟩<;>simp<;>lia
theorem xiF (hw:xUa):∀(D:LE) (s t:Nat),s<2^w->t<2^w->s≠t->mq d D[D4 d]->xTL s D≠xTL t D
 | [],_,_,_,_,h,_=>h
 |d::D,s,t,hs,ht,h,hD=>by
  show(Ty hd[xnJ hw[hD d Kj]] hp ymO,EC[xiF hw D[xYU p s d][xYU p t d][x5W[xC4 hd]][x5W[LN ht hd]][xjC hw[xC4 hd][LN ht hd][y9[h ?_]]][DB[hD x xON]]][xun e])
def xsl (hw:xUa)(hA:∀d∈A,D4 d)(hx:qG)(hy:D4 y)(h:x≠y)(hD:∀d∈D,D4 d):ħ w p[A++x::D]≠ħ w p[A++y::D]:=by
 show Ew hs[xrL hw hA] h1[xnJ hw hx] h2[xnJ hw hy] hp ymO;unfold ħ crc;show(yz Nu Nu[xiF hw D _ _[x5W[xC4 h1]][x5W[xC4 h2]][xjC hw[xC4 h1][xC4 h2][y9[h ?_]]] hD],TV NR[NR[List.foldl _ _ _]],jA e[xun e][Nat.eq_of_mul_eq_mul_right[Md[by decide]] e])
def xiC {L:LE}(hk:jG k)(h:v≠L[(k)]):L.set k v≠L:=y9[gD[x5I[λ l=>l[k]?]][LV hk][JX hk][h[Kr this]]]
def xol {L:LE}(hL:WH)(hv:D4 v):DH[L.set k v]:=DB[by
 rcases List.mem_or_eq_of_mem_set hx with z|rfl
 ·exact hL x z
 ·exact hv]
def xat {X:LE}(hX:DH X)(hk:xQX k xHb)(hv:D4 v)(h:v≠(xHb)[(k)]):ü[uO[xXM k v] (xXM k v).length 2]≠xXM k v:=by
 rw [N2,xyd,OJ];intro e;show Vv k X.length
 ·show((e0:(xHb)[(k)]=X[(k)])=NG q,Ir e0,HI[xXM k v=yh4 v++An X][Hf ü[yjA _ q]],TV e1[Pw[by rw [N2]]],SB e2[An[yh4 v]=An X][List.append_cancel_left e] e3[ju[yh4 v]=ju X][by
   show(oO[xJ8 e2][xJ8 (MJ e2).2],Cn[HK [_,_,_,_,_,_][xCH[Il[A7[xO6 uZ]]]][xO6[qN[HY[xCH JD]]]] ST[Ct 256 h1][JQ h2][Ge (xPJ).symm[JQ xPJ]]][Hu [_,_,_,_,_,_][xO6[qN[HY[xCH JD]]]][xCH[Il[A7[xO6 uZ]]]] Ę[Ct 256 h1.symm][JQ h2.symm][Ge xPJ x80]])],SL sp[X=xNK++X[(k)]::X.drop[k+1]][by rw [<-Ll q,Ky]][xsl iA (A:=xNK) (D:=X.drop[k+1]) (λ x z=>hX x[KA z]) hv[hX _[Ms q]] h[λ x z=>hX x[K8 z]] ?_],[-sp,-e3,Py,Kq q])
 ·show(HI[(xXM k v).take X.length=X][Sc[O8 q][Pw rfl]],A3 e1 e[xiC hk h e.symm])
def xiu (ha:mh)(hb:xKa)(hv:D4 v)(hk:k<3)(h:v≠(xX)[k]' hk):∃x y z,(xX).set k v=[x,y,z]/\z≠xyN x y:=by
 rcases k with _|_|_|k
 ·exact Fu _ _ _[TD[xsl wp8 (A:=[]) (D:=tG) nofun ha hv[NB h] iU z]]
 ·exact Fu _ _ _[TD[xsl wp8 (A:=t8) (D:=[]) (by simpa using ha) hb hv[NB h] nofun z]]
 ·exact Fu _ _ _ h
 ·show Dv hk[Au[jr[Hj D2 x8d]]]
abbrev bale (T:LE)(Rs:HB):LE:=W6 dD
def xsC (S:LE)(b z e:Nat):Prop:=xxo z≤e/\G5/\Yc b
inductive CpX (ok:Bool) (R:LE) (e:Nat):DQ[LE->RB LE]
 |done {t:Nat} {S:LE}:WF ok->xHy e->xTW t S t S
 |sg {t t':Nat} {S S':LE}:xEF->sj[t+9]->xCR 1=0->xTW zri t' S'->xTW _N
 |cp {t t':Nat} {S S':LE}:xEF->sj[t+13]->xCR 1=1->(xsC S zfp e->xTW zmV t' S')->(¬xsC S zfp e->A2 ok)->xTW _N
def CpX.le (h:xTW _N):x5F e:=by
 cases h<;>first|exact JQ jc|exact Ks jc
inductive š (cB:RA) (vs:SC) (H:Hp) (Q:VK) (E:XK):Prop
 |mk (a:RA) (xs:SC) (s e:Nat) (h0:vs=[Aj,Jn,vN e]) (h1:Α=Gq) (h2:xWp s≤e->xEE) (h3:e<xWp s->fi cB H):š cB å
def xim (F:Ρ ziJ xHh)(Z:Vd)(mB:xVu=υ cB)(xB:oo cB):x2e xHh[š cB]:=by
 show(iD xnj Ĉ,Hv ċ s e w_ k kE,DR[d8 cZ[Ee x8Q χ] Ε[og zc0]] (vcw,Ø,_V,x05 zmp))
inductive Y_ (cB:RA) (vs:SC) (H:Hp) (Q:VK) (E:XK):Prop
 |mk (l:RA) (S:LE) (b z e:Nat) (h0:vs=[Hm,yP,vN z,vN e]) (h1:Vw=ud) (h2:Hc e) (h6:xsC S b z e->xBx[cg H l[æ S b z]]) (h7:¬xsC S b z e->fi cB H):Y_ cB å
def xa3 (F:Ρ zi8 Jan)(Z:Vd)(mB:xVu=υ cB)(xB:oo cB):E4 32 Jan[Y_ cB]:=by
 show(BO Nr Z.room Ac Z.add,Ty GN[xim Æ Nr Z zc0] zmo,iD xjH Ĉ,(l,S,b,z,e,vb3,he,k,kE)=h,xQ,DR[Iz[gz GN Nr.m Nr.F.kp Nr.b cv[xEC 0 2 3]][vh zqN[og zc0][qh[IX GA Si Ac 0[jZ 1 2]]]]] (ô,l,_,z,e,vb3,Gf hz,λ hz=>kE[xFI q Dw[ic[A3 JO hz hz]]]),xOq JO hz[Tf[VT VU][Gf hb0]])
 ·show BU h0[b=0][Qu ylS][kE[xFI q h0[LJ[Az q]]]]
 show SL SH G5[Nat.one_le_iff_ne_zero.2[TD[hb0[Sc z F8]]]] (Ï,l,Á,BZ hl,Ć,ux h hb3)
 ·show rO Jq JO[kE[Ei[ic Ua[Et q]]]]
 show BU UE[Yc b][x0w[hb3[JY[Ex[ku z]]]]] (ô,l,S,b,z,vb3,vbg,JW hz he,k (hz,vbg))
inductive xkh (ok:Bool) (cB C:RA) (vs:SC) (H:Hp) (Q:VK) (E:XK):Prop
 |mk (o r d x:RA) (R W S:LE) (n t':Nat) (h0:vs=[yS,x5,FY,Dh]) (h1:xLl) (h2:HH=cj) (h5:yf2 BJ 0 W t' S) (h6:wu) (h7:V0) (h8:WF ok->tJ[B1=Bc x3f->xJA t'->(∀c o,Μ=LT->X6->Bo=LT)->BD]) (h9:A2 ok->ZX[∀c o,Μ=LT->X6->Bo=LT][fi cB H']):xkh ok cB C å
inductive IcpE (ok:Bool) (C:RA) (H:Hp) (o r d x:RA) (R W S':LE) (n t':Nat) (l:RA) (m:Nat) (σ:St) (H2:Hp):Prop
 |mk (v7:EE) (v8:EE) (S:LE) (t:Nat) (h0:m=x95 BJ) (h1:yf2 BJ _N) (h2:σ=[zr,yo,Xt,Z0,zt,yd7,Ν BJ,v7,v8]) (h3:pG=ud) (h4:xCj H2 t) (h5:∀c o,Μ=LT->X6->Zt=LT):IcpE ok C H o r d x R W S' n t' l m ë
def xl0 (F:ynO xrE)(Y:Vd)(Z:xFa)(mB:xVu=υ cB)(xB:oo cB):E4 33 Jad[xkh ok cB C]:=by
 show(Ds Z.Y.X,vfg,Ty zg9 GL[xa3 Æ La Y zc0],(tl,hle)=X.least,xx1 SJ Ĉ,(o,r,d,x,R,W,S',n,t',ý,hx,hk,Sl,hW,k,kE)=h,AH zec zcw[DT[DJ 4 SJ.nd zjt SJ.nd xCv[Em 6 SJ.nd[Ee EH Ε][yjI[Bv dX xCv Im][Uc zsz[DJ 7 SJ.nd Mh 8 ztu[qh[gz GL La.m La.F.kp La.b cv[yD 4[xEC 7 8 6]]]]]]][xAi AS EH]]]],(vcQ,_,_)=xJg,vcB,veP)
 try dsimp only
 show(Ζ JO Gw,vdQ)
 try dsimp only
 show xO e0 Gw[Dt[IcpE ok C H o r d x R W S' n t' l] (n,vbE,W,0,vfM,į,vc2)]
 rintro m σ H2 ⟨v7,v8,S,t,rfl,hk,rfl,UQ,T3,kp⟩;show ω hle2 zgW
 ·show(x4,vem);clear h h';show SL t1 zn5 xUn;dsimp only;show(vQ zk6 zgA,XJ=xJs);clear fd F Y Z mB xB X w_1 w_2 Tk GT' GT TR w_3 w_4 La w_5 w_6 Ao GA GL tl hle hr hR hx TQ Si Yt le dx0 VN e0 YU U3 t1;cases hk with
  |done _ e=>show JE[aX [_,_,_][G8 AO][HV AO] RQ dC]
  |sg q1 q2 q3 q4=>
   show(xO q3 zky,ω h4l zkv)
   ·show kh x8T
   ·show(S8.keep λ c o e hc=>?_,W8 xRu)
   ·show bp xTR
  |cp q1 q2 q3 q7 q8=>
   show(vfN,vej,Gj zqi)
   try dsimp only
   show([ez],ω h5l[Zo x0U Ui] (vcr,l,S,vfz,BJ,rfl,vfc,Ei (_,vb5,q7 q,į,vdc),Ei[kE[q8 q] _ λ c o' e z=>Zo xTR z]))
   ·show Sc xzL x87
   ·show((show t+1+8+4=t+13 by show pI xEc xCw xCw xEc)▸hR5.keep λ c o e hc=>?_,W8 xRu)
   ·show bp[Zo xTR z]
 ·cases hk with
  |sg q1=>show Yl zfg
  |cp q1=>show Yl zfg
  |done eo e=>
   show(xRY,SL ec znn)
   try dsimp only
   show(uN,ω s9[HP x25 n9][k eo l9 j_ znF λ c o e n=>xE9[OT n]])
   cases e:H l9 with
   |none=>rfl
   |some o'=>
    by_cases z:l9=r
    ·show(vfk,A8 YV n9 n9)
    ·show A8[OT z] n9 n9
universe K26.Ck
namespace QQ
open PySem PyProof.Rows
inductive FlyJ (h:RI) (e:RA) (cls:RC) (T:RA) (v:RC) (c:RC):Prop
 |mk (vs:ZR) (oT:RK) (ts:ZR) (he:yC e xIb) (h2:xFx 2 c/\xEH) (h1:vs[1]?=υ T) (ne:T≠e) (gT:yC T oT) (dT:oT.data=x4F) (zT:HC ts 3 v):FlyJ h _A T v c
def FlyV (h:RI)(e:RA)(cls:RC)(T:RA)(v:RC)(c:RC):Prop:=FlyJ h _A T v c
def FlyV.set (F:yd2 _A T v c)
  (h:xAA[FlyV h' _A T[fr.elim Value.none λ f=>rawInt f] c->(∀b o,CR=LT->PO->mZ=LT)->(∀b o,CR=LT->xEg)->x0Y]):xAx[setFlight zD fr]:=by
 show((vs,oT,ts,he,h2,h1,ne,gT,dT,zT)=F,vew,xFD z3 x8J gT' (MO (Obj.mapFields (·.setIfInBounds 3[fr.elim Value.none λ f=>rawInt f])) gT x85)[Ny zcQ z3[o6 (vs,_,_,?_,h2,h1,ne,gT',ygb,by simp [z3]) zlS]])
 ·show Sc[xXQ ne] he
 ·show Sc xII q
 ·by_cases hb:b=T
  ·clear e cls v c Q M A E h vs ts he h2 h1 ne gT dT zT z3;show(x0J,Qt gT')
  ·show AX o[Sc xII q]
def xiJ (F:yd2 _A T v c)
  (h:∀h' v',FlyV h' _A T v' c->(∀b o,CR=LT->PO->mZ=LT)->(∀b o,CR=LT->xEg)->x2t e tV):xAx (PySem.passOn what zD env:Sem α):=by
 unfold PySem.passOn;show(F'=F,(vs,oT,ts,he,h2,h1,ne,gT,dT,zT)=F',xBT zdw,w4[xZ1[JL[xA9 T]][by simp]][JV[F.set λ h' f1 f2 f3=>wpAny_throw[xSe _ f1 f2 f3]]])
def xiP
  (hfr:x49 xIo) (hl:x2T xIo) (hf:yfq L) (F:yd2 _A T v c)
  (h:∀h' T',x1S [e,T'] c->(T'=T\/xAQ T')->(∀b o,s.heap.get? b=some o->b∉ [e,T]->b∉(env::outer).filterMap (·.frame)->h'.get? b=some o)->
   (∀b o,CR=LT->b∉[e,T]->xTg)->(∀b o,CR=LT->xEg)->x0Y):
  xAx[leaving env zD]:=by
 show(F'=F,(vs,oT,ts,he,h2,h1,ne,gT,dT,zT)=F');unfold leaving;by_cases hv:JL[v==x5w]
 ·show(yaM,Du[JV[LP zdw ?_]],J' zhd,Ζ[Kq hv][Kn[F.set λ h' f1 f2 f3=>?_]],(vs',oT',ts',a1,a2,a3,a4,a5,a6,a7)=f1,xSe T (vs',a1,a2,.inr (T,oT',ts',a3,a4,a5,a6,a7,rfl)) rh[λ b o q hb _=>f2 b o zfx][λ b o q hb=>xGx[f2 b o zfx]] f3)
 ·show(Du ?_,vdt,J' zhd,jR[Kh hv][Ny zcQ x8J ?_],(U6:∀b,PO->yiz b=CR)=CG xII,Θ gT'[yiJ gT x85] zl1[λ b o q nf z=>by
   show(Ek gT q q,nf ts dT)],SL sz[xVb yiw] yjf[xpX zlq hf znd h2
   λ h' T' f1 f2 f3 f4=>xSe T' f1[.inr[A3 sz f2 f2]] zpc])
  ·show(Df b1 b e zfs zft,f3 b o zfR hn)
  ·show(Df b1 b e zfs zft,xTU zfR)
  ·by_cases hb:b=e
   ·show yez g' f1;clear F h he ne f3 hf_1;show(xWE,Qt g')
   ·by_cases hT:b=T
    ·clear F h h1 ne gT nT sz f2 f3;subst hT;show vI sl zr6 _ e'
    ·show vI sl zpV _ e'
universe QQ
namespace QQ
open PySem
def xhz {os:OsState}
  (hC:yC zld) (hD:yC zkY)
  (he:yC e oe) (Ze:oe.cls=C5) (Zm:WF ykz) (hm:A2[xMW C bm x6l]) (ne:C≠D)
  (hq:Q false[xEw h g d t]):xy7[ymG x6l] ziS:=by
 show ZY hcB zk9 f tc_notTuple;unfold excMatches
 repeat (first|(with_reducible show tN[P5 he ?_] Ze)|with_reducible refine P5 hD ?_|(with_reducible show tN[Pd hD ?_] hcB)|(with_reducible show tN[Pd hC ?_] hm)|wp_step)
 exact hq
universe QQ
namespace L2
open PySem PySem.Spec PyProof.Rows QQ
def xez (K:Frag)(D0:RA)(E:XK)(tb:St->XK->TS):TS:=λ D σ H=>
 tb σ[λ cls _ H'=>∃C,cls=C5/\oo C/\C≠D0/\x7Z[xCd C xWR]/\E zgB H'] ì
def xbQ {D':xyQ}{P:RE}{w:RF}{K:Frag}{mg:Τ}{base:RI}{N:C6}{qual:Str}{scope:Scope}{f:RA}{cd:RC}{A:RH}{outer:uz}{s₀:RD}{H₀:Hp}{E:XK}{X:Cx}(eX:X=cf[CXD D' P w] zdi f cd _W s₀ H₀ E)
  {x:Str} {D0:RA} {b₀:RM} {body suite:Rz} {tb:St->XK->TS} {np UA pos:Pos} (hg:yF) (hm:yr=υ D0) (hD:xXy D0)
  (hb:∀pn σ0 E',xHw[xuV X pn σ0 E' D'][tb σ0 E']) (hd:sV):
  uE[xWC [ybY[xFW np] none[b₀::suite] UA] zdq][xez K D0 E tb]:=by
 show(SB Uh xZW[CM eX] hfr xVg[CM eX],SB hX[X.ex=[]][CM eX] hKK[X.K=K][CM eX])
 intro RN s σ H D I h;refine ycC[hb xxZ σ _ [] s Ä D[I.lift _] h] zsi
 ·show HM zp5;cases f with
  |next=>exact Ou q'
  |brk=>show SF
  |cont=>show SF
  |ret u=>show SF
 ·show(TL,(ea,cls,fp,vb7,I1,vdf,C,rfl,cC,T1,Za,q)=q,π);rw [<-hKK] at cC Za;show(SB I1[mV s1][Inv.unlift (W:=X.xe) I1] fr zkX,SL hf[yes yb2] zkU,Cc I2[ym2 zp6] nE[xDv ea][fr ea F.here] nT[xDv T][I1.new[by
   cases z:ycH with
   |none=>rfl
   |some o=>show lJ[xIt z hT]] zrJ])
  obtain⟨vs,ge,z2,⟨_,r⟩|⟨T',oT,ts,v1,neT,gT,dT,zT,r⟩⟩:=id F'
  ·show xKe
  ·show(xKe,(G,I2',bk0,unk)=I2.ready (e:=ea) (c:=c) (IQ bk b e[let n:=xRJ;(n.s0,vdv)]),vdG,vd9,yiP[xq8 (X:=xZo) I3 hg hm ?_ hd][by intro q;cases q],vdB,ZY hmem[A2[xMW C bm xWR]][by
    unfold mroIn at Za;rw [hcC] at Za;simpa using Za] T'' (hfD _ I2.kIn).2,(hh1,gg,dr,tk,os1)=s1,Υ[xhz zpK ge rfl[T''.hasType Z8] hmem T1[wpAny_handleBy_nil ?_]][xiJ (v:=Value.none) (T:=T) (c:=c) (cls:=C5) (vs,oT,ts,ge,z2,v1,neT,gT,dT,zT) λ h3 v' F3 k3 t3=>?_],Θ J3[I2.landed (h':=h3) (fp:=[T]) (CG[by show(xHK KD,Sc hb nT)])[λ b o g hb _=>k3 b o zfy][λ b o g hb=>xGx[k3 b o zfy]] t3] bn'[∀b,c=VX->x0y][λ b e=>(xRJ).s0],zx sE nE.s0 hE nE.h nE2 nE);clear hb I I1 I2 I2' I3 uh unk bn nE';subst eX;show xwW P w zsP _ _ _;show(xiP J3.ok.frames J3.stack rfl F3 λ h4 T4 F4 hT' g3 g4 g5=>?_,ω J4[J3.landed (h':=h4) (fp:=[ea,T]) (CG[by
    show lh hb z z
    ·show Sc z nE2
    ·show Sc xXh nT]) g3 g4 g5] (ea,_,[ea,T4],vb7,J4.os,J4.bare,J4.base,J4.hok,(c,dc,F4,bk,bn'),uL,q),lh _J)
   ·show Sc hb (sE,hE)
   ·show([xGa],HQ hT')
    ·show Sc z (nT.s0,nT.h)
    ·show EJ ?_[J3.hok.fresh z];cases y:s₀.heap.get? T4 with
     |none=>rfl
     |some o=>
      show(x5E r[J3.base.there T4 o y[by simp [cxOf]]],lJ[xIt r z])
universe L2
namespace L2
open PySem
def xzf.up0 (F:xKD k):E4 k ps sp:=by
 show EJ F.len[λ A outer s H args us vs Q E hr he hb hv h=>Pf[xWf A s H zej Q E hr he hb hv h][yh r s']];cases r with
 |error e=>exact q.elim
 |ok fl=>cases fl<;>exact q
def xzf.or2 (F:vc P w K CX zcK)(G:vc P w K CX k Ò ps sp'):vc P w K CX k Ò ps λ vs H Q E=>o3\/sp' å:=
 (λ vs H Q E h=>h.elim[x6V _ _ _][G.len _ _ _ _],λ A outer s H args us vs Q E hr he hb hv h=>h.elim[xWf A s H zej Q E hr he hb hv][G.run _W s H zej Q E hr he hb hv])
universe L2
namespace K26.Ck
open PySem L2 QQ W17 W16 BP K26.M
seal PE PA PS Ó PT PW PG PI
structure Bdy (K:Frag)(mg:Τ)(cB cN:RA):Prop where
 mB:xVu=υ cB
 xB:oo cB
 mN:mg "NoBits"=υ cN
 xN:oo cN
 ne:cB≠cN
 mro:x7Z[xCd cB[.ref cN]]
inductive RdO (R W:LE):i'[xNy->cm]
 |good {u v t:Nat} {T:LE}:xEU u v T t->x0k W u v xXY t
 |more {v:Nat}:yhz v->x0k W 0 v[some[R.take v]][8*v]
 |_O {v t:Nat} {S:LE}:CpX false R[xUE v] 0 W t S->x0k W 2 v none t
inductive spRdX (cB C:RA) (u:Nat) (vs:SC) (H:Hp) (Q:VK) (E:XK):Prop
 |mk (o r d x:RA) (R W:LE) (n t:Nat) (oT:xNy) (h0:vs=[yS,x5,FY,Dh]) (h1:xLl) (h2:HH=cj) (h5:wu) (h6:V0) (h7:x0k W u n oT t) (h8:∀T,xRX->tJ[B1=DO->xJA t->Jc->BD]) (h9:xQq->ZX Jc[fi cB H']):spRdX cB C u å
structure RdX (P:RE)(w:RF)(K:Frag)(mg:Τ)(base:RI)(cB C Cu:RA)(u:Nat):Prop where
 cl:my Cu
 read:Ij[Meth K Cu "read" f/\Ha Jad/\E4 37 Jad[spRdX cB C u]]
def CpR.x:∀{t S t' S'},xK5 _N->CpX true R e _N:=by
 intro t S t' S' h
 induction h with
 |done h=>exact x5i h
 |sg a b c _ ih=>exact .sg a b c ih
 |cp a b c d e f _ ih=>exact .cp a b c[λ _=>ih][ym (d,e,f) z]
def xyl.okX (Z:xyl ê G Ź)(c0:my C0)(c1:my C1)(c2:my C2)(c3:my C3)(hu:u<4)(Bd:vy):RdX _M cB C[xRj u] u:=by
 show(Es D Z.D,(cl,f,fd,m,b,F)=Z.ok Æ c0 c1 c2 c3 hu,π,EJ cl ?_,(gd:∀{vs H Q E o r d x R W n t T},vs=[yS,x5,FY,Dh]->xLl->HH=cj->wu->V0->xEU u n T t->EG T'[m7 T T'->tJ[B1=Ak yeR->xJA t->Jc->BD]]->yhX u å)=λ e hR hx Sl hW hk k=>(_,_,_,_,_,_,_,_,_,e,hR,vcn,hk,x9M))
 by_cases h0:u=0
 ·subst h0;show(xF1 M Z.r0[Z3 M.m M.b[((xnk M.F D.Z).up0.mono Z9).imp λ vs H Q E h=>?_]],(o,r,d,x,R,W,n,t,oT,vch,k,kE)=h);cases hk with
  |good q=>cases q with|raw=>exact(o,r,d,_,R,vcb,Sl,ρ,λ l H' nl hl YZ kp=>x9M l H' zo7 YZ kp)
  |more h=>exact(o,r,d,_,R,vcb,Sl,h,x9M)
 by_cases h2:u=2
 ·show(xIA,xF1 M Z.r2[Z3 M.m M.b[((xl0 (ok:=true) M.F D.Y D.Z zjX).or2[xl0 (ok:=false) M.F D.Y D.Z zjX]).mono Z9|>.imp λ vs H Q E h=>?_]],(o,r,d,x,R,W,n,t,oT,vch,k,kE)=h);cases hk with
  |good q=>cases q with|æ q=>show DD (o,r,d,x,R,W,_,n,vcb,hx,q.x,Sl,hW,λ _=>x9M,nofun)
  |_O q=>show Dr (o,r,d,x,R,W,_,n,vcb,hx,q,Sl,hW,nofun,λ _=>kE rfl)
 show((f,fd,m,b,F.up0.imp λ vs H Q E h=>?_),(o,r,d,x,R,W,n,t,oT,e,hR,vcn,hk,k,kE)=h);cases hk with
 |good q=>exact gd e hR hx Sl hW q k
 |more=>show xy4 h0
 |_O=>show xy4 h2
inductive ť (cB Sk:RA) (vs:SC) (H:Hp) (Q:VK) (E:XK):Prop
 |mk (a h x dx:RA) (R W:LE) (u v y t:Nat) (oT:xNy) (h0:vs=[Aj,.ref h,Dh]) (h1:Α=ur) (h2:qB) (h3:ni h Sk[xtW u v y]) (h4:HH=cj) (h5:V0) (h6:YG v) (h7:u<4) (h8:x0k W u v oT t) (h9:∀T,xRX->(D1-t<8/\xJd%2^(D1-t)=0/\tJ[AA->B1=DO->BD])\/(8≤D1-t/\BK cB)) (h12:xQq->BK cB):ť cB Sk å
def xgE (F:Ρ "text_in" xtN x6M)(Z:xyl ê G Ź)(W:xLu G')(T:xuM Â Sk)(Bd:vy):
  E4 38 x6M[ť cB Sk]:=by
 show(Ty D Z.D.Z Y Z.D.Y,TL,SP D.init,BO N D.need Wy W.ways,BO Ae D.atend L D.left,BO O D.ones Ba D.bits,π,iD xqa Ĉ,TL,(a,h,x,dx,R,Wn,u,v,y,t,oT,_S,hb,hh,hx,hW,hv,hu,hk,k,kE)=h,tS zgo Uj 3,xQ,zx GI[xih Æ FI N D.Y D.T] GW[xo6 Æ Wy.F W] GA[xae Æ Ae.F Ba O L D.T D.Y.X],(cl,_,_,mR,bR,GR)=Z.okX Æ W.raw.W.cl W.run.W.cl W.æ.W.cl W.shr.W.cl hu Bd,π,ZH[zX 3 xqa.nd[xzy MI GI hr6 Z7 D.m zd7 vk][xbQ rfl Z7 Bd.mN Bd.xN[λ pn σ0 E'=>qP 4 xqa.nd[xmg[xdg _G[xmi GW Si Z7 Wy.m Wy.F.kp Wy.b _F][xoC _G χ rfl] WJ] cl mR GR hr bR zgq[yD 3[ac[xoC _G χ rfl] Jk]]]]][xHm[cu Ab D.T.cl Ae GA Uj][og zjX][Cj AS]]] M'[ar λ R1 g1=>AK[λ p dp np Vl Yr=>?_]],s0=x5K C,Dp[cF p dp a R ae yac hb[λ d H2 nd hR kp=>x0z]],SL s2 Yp[λ c o e=>DY vm AE][ar λ R2 g2=>xIS[λ l os ds H3 nl no hl ho s3=>?_]],Gr hh3[wN hh] SN[xQH H3 0][hR.keep λ c o e _=>Dz e] (Á,h,Sk,ę,hh3,_s,xi3 _ _ _,l,Û,xWP,ybc u[gx4 hu],?_),IZ (os u,ds u,vbB,ho Ģ,rfl,Ï,h,Sk,ę,hh3,vbC,xkq _ _ _,Á,os u,p,d,x,R,Wn,v,t,oT,rfl,SN,wN hx,hv,hW,hk,λ T' eo l' H4 nl' h4 S8 UO=>ZV,λ eo H4 UO=>kM cB Bd.xB Bd.ne Bd.mro[kE eo H4 λ c o e=>cI[wN e] AE]),(s4:yaC)=λ c o e=>cI[wN e] AE,pd dp4 hp4 S8.ob[ar λ R1 g1=>(ß,dp4,Á,hp4,bW,p,d,R,t,rfl,S8,?_)])
 rcases k T' eo with⟨h1,h2,k⟩|⟨h1,k⟩
 ·show DD[xS7 h2[λ H5 s5=>AK[bD[xP3[k l' H5[none_of Ut nl'] x4a[Dm h4]]]]]]
 ·show Dr[JH h1 _[bY[HG s4]]]
universe K26.Ck
namespace K26.Ck
open PySem L2 QQ W17 W16 BP
seal PE PA PS Ó PT PW PG PI
inductive xuP (W:LE) (oT:xNy) (R:LE):Prop
 |mk (i n:Nat) (Rb:LE) (t:Nat) (o:xNy) (h0:i<4) (h1:xKX) (h2:wu) (h3:ydx) (h4:ydB) (h5:E3 Rb) (h6:R=wo[pZ[64*i+n-1]] Rb) (h7:RdO Rb W i n o t) (h8:∀T,UF o T->(xRX/\xXa 8-t<8/\val Rb%2^(xXa 8-t)=0)\/(xQq/\8≤xXa 8-t)) (h9:Ω o->xQq):xuP W oT R
inductive Ť (cK cB:RA) (vs:SC) (H:Hp) (Q:VK) (E:XK):Prop
 |mk (x z:RA) (W R:LE) (h0:vs=[Dh,.ref z]) (h1:HH=ur) (h2:H z=cj) (h3:EO oT[xuP W oT R/\yl W/\V0/\EG T[xRX->tJ[AA->B1=DO->BD]]/\(xQq->BK cB)]\/(yl W/\V0/\yl R/\ü[xQa R.length 2]≠R/\(∃a b r,R=xX++r/\mh/\G5/\YL/\CH[b+2])/\BK cK)):Ť cK cB å
def xgq (F:T9 K "take_block" ztA zcx)(Z:Tbk Â Ğ C G Ź)(Wa:xLu G')(Er:xLq)(Bd:vy):
  E4 39 yfu[Ť cK cB]:=by
 show(xU3 N Z.H.need,GN=xu0 Æ N Z.H.N,BO Ah Z.ahead Wn Z.win,BO Nh Z.nhead Ho Z.headof,BO zke En Z.ends,BO Wc Z.wcheck Ti Z.textin,EF t3 zjy t2 h2 Z.H.twoB,π,xx1 xrz Ĉ,Hv x z W R rfl hB hW hh);obtain⟨hwb,hwl,hb,a,b,r,hR,ha,SH,UE,hrl⟩:yl W/\V0/\yl R/\∃a b r,R=xX++r/\mh/\G5/\YL/\CH[b+2]:=by
  rcases hh with⟨oT,⟨i,n,Rb,t,o,hi,hn1,WA,T2,Su,XI,eR,_⟩,h1,h2,_⟩|⟨h1,h2,h3,_,h4,_⟩
  ·show oS (é,?_,_,Rb.length,Rb++An[pZ[64*i+n-1]++Rb],by show([eR],Hf ü JT),xn3 hi hn1 WA,T2,Su,CM JP) eR[xyb[CG[ki hb[bx[xn3 hi hn1 WA][Kw Su[by decide]] b][XI b]]]]
  ·show Iv zdA
 show(tS Y9[ED 33] hr6 6,AH zeb BM hr8[ED 8] BM[DT[DJ 2 xrz.nd[zS GN WO N 0] 3 xrz.nd[zS[xkW Ah Wn N Z.H.N] hr6 Ah 1][Eh 4 xrz.nd[xB5[xgY Nh Ho Bs Z.H Er] Y9 Nh.m Nh.F.kp Nh.b cv Jk][xHm[zS[xit En Wc Z.H.Y] hr8 En 2][og Er.mK Er.xK][Cj[gz[xgE Ti Z.Z Wa Z.H.T Bd] Ti.m Ti.F.kp Ti.b cv[ac[aV Ε xEm[xp5 xpk[Ft 2 h2 t2]]][jZ 4 3]]]]]]]],(hRl:xOP[b+5])=bE hR JP hrl[MM 3 _],Ib[xW x _ hB hb[GG l hn]],zf s1[DI Bw hn] XH[(o5 Bw) l=ur][o5 Bw] H1,Ib[cF ĝ W[.inr[ID z[FQ hW]]] hwb hwl[λ lw H2 s2 nw hw2=>DG]],Ty hl2' x79 Uz Gg,Ib (va9,a,b,r,rfl,hR▸hl2',ha,UE,SH,hrl,λ p dx H3 np s3 SW=>DG),Ty s13[Uz.trans s3] SV[Dz hl2'],Ai g[cF È l R SV hb[Ej ù[ZA xIW] D5 UE[JQ hRl]][λ H4 s4=>x3D]],s14=s13.trans s4);rcases hh with⟨oT,⟨i,n,Rb,t,o,hi,ht1,ht2,T2,Su,XI,eR,hx,XD,YN⟩,_,_,k,kE⟩|⟨_,_,_,hc,_,k⟩
 rotate_left
 ·show xKT hc[bY[HG s14]]
 generalize hX:pZ[64*i+n-1]++Rb=X at*;have hXl:X.length=Rb.length+3:=xCl hX JP[MM 3 _]
 clear hB hb hRl XH hl2';subst eR;clear ha SH UE hrl;obtain⟨rfl,rfl⟩:a=64*i+n-1/\b=Rb.length:=by
  show(Bj[xHb=pZ[64*i+n-1]++(Rb++An X)][by unfold ü;rw [<-hX,JT]],xDX[e.symm.trans hR] (xJ8 this).symm (xJ8 (MJ this).2).symm)
 show([JY[by rw [xtg]]],Gj[bD DG] g,CJ (vcr,l,Á,RV.of[Fp SV],UV zcO) ec[tI[AY xHb] 3[-2]=xNj][by
  rw [xo2 _[Bx xyd[El xx8 SZ[.n 5] Jr[JQ hXl.symm]]],xtg,<-hX];rfl],uN,s5=xKn xNj);rw [show(64*i+n-1)/64=i by show Cn[Fs zex[C7[xG5 CE]][ZA[Bu x4R]] n_ ht2[JN ER[DF ze8 ht1]]][Fs zex[xSB[wz x4R]][C7[.a xOL CE]] Ę ht1[JN zj τ]],show(64*i+n-1)%64+1=n by lia] at SW;show ω s5'[s14.trans s5] (vcc,p,lw,dx,Rb,W,i,n,_,_,o,į,XI,xCM SW,xCM[Dz hw2],hwl,ht2,hi,hx,λ T eo=>(XD T eo).imp[λ z9=>BI e Ç z9 Ç[λ l' H' n' s6 h'=>k T e l' _[none_of s5' n'] ycS h']] λ⟨e,h1⟩=>IQ h1 H' s6[kE e _ ycS],λ eo H' s6=>kE[YN eo] _ ycS)
inductive xkE (Ce CO CK cK cB:RA) (vs:SC) (H:Hp) (Q:VK) (E:XK):Prop
 |mk (p co ck g wt a:RA) (S:LE) (b:Nat) (G W R:LE) (h0:vs=jP) (h1:AR H zfa) (h2:Α=ur) (h3:EO oT[xuP G oT R/\yl G/\yhA 192/\EG T[xRX->xSL/\dU]/\EG T[xRX->∀l g' H',DP->Bf g'->B1=DO->AR č g' wt[S++T] zju zeA->(∀c o,Μ=LT->xk->W2->Bo=LT)->BD]/\(xQq->BK cB)]\/(yl G/\yhA 192/\yl R/\ü[xQa R.length 2]≠R/\(∃a b r,R=xX++r/\mh/\G5/\YL/\CH[b+2])/\BK cK)):xkE ö cK cB å
def xhp (F:Cb zna xpH)(Z:oB)(Bd:vy):E4 40 ydN[xkE ö cK cB]:=by
 show(Ty T Z.tt R Z.pr.R,xU3 Tb Z.take,(_,FT)=Tb.F,BO Wi R.win Go R.go,π,xx1 xma Ĉ,TL,(vbc,a,S,b,G,W,Rb,ý,ha,hh)=h,vc4,π,AH _X zgo BM[DT[Em 2 xma.nd[gz[xgq FT Z.bk Z.wl Z.er Bd] Tb.m Tb.kp Tb.b cv[AL 1[xOH R.cl Wi[yh0 R] Si]]][aD[xyi B4 R.cl Go[xjs Go.F R] hr6 Jk]] Ε]],pd Y3 zgL (Ŷ,Ce,ę,va4,T.nC,wj,co,Y3,Á,U7,il,vbA,vbt,hC,UV lw nlw),s1=DI mx nlw);rcases hh with⟨oT,pb,hgb,h2,hT,k,kE⟩|⟨h1,h2,h3,h4,h5,kE⟩
 rotate_left
 ·exact JG a lw G Rb CV ae[.inr (vbP,λ H' s2=>kE _ Gg)]
 show(JG a lw G Rb CV ae[.inl (oT,pb,hgb,h2,λ T' eo l H2 nl s2 hl=>?_,λ eo H' s2=>kE eo _ Gg)],Ty s2 Gg hC2[CC c o e xPZ],TL,EF dxo2 Wl hC2.ob dk2 hck2 hC2.ch,Uv htb h1[hT T' eo],CJ (Ė,Cv hp,vbC,wj,co,dxo2,Á,Wl,il,Á,vbA,l,S,G,T',q_,hC2,hl,htb,IY zfL D5 Ç,λ g' H3 ng hC3 kp=>?_) Sv[∀c o,Μ=LT->xk->W2->qO=LT][λ c o e n m=>DY xPZ n m],xR0[k T' eo l g' H3[iJ s1][none_of s2 ng][DY zot[aN hl hck2 B0]][zu[Gs hp n1.symm n2.symm] hC3[Gs hw n5 n6]] Sv])
def xsD (a b c m:Nat):Prop:=Eu qR\/(c=qR/\G5/\YL/\m%64≠0)\/(c=qR/\64<b)
inductive xka (Sk cH:RA) (vs:SC) (H:Hp) (Q:VK) (E:XK):Prop
 |mk (x:RA) (a b c m:Nat) (h0:vs=[Dh,o7]) (h1:HH=Bc [a,b,c]) (h2:qd [a,b,c]) (h5:(c=qR/\YL/\(b=0->a=0)/\(G5->m%64=0)/\(b=0->wg)/\(G5->∀p dx H',AA->BG xEx zfj->JJ Dc))\/(xsD a b c m/\BK cH)):xka Sk cH å
def xf6 (F:Ρ ziK xNs)(Z:xLi)(Er:xLq):E4 33 xNs[xka Sk cH]:=by
 show(ylm O,(t64,Sl)=Z.signs,iD xrx Ĉ,(x,a,b,c,m,rfl,hx,hby,hh)=h,CY[qg xrx.nd[gz[xmm O Z.H Er] O.m O.F.kp O.b cv vk][Uo zlO[og zjV] xH3]])
 rcases hh with⟨hc,hb,h00,hm,k0,k1⟩|⟨hc,k⟩
 rotate_left
 ·rcases hc with hc|⟨hc,SH,UE,hm⟩|⟨hc,h6⟩
  ·exact(ć,a,b,t_,hx,hby,zQ hc k)
  ·show((ć,a,b,t_,hx,hby,.inl (hc,x1w,ym UE[ic z],x1w,λ z _ p dx H1 np s1 hp=>?_)),SL e[¬X9%64=0][TD[hm[xxd z]]][xIy (Ø,(d6[IF<64]),Ŵ,?_)])
   try dsimp only
   show xKT[TD[e x30]][bY[HG s1]]
  ·show BU hb G5[JW Z9 h6] (ć,a,b,t_,hx,hby,.inl (hc,ym z[LJ hb],λ _=>k,ym z[LJ hb],λ _ z=>absurd z[ic h6]))
 refine(ć,a,b,t_,hx,hby,.inl (hc,h00,ym hb[ic z],Ο z l_,λ z _ p dx H1 np s1 hp=>?_))
 ·exact vG[bD[xIC[k0 z _ s1]]]
 ·show SL e[X9%64=0][Int.ofNat_inj.2[hm z]][xIy (Ø,(d6[IF<64]),Ŵ,?_)]
  try dsimp only
  show Vz[xIC[k1 z p dx _ s1 hp]]
inductive xkG (Sk cH:RA) (vs:SC) (H:Hp) (Q:VK) (E:XK):Prop
 |mk (x:RA) (B y z':LE) (p m a b c:Nat) (h0:vs=[Dh,xEr,o7]) (h1:HH=ve) (hp:pO p) (hB:B.drop p++y=[a,b,c]++z') (h2:qd [a,b,c]) (hk:(c=qR/\YL/\(b=0->a=0)/\(G5->m%64=0)/\∃n,n=(DM b 0 8[b+2])/\(xSO<n+3->wg)/\(n+3≤xSO->∀t v H',AA->Hl[H' t] [v,vN[p+(n+3)]]->((b=0/\xAr v)\/(G5/\∃h dx,v=.ref h/\BG[H' h] zfj))->xDd))\/(xsD a b c m/\(xSO<3->wg)/\(rJ xSO->BK cH))):xkG Sk cH å
def xg6 (F:Ρ zjw xNb)(Z:xLi)(Er:xLq):E4 34 xNb[xkG Sk cH]:=by
 show(xWI,vdU,iD xyp Ĉ,(x,B,y,z',p,m,a,b,t_,hx,hpB,hB,hby,hh)=h,rU _X[Eh 3 xyp.nd[xNW xEm][vB dX yv Ab x71[DJ 4 xyp.nd[gz[xf6 Nh Z Er] Nh.m Nh.F.kp Nh.b cv[ac[aV AB χ Ab] Jk]] 5 zk3[vB dX yv EH x71[xMw[jZ 4 5]]]]]],SL e3[xEq+3=wV 3] rfl xEo)
 try dsimp only
 show([e3],uH g (vbI,BZ hx,_V,xIF[VT DG]))
 ·show qv h Jq h;rcases hh with⟨_,_,_,_,n,_,kN,_⟩|⟨_,kN,_⟩
  ·exact kN[x3 zs5[tF xQn] xx8 zhs] _ Bq
  ·exact kN[x3 [_,_,_][G8 Δ] xYE D2 zhs] _ Bq
 show(xxP,(h3':pO[p+3])=by
  show Vv B.length[p+3]
  ·show Yl[wD[El Tm xx8 Tm xx8 q]] h
  ·show Ii)
 clear h;show SL ec[tI vU xEq[wV 3]=AY [a,b,c]][by
  show([xum _ gk[Ex h3'],L6,-ME,-MF],ZE[congrArg[List.take 3] hB][Ln[Bx Kc[Dd [_,_,_] xYE sH Ġ h3' τ]]],CM this)] (Ï,ô,x,Á,RV.of hx,gQ)
 try dsimp only
 show(uN,s1=HP [a,b,c] nl);rcases hh with⟨hc,hb,h00,hm,n,hn,kN,k⟩|⟨hc,_,k⟩
 rotate_left
 ·exact(va9,a,b,c,m,į,hby,zQ hc[λ H' s2=>Fl[DE [_,_,_] xYE sH Ġ h3' τ] Gg])
 show AH lt[WF[vo ztG]->xSO<n+3][VT[qD h Jq JO h[Dd zs5[tF[C7 xx8]] Tm xx8 zhs]]] ge[¬(WF[vo ztG])->n+3≤xSO][VT[by
  show Vv B.length[p+(n+3)]
  ·show Yl[wD[HJ Tm[AV xQn] Tm[AV xQn] q]] h
  ·show DE [_,_,_,_][tF[C7 IU]] xYh IU ST q τ]] (va9,a,b,c,m,į,hby,.inl (hc,hb,h00,hm,Ο z A_,λ z ph dx H2 s2 hph=>?_))
 ·show SL hE[xEq+11=wV[n+3]][BH hn[Kq z]][VY zdR[bY xRy]]
  try dsimp only
  show Ζ hE (vbI,vdl,x05[kN[lt h] _ Gg][VT[Zv zdK[λ t nt=>k[ge h] t _ _ zkm[x7B z]]]])
 ·show SL hE[xEq+Tl[b+5]=wV[n+3]][BH hn[Kh[LJ z]]][VY zdR[bD (Á,ph,dx,_,_,q_,hph,ø)]]
  try dsimp only
  show Ζ hE (vbI,vdl,x05[kN[lt h] _ Gg][VT[Zv zdK[λ t nt=>k[ge h] t _ _ zkm[.inr[Fu z ph dx[gW hph]]]]]])
structure Ĥ where
 b:Nat
 S:LE
 G:LE
 W:LE
 bg:Bool
 fn:Bool
inductive Res where
 |er (c:RA)
 |st (s:Ĥ)
structure Shp (S G:LE)(a n:Nat)(r:LE):Prop where
 a:mh
 n1:xKX
 n2:wu
 m:S.length%64=0
 r:CH[n+2]
 gb:DH G
 gl:yhA 192
inductive xuJ (cH cK cB cT:RA):DQ[LE->LE->xTv Res]
 |cut {b:Nat} {S G L:LE}:xXT 3->yl L->oi L[.st[iQ b S G L false]]
 |cutT {b:Nat} {S G r:LE}:r.length<8->oi tM[.st[iQ b S G tM false]]
 |cutB {b a n:Nat} {S G r:LE}:mh->xKX->wu->S.length%64=0->r.length<n+2->oi E5[.st[iQ b S G E5 false]]
 |badH {b a n c:Nat} {S G z:LE}:yl [a,n,c]->xsD a n c S.length->oi[[a,n,c]++z][.er cH]
 |tl {b:Nat} {S G r z:LE} {res:Res}:CH 8->(tM=Aq->res=xLD b S G z)->(tM≠Aq->res=xOo)->oi[tO[r++z]] res
 |ĥ {b a n:Nat} {S G r z:LE} {res:Res} {o:xNy}:Shp S G a n r->(Ω o->(yl r/\ü[x1t[xJ-2]]≠E5/\res=.er cK)\/(yas G E5/\res=.er cB))->EG T[UF o T->xuP G xXY E5/\xSL/\dU/\x5F 1800]->EG T[UF o T->xA8[b+1][S++T][x0g G T] z res]->oi[jD++(r++z)] res
def pad (h:xXT 3)(hb:WH):∃y a n c z,L++y=[a,n,c]++z/\yl [a,n,c]/\Eu[xyN a n]:=by
 have key:∀a n,mh->D4 n->∃c,yl [a,n,c]/\Eu[xyN a n]:=λ a n ha hn=>by
  by_cases e:xyN a n=0
  ·show Ef 1[by show(xFF,x7r);rcases hx with rfl|rfl|rfl<;>first|assumption|decide][IC e]
  ·show Ef 0[by show(xFF,x7r);rcases hx with rfl|rfl|rfl<;>first|assumption|decide] yex
 rcases L with _|⟨a,_|⟨n,_|⟨c,L⟩⟩⟩
 ·show HD c Ç[key 0 0 zdJ] ([0,0,c],0,0,c,vbB,é)
 ·show HD c Ç[key a 0[hb a Kj][by decide]] ([0,c],a,0,c,vbB,é)
 ·show HD c Ç[key a n[hb a Kj][hb n[AU Kj]]] ([c],a,n,c,vbB,é)
 ·show Dv h[by simp]
inductive xkM (Ce CO CK cH cK cB cT:RA) (vs:SC) (H:Hp) (Q:VK) (E:XK):Prop
 |mk (p co ck g wt:RA) (b0:Nat) (S0 G0 Y:LE) (f0:Bool) (res:Res) (h0:vs=Cw) (h1:AR H p g wt S0 b0 G0 Y f0) (h2:(A2 f0/\xA8 b0 S0 G0 Y res)\/(WF f0/\res=xLD b0 S0 G0 Y)) (h8:∀b S G W fn,res=.st[iQ b S G W fn]->∀l U g' Xu H',DP->S=S0++U->B1=xJt->AR č g' Xu S b G W fn->(∀c o,Μ=LT->A9->xk->W2->Bo=LT)->BD) (h9:∀c,res=AP->ZX zmq):xkM ö v_ å
inductive IrpX (Ce CO CK cH cK cB cT:RA) (H:Hp) (p co ck wt l:RA) (S0 Y:LE) (res:Res) (m:Nat) (σ:St) (H4:Hp):Prop
 |mk (b pl:Nat) (fn:Bool) (g4:RA) (S G U:LE) (v3 v4:EE) (h0:σ=[Bh,zt,Ν pl,v3,v4]) (h1:X7=xJt) (hU:S=S0++U) (h2:AR H4 p g4 wt S b G Y fn) (h3:∀c o,Μ=LT->A9->xk->W2->xKP=LT) (h4:pl≤Y.length) (h5:(A2 fn/\m=x9J+1/\oi xBA res)\/(WF fn/\m=0/\res=xLD b S G xBA)):IrpX ö v_ H p y_ wt l S0 Y res m σ H4
def xjP {A B:Type}{X:dS A B}{G:Fy[dS A B]}(h:∀I',(∀σ H,X Ä->I' Ä)->G I'):∃I',(∀σ H,I' Ä->X Ä)/\G I':=(X,xCb,h X xCb)
def xhh (F:ymF ztB)(Z:oB)(Bd:vy):E4 41 Jaa[xkM ö v_]:=by
 show(vfd,vV Pa Z.pr.partat zgn zkn,π,GB=xhp Æ Bl.F Z Bd,xx1 Sq Ĉ,(vbc,b0,S0,G0,Y,f0,res,ý,hY,k,kE)=h,AH hr34[ED 34] BM hr10 xIa BM[DT[gO Sq.nd yw[zX 2 Sq.nd aj[yjI[iq B4][Eh 3 Sq.nd[xB5[xg6 Pa Z.pr Z.er] hr34 Pa.m Pa.F.kp Pa.b cv[xJn[AL 2[xvM B4 rfl]]]][vB gq Ab dj[ag xmS][DJ 4 zrW 2 Sq.nd sf[Uc[Bv gq sf dj][qh[xzO zgp Ta.m[xir Ta.F Z] hr10 Ta.b zdm xIT]][qh[x1G χ[B9[xzO zgp Bl.m GB hr Bl.b zdm xIT]]]]]]]]][bO[xAi B4 Ε] xOy]]]],Gd[IQ zdF],Es s0 xPo,((dx0,YX),hC0,hw0)=xJg,xLZ hco0 hC0.ob hck0 hC0.ch,π,Df Up l p[ik YX] nlo[E8 co][ik hco0],AH nlk[E8 ck][ik hck0] nlw[E8 wt][ik hw0] M',Gd Al,Υ Gw[(λ(J:∀b pl fn g4 S G4 U v3 v4 H4,H4 l=some (.lst (U.map vN))->S=S0++U->xvh ö H4 p y_ g4 wt S b G4 Y true fn->(∀c o,H c=some o->c≠p->c≠co->c≠ck->H4 c=some o)->res=.st ⟨b,S,G4,Y.drop pl,true,fn⟩->R1 [some (.ref p),some (.ref l),some (vN pl),v3,v4] H4)=>?_)[λ b pl fn g4 S G4 U v3 v4 H4 hl4 hU S8 fr er=>Al]])
 rotate_left
 ·show(xHg zbu n4 n5 n6 S8.ne,xRp S8,FJ (vbY,Ï,vba,vfe))
  try dsimp only
  show([dW,-ME],ω s5[HP xBA nlw'] (_u,xPv,vbR,g_),[xz2],Df nwp lw p[sM hp nlw'] kp[∀c o,xKP=LT->A9->xM2[cg H4 lw xBA][xw8 lw true fn] c=LT][λ c o e n=>xID[Dm e]],xR0[k b S G4 _ fn er l U g4 lw _ nl hU znS λ c o e a1 a2 a3=>DY x1r a1])
 show(x4,x8[IrpX ö v_ H p y_ wt l S0 Y res] (EB f0 0[x3Z 0+1],b0,0,f0,g,S0,G0,[],vbE,į,yh5 _,Ud dx0[sQ YX] zng,λ c o e _ _ _=>vm,Bz,hY.imp[λ⟨e,h⟩=>(e,xAm,h)] λ⟨e,h⟩=>(e,xAm,h)))
 rintro m σ H4 ⟨b,pl,fn,g4,S,G4,U,v3,v4,rfl,hl4,hU,S8,fr,T6,hc⟩;show(xHg zbu n4 n5 n6 S8.ne,xRp[id S8],Uv Y3 zgL);rcases hc with⟨rfl,rfl,hd⟩|⟨rfl,rfl,er⟩
 rotate_left
 ·exact(Ė,hp,vbO,ŵ,bD[J _ pl _ g4 S G4 U v3 v4 H4 hl4 hU S8 fr er])
 show Υ zkW
 dsimp only;show(SB hdl[BF xBA x9J] Kc cut[∀{R r:LE},xBA=R++r->xBG x9J/\tI mY[Ψ pl][Tl[pl+R.length]]=Bw/\Y.drop[pl+R.length]=r/\pl+R.length≤Y.length][λ {R r} e=>by
  show SL h[xBG x9J][by show([-hdl,e,JP],gk)] (h,à,IY zim Xs XL zpT)
  ·rw [xum _ gk[y8[Dd zim Xs _z zpT]],L6,<-ME,<-MF,e,Rt]
  ·rw [<-MC,e,O1]],SB nope[res=.st[iQ b S G4 xBA false]->∀H5,x0e H5->R1 [Bh,zt,Ν pl,some .non,v4] H5][λ er H5 s5=>J b pl false g4 S G4 U _ _ H5[Dm hl4] hU[zu xPv[CC c o e[Dm e]][Dm hw]][λ c o e a1 a2 a3=>Dm x1r] er] bad[∀c,res=AP->∀H5,x0e H5->fi c H5][λ c e H5 s5=>x2k H5 λ c o e a1 a2 a3=>Dm x1r],tR[ar λ R2 g2=>(vbY,Ŷ,Ce,ę,hp,vcx,CO,Y3,Ö,U7,R0.cl,vfA,?_)])
 generalize hL:xBA=L at*;clear fd B G' CW C0 C1 C2 C3 C G cM cN F Z Bd R0 w_1 w_2 Pa w_3 w_4 Ta w_5 w_6 Bl GB hr g b0 G0 f0 hR hY k kE hr34 hr10 s0 hC0 hw0 dx0 YX w_7 hco0 w_8 hck0 J n1 n2 n3 n4 n5 n6 Y3 U7 S8;cases hd with
 |cut h3 hb3=>
  show(TL,(y,a,n,c,z,e1,e2,e3)=pad h3 hb3,ZC (wt,Y,y,z,pl,_,a,n,t_,hw,T6,Sc hL e1,e2,.inr (.inl e3,λ _ H5 s5=>g2 _ zh7,Bp h[C8 hdl[ic h3]])))
 | @cutT _ _ _ r h8=>
  show BU hl[CZ Rn r=xCg 3] JP (wt,Y,[],r,pl,_,0,0,Á,hw,vcN,xo,.inl (rfl,Z9,JC,(Jf),f_,λ h H5 s5=>g2 _ zh7,Bp h[by show([-hdl,hl],Au[ic[Wg Tm FE[Ar kX][PC FE] h8]])]))
 | @cutB _ a n _ _ r ha h1 h2 hm U3=>
  show BU hl[xJ=xCg 3] JP (wt,Y,[],r,pl,_,a,n,Á,hw,vcN,x1o h2,.inl (rfl,h2,ym z[LJ h1],λ _=>hm,n+2,(Kh[LJ h1]).symm,λ h H5 s5=>g2 _ zh7,Bp h[by show([-hdl,hl],Au[ic[El Η Jr[Ar xyJ][PC Jr] U3]])]))
 | @badH _ a n c _ _ z hby hB=>
  exact(wt,Y,[],z,pl,_,a,n,t_,hw,T6,by rw [hL,Ku],hby,.inr (hB,Bp h[xCl hdl JP[jr[KL 3 _]]],λ _ H5 s5=>bad ĝ s5))
 | @tl _ _ _ r z _ h8 kt kf=>
  show(AH VB[CZ Rn r=11][BH JP h8] eL'[tO[r++z]=(tM)++z] (JT _ _ _).symm gE,DS hle ec ed hpl'[cut (R:=tM) eL']);rw [VB] at hle ec ed hpl';show((wt,Y,[],r++z,pl,_,0,0,Á,hw,vcN,xo,.inl (rfl,Z9,JC,(Jf),f_,vd2)),Fv[xAr v][by rcases hv with⟨_,z⟩|⟨z,_⟩;show(xKb,Iq)],Υ[g2 _ _[vG Br]] (Ė,xPv,va8,ô,t,Û,zW,zp,Á,vba,vdq),(ec:tI mY[Ψ pl][Tl[pl+(8+3)]]=AY tM)=ec)
  try dsimp only
  show(uN,Ty s6[HP tM Ui] ht6[ij ht],ZY hlr[rL H5 lr tM lr=Bc tM] ae s6 x4e,rf H5 lr tM H6,Υ zkN,Υ (ų,xPm,tZ,ß,co,ck,g4,wt,lr,S,_,b,G4,Y,rfl,zu xPm zhC,hlr,λ e H7 hR7 fr7=>?_,λ e H7 s7=>bad _[kf e] _ yc9)[gi _ _ (0,MN _,b,pl+11,true,g4,S,G4,U,Ö,xZZ hl4 Up,hU,hR7,λ c o e a1 a2 a3=>xZZ x1r a1,hpl',.inr[xIS[Sc ed[kt e]]])])
 | @ĥ _ a n _ _ r z _ o hs kN kT kn=>
  show(TL,(ha,vbg,hm,hrl,hgb,hgl)=hs,SB hRlen[xJ=n+5][Γ JP hrl[MM 3 _]] eL'[jD++(r++z)=(E5)++z] (JT _ _ _).symm,DS hle ec ed hpl'[cut (R:=E5) eL']);rw [hRlen] at hle ec ed hpl';show((wt,Y,[],r++z,pl,_,a,n,Á,hw,vcN,x1o UE,.inl (rfl,UE,x1w,λ _=>hm,n+2,(Kh xNo).symm,vd2)),B5 h' h[v=.ref h][by
   rcases hv with⟨z,_⟩|⟨_,h,_,z,_⟩
   ·show Dv z xNo
   ·show AX h z],SB ec[tI mY[Ψ pl][Tl[pl+(n+2+3)]]=AY E5] ec Su[∀{x},x∈E5->x∈jD\/x∈r] xLH,Fx YZ[∃a' b' r',E5=RT a' b'++r'/\D4 a'/\AJ b'/\YG b'/\r'.length=b'+2][EV a n r ha SH UE hrl] E5 R,g2 _ _[vG Br],ω hp5 xPv (Ė,hp5,va8,ô,t,Û,zW,zp,Á,vba,vdq))
  try dsimp only
  show(uN,XM s6[DI Bw Ui] hlr[(EN H5 lr Bw) lr=ur],Ty s6 x4e ht6[DI Bw Ui _ _ ht],lD H5 lr Bw H6,Υ (ė,xNx,zp,?_) (ė,xNx,vbT,Br),Gr hl6[ij hl4] hR6[AR H6 p g4 wt S b G4 Y false][zu xPm zhC] (Á,Zy hl6,ų,xPm,tZ,r_));cases o with
  |none=>
   rcases kN rfl with⟨hby,Yu,er⟩|⟨hx,er⟩
   ·exact(vcq,g4,wt,lr,S,b,G4,Y,R,rfl,hR6,hlr,.inr (hgb,hgl,DB[by show(HQ[Su hx],xA1[x1o UE x z][hby x z])],Yu,YZ,λ H7 s7=>bad _ er _ yc9))
   ·exact(vcq,g4,wt,lr,S,b,G4,Y,R,rfl,hR6,hlr,.inl (none,hx,hgb,hgl,nofun,nofun,λ _ H7 s7=>bad _ er _ yc9))
  |some T=>
   show(TL,DS hx htb Ww hS[kT T rfl],SL hS[U.length≤1800][vH hU JP hS[JW xDD hS]] (vcq,g4,wt,lr,S,b,G4,Y,R,rfl,hR6,hlr,.inl (xXY,hx,hgb,hgl,λ T' e=>by show(Hy,AX htb Ww),λ T' e l7 g7 H7 n7 ng7 hl7 hR7 fr7=>?_,nofun)),Hy,ω hl76[x7H hl6 nlo nlk] (l,l7,Å,hl76,hl7,bQ[by show(xKc,IY ù[D8 bP 1800] Cg Ww hS)],?_))
   try dsimp only
   show(x7w,ZZ kp7[∀c o,H7 c=LT->Eu l->rL H7 l[U++T] c=LT][λ c o e n=>xID e],((dx7,hp7),hC7,hw7)=hR7,FJ[gi _ _ (x3Z[pl+(n+5)]+1,DE [_,_,_,_,_][Bu[A7[C7[vd 4 5]]]] x8r Iu zck[xxJ [_,_,_][A7[vd 2 5]][A7[vd 2 5]] hpl'],b+1,pl+(n+5),false,g7,S++T,_,U++T,Ö,ae,by rw [hU,JT],Ud dx7[xTK hp7 Up.symm][hC7.off kp7 nlo.symm nlk.symm[sM hl6 ng7]][xTK hw7 nlw.symm],λ c o e a1 a2 a3=>xTK[xZZ x1r a2 a3][pq nl],hpl',xLS rfl[Sc ed[kn T rfl]])])
def Res.cl (cL:RA):Res->Res
 | .st (_,_,_,_::_,_,true)=>.er cL
 |r=>r
def xyY {b:Nat}{S G W:LE}:Res.cl cL[.st[xCt b S G W bg]]=.st[xCt b S G W bg]:=by cases W<;>rfl
inductive xvd (cM cH cK cB cT cL:RA):Ĥ->xTv Res
 |mark {s:Ĥ} {L:LE}:x7c->lz->Jv s.W L 3≠x4s L->xTr[.er cM]
 |short {s:Ĥ} {L:LE}:x7c->lz->Jv s.W L 3=x4s L->xGD L<3->xTr[.st[xCt zd0[s.W++L] false]]
 |on {s:Ĥ} {L Y:LE} {r:Res}:s.W++L=(EB s.bg Y[W6 Y])->((lz/\xA8 zd0 Y r)\/(xXF/\WF s.bg/\r=xLD zd0 Y))->xTr x5X
def xvd.inv (h:xCX s):(x7c/\lz/\Jv s.W L 3≠x4s L/\res=.er cM)\/(x7c/\lz/\Jv s.W L 3=x4s L/\xGD L<3/\res=.st[xCt zd0[s.W++L] false])\/∃Y r,s.W++L=(EB s.bg Y[W6 Y])/\((lz/\xA8 zd0 Y r)\/(xXF/\WF s.bg/\r=xLD zd0 Y))/\res=x5X:=by
 cases h with
 |mark a b c=>show DD (a,b,t_)
 |short a b c d=>show Dr[.inl (a,b,c,d,rfl)]
 |on a b=>show Dr[.inr[Z3 a b rfl]]
inductive xkj (cL:RA) (vs:SC) (H:Hp) (Q:VK) (E:XK):Prop
 |mk (a:RA) (R:LE) (e:Nat) (h0:vs=sZ[vN e]) (h1:Α=ur) (h2:xBG e->xEE) (h3:xOg e->fi cL H):xkj cL å
def xgb (F:Ρ ziL xHD)(Z:xLi)(mB:xVQ=υ cL)(xB:oo cL):x2e xHD[xkj cL]:=by
 show(xWI,iD xk3 Ĉ,ye a R e w_ k kE,DR[d8 cZ yv χ[og zc0]] (vcw,_V,?_),Ex[x05 zmp])
inductive Ũ (Ce CO CK cM cH cK cB cT cL:RA) (vs:SC) (H:Hp) (Q:VK) (E:XK):Prop
 |mk (p co ck g wt a:RA) (s:Ĥ) (L:LE) (res:Res) (h0:vs=jP) (h1:xBu H p g wt s.S s.b s.G s.W s.bg s.fn) (h2:Α=ax) (h3:xTu) (h4:xCX s) (h5:qF[res=xHN->∀l U g' Xu H',DP->s'.S=s.S++U->B1=xJt->xBu č g' Xu s'.S s'.b s'.G s'.W s'.bg s'.fn->(∀c o,Μ=LT->A9->xk->W2->Bo=LT)->BD]) (h6:∀c,res=AP->ZX zmq):Ũ ö zbN å
def xaR (F:ymE ztC)(Z:oB)(Bd:vy)(mB:xVQ=υ cL)(xB:oo cL):E4 42 Jaj[Ũ ö zbN]:=by
 show(T0=Z.tt,vV Ma Z.mark zf9 La Z.pr.nlast,xx1 xrs Ĉ,(vbc,a,s,vbe,ý,ha,hl,hT,k,kE)=h,tS zec hr32 32,aR hr41 41,vc4,DR[bO[HA B4 χ][xHm B4[qh[xtZ zgp Ma.m[xhT Ma.F Z] hr32 Ma.b zdm]][qg xrs.nd[xzB xOz[xtZ zgp Pa.m[xhh Pa.F Z Bd] hr41 Pa.b zdm] yw][xw1 xOz[qh[xB5[xgb La Z.pr zc0] TQ La.m La.F.kp La.b cv[yT B4]]] xH3]]]][UZ (vbY,Á,wt,a,Å,hw,ha,bQ[by show([-JP,-J8,JO],x9s)],x7I)],x7w,Θ s1[HP[s.W++L] nl1] Up zsF,Dp (_u,sI,vbR,ZT,Al),[xz2],(b,S,G,W,bg,fn)=s,hTi=hT.inv);dsimp only at*;generalize W++L=X at*;show(SB TH[∀c o,Μ=LT->A9->xDM xWw x1D c=LT] zrm[BG[xDM xWw x1D p] Ce x1D] ae,Fx hw1[xDM xWw x1D l1=Ak xWw][xSy Up][xDM xWw x1D] H1,Θ hC1[ygH TH] nn[∀{c} {H2:Hp},(∀c o,Μ=LT->A9->Zt=LT)->EO o[H2 p=LT]->Ω Zt->Bf c][λ {c H2} kp ⟨o,h⟩ n=>by
  cases e:Μ with
  |none=>rfl
  |some o=>
   by_cases z:c=p
   ·show Ek h n n
   ·show A8[OT z] n n],tR[ybP g1],(λ(J:∀Y r wt2 H2,xvh ö H2 p y_ g wt2 S b G Y true fn->(∀c o,H c=some o->c≠p->H2 c=some o)->((fn=false/\xuJ v_ b S G Y r)\/(fn=true/\r=.st ⟨b,S,G,Y,true,true⟩))->res=r.cl cL->R2 [some (.ref p),some (.ref a),none] H2)=>?_)[λ Y r wt2 H2 T3 kp12 hz er=>Al])
 rotate_left
 ·show(x4,pd YU Sw T3.ob M',Gd (va2,YU,Ö,Sw,vdm,ŵ,bY (ß,vbK,Sw,vb6,_,wt2,b,S,G,Y,fn,r,vb1,hz,λ b' S' G2 W' fn' e1 l U g' Xu H3 nl hU SV SN VP=>Al,λ c e1 H3 VP=>kE c[BH er e1] H3 λ c o e a1 a2 a3=>gs zrX)),xOm US SW SN.ob frA[∀c o,Μ=LT->A9->xk->W2->qO=LT][λ c o e a1 a2 a3=>gs zrX],Θ nl0[nn kp12[PL Sw] nl] fin[(WF fn'->W'=[])->qM H3][VT[k[iQ b' S' G2 W' fn'][by rw [er,e1];cases fn' with
   |false=>exact xyY
   |true=>show CM[h rfl]] l U g' Xu H3 nl0 hU SV SN frA]])
  cases fn' with
  |false=>exact(va2,US,vcd,vbO,_T,xIC[fin nofun])
  |true=>
   show((va2,US,vcd,vbO,ŵ,bY (va2,US,vcd,va8,Xu,W',0,rfl,SN.ws,TD[AK[fin λ _=>Qj[ycI z]]],TD[kE cL ?_ H3 frA])),[er,e1]);cases W' with
   |nil=>show Iq
   |cons=>rfl
 show SB fr1[∀{H2:Hp},Ap->∀c o,Μ=LT->A9->xk->W2->Zt=LT][λ s2 c o e n _ _=>Cv[jY e n]] t3[∀Y:LE,(184::66::1::Y).take 3=ybr[184::66::1::Y]][λ Y=>CM[Kg[yhk (184::66::1::Y).length xQW]]]
 rcases hTi with⟨rfl,rfl,T1,er⟩|⟨rfl,rfl,he,h3,er⟩|⟨Y,r,eX,hz,er⟩
 ·exact(vb9,_T,bY (ų,SI,vb6,_,l1,_,b,G,X,vfr,λ _ H2 s2=>kE _ er _[fr1 s2],ym z T1,λ Y Xu H2 e=>absurd[Vz[t3 Y]] T1))
 ·show(Dp (vb9,_T,bY (ų,SI,vb6,_,l1,_,b,G,X,vfr,ym he z,λ _ _ H2 s2=>Al,λ Y Xu H2 e=>absurd h3[Vz[jr xQW]])),Sw=Cv SI,Gd (Ė,Sw,vdm,_T,bD[IQ zdF]),xFD s3 xPo SW[Dz Sw] (Ė,SW,vbO,_T,xIC[HG er l [] g l1 _[nn[λ c o e n=>Cv[jY e n]][PL Sw] nl][yh5 _] ae[zu SW[hC1.keep λ c o e _=>wN e][wN hw1]][fr1 Ut]]))
 ·cases bg with
  |true=>exact(vb9,ŵ,bD[J Y r l1 H1[zu SI hC1[Sc[BL Y X eX.symm] hw1]] TH[hz.imp id λ z9=>by show((a,_,b)=z9,AX a b)] er])
  |false=>
   obtain⟨rfl,Vh⟩:A2 fn/\oi Y r:=yeS[x2s[Az z]]
   show((eX:X=184::66::1::Y)=eX,FU eX (vb9,_T,bY (ų,SI,vb6,_,l1,_,b,G,Á,zu SI hC1 hw1,ym[t3 Y] z,λ _ z=>absurd z[jr xQW],λ Y' wt2 H2 e T3 kp2=>xi[J Y r wt2 H2 T3[λ c o e n=>xLg[jY e n] n][.inl[Fw Vh]] er])))
abbrev s0:Ĥ:=xCt 0 i_ [] false
inductive xqU (Cp Ce CO CK:RA) (H:Hp) (p:RA) (s:Ĥ):Prop
 |mk (dx r co ck g wt:RA) (h0:ni p Cp[fQ r]) (h1:xBu H r g wt s.S s.b s.G s.W s.bg s.fn):u5
def xqU.same (h:u5)(sm:AA):xJz s:=by
 show((dx,r,va7,h0,((dr,hr),hC,hw))=h,(dx,r,va7,oR h0,Ud dr[oR hr][CC c o e xDh][oR hw]))
def xqU.ne (h:u5){xs:SC}(e:Μ=Gq):A9:=by
 show((_,_,_,_,_,_,h0,_)=h,dz h0 B0)
inductive ő (Cp Ce CO CK:RA) (vs:SC) (H:Hp) (Q:VK) (RW:XK):Prop
 |mk (p dx:RA) (h0:vs=Cw) (h1:ni p Cp []) (h2:ZX[xJz s0][o8[Μ=LT->A9->Bo=LT]]):ő Ĵ Ã
def xr5 (F:ylr xts)(Z:oB)(O:xLp):pS 8[ő Ĵ]:=by
 show(TL,x6i,vv xaO[λ RO A outer st H vs Q E hr h=>?_],ze p zce k,CY[xBC[ml[xmv FI Z.tt Z.pr.R] hr Z.tt.m]]);intro x dk nx ndk nek;show(ω s0[xJX Ce][g9 x dk[λ co ck g wt H1 nco nck hR TH=>Xq]],(s1:Ik)=λ b o e=>x6O zeW,ω SI sI (ß,Cp,vbn,SI,vco,Z9,?_),[xsF],((Vk,XD),hC,hw)=hR,SB kp[∀c o,xKq=LT->A9->(kS H1 p Cp[fQ x]) c=LT][λ c o e n=>xID e] ne[∀{c},Bf c->A9][λ n z=>Ek hp n n],BU hq[∀{xs:SC} {c},xKq=Gq->A9][y9[dz SI B0]][HG (dx,x,va7,ae,Ud Vk[DY XD[ne nx]][hC.off kp[ne[xxk nco]][ne x6D][hq hC.gr]][DY hw[hq hw]]) λ c o e n=>DY Eo n])
inductive xqP (Cp Ce CO CK cM cH cK cB cT cL:RA) (vs:SC) (H:Hp) (Q:VK) (E:XK):Prop
 |mk (p a:RA) (s:Ĥ) (L:LE) (res:Res) (h0:vs=jP) (h1:u5) (h2:Α=ax) (h3:WH) (h4:xTu) (h5:xCX s) (h6:qF[res=xHN->∀l U H',DP->s'.S=s.S++U->B1=xJt->xJz s'->(∀c o,Μ=LT->A9->Bo=LT)->BD]) (h7:∀c,res=AP->BK c):xqP Ĵ zbN å
def xl4 (F:Cb zhX xwb)(Z:oB)(O:xLp)(Bd:vy)(mB:xVQ=υ cL)(xB:oo cL):E4 43 Jaj[xqP Ĵ zbN]:=by
 show(vdT,π,xx1 xyo Ĉ,(p,a,s,vbe,vdY,_w,hT,k,kE)=h,tS zeb hr8 8,DR[DJ 2 xyo.nd[xB5 zro N'.m N'.F.kp N'.b bo Yk] 3 zm3[Em 4 xyo.nd[xzO Ab T0.cl Th.m[xaR Th.F Z Bd zc0] hr Th.b zdm Jk][xUC Ab] AS]][xW a _ Ā x7I],vdX,Gr s2' Gg kp0[∀{H3:Hp},(∀c o,Zt=LT->Eu q->Eu co2->Eu ck2->qO=LT)->yaB][λ fr c o e=>xOt zqR[ai Eo no][ai Eo nk]] (Á,q,dq,Á,hq,tZ,Á,q,co2,ck2,g2,wt2,l1,s,vbe,vb1,Cv T2,hl,hT,λ s' e l3 U g3 wt3 H3 nl3 hU SV SN VP=>?_,λ c e H3 VP=>x2k H3[kp0 VP]),Ty kp[kp0 VP] hp3'[DY hp],tN (Ŷ,Cp,ą,hp3',vco,vbx) xi4,SB ne zmd Sv zlc,ZZ YW zly,((US,hx3),hC3,hw3)=SN,ZC[AK[k s' e l3 U _[none_of s2' nl3] hU[Gs SV[YW SV]] (dx,q,co2,ck2,g3,wt3,ae,Ud US zrq) λ c o e n=>Gs OT n]])
inductive xqR (Cp Ce CO CK:RA) (vs:SC) (H:Hp) (Q:VK) (RW:XK):Prop
 |mk (p:RA) (s:Ĥ) (h0:vs=Cw) (h1:u5) (h3:yO s.fn):xqR Ĵ Ã
def xwy (F:Cb zqQ xtI)(T:CRe Â Ce)(O:xLp):Zr[xqR Ĵ]:=by
 show(DW xbc[λ RO A outer st H vs Q E hr h=>?_],(p,u_,(dx,r,va7,hp,hR),k)=h,JI dr VN hR.ob (_,Cj[xvM B4 rfl],ß,Cp,ę,hp,vco,xrj _,r,Ce,dr,Ö,VN,vbD,rz,k))
inductive U_ (Cp Ce CO CK cC:RA) (vs:SC) (H:Hp) (Q:VK) (E:XK):Prop
 |mk (p:RA) (s:Ĥ) (h0:vs=Cw) (h1:u5) (h2:xXF->xEE) (h3:lz->fi cC H):U_ Ĵ cC å
def xod (F:Cb zo1 xsb)(T:CRe Â Ce)(O:xLp)(mC:yg3=υ cC)(xC:oo cC):x2e Jaa[U_ Ĵ cC]:=by
 show((_,_,Ov)=O.over,xx1 Db Ĉ,IG p s rfl ho k kE,yda dx r hp ho,xQ,DR[ig[iq[cu AB O.cl Ov[xwy zha Ov.F T O] Si]][og mC xC]] (vbM,di,p,u_,ho,r_));cases e:s.fn with
 |true=>exact bD[k e]
 |false=>exact bY[kE e]
inductive Ś (cM cH cK cB cT cL cC:RA) (vs:SC) (H:Hp) (Q:VK) (E:XK):Prop
 |mk (a:RA) (L:LE) (res:Res) (h0:vs=Dl) (h2:Α=ax) (h3:WH) (h4:x7h) (h5:xCX s0) (h6:∀s,res=SS->xXF->IH l[B1=Ak[s.S.map vN]->AA->BD]) (h7:∀s,res=SS->lz->BK cC) (h8:∀c,res=AP->BK c):Ś zbN cC å
def xbl (F:Ρ "opened" xtC Jy)(Z:oB)(O:xLp)(Bd:vy)(mB:xVQ=υ cL)(xB:oo cL)(mC:yg3=υ cC)(xC:oo cC):E4 44 Jy[Ś zbN cC]:=by
 show(TL,x6j,BO zeH Fi O.fin,π,iD xqZ Ĉ,(a,vbe,vbH,hT,k,kC,kE)=h,AH zgD BM zec BM[DT[gO xqZ.nd[ml[xr5 FI Z O] YV O.m][Em 2 xqZ.nd[xzO χ O.cl Fe.m[xl4 Fe.F Z O Bd zc0] hr Fe.b zdm vk][aD[xtZ χ O.cl Fi.m[xod zha Fi.F Z.tt O mC xC] TQ Fi.b zdm]] Ε]]])
 intro p dp np Vl Yr;show(ω s0 xPD[g9 p dp[λ H1 ho TH=>Xq]],(s1:Ik)=λ b o e=>xTE xUb,yda dx r hp ho,(vbM,di,ß,a,_,vbe,rfl,ho,CV,õ,hT,λ s e l U H2 nl hU Su XF fr=>?_,λ c e H2 s2=>x2k H2 Gg),yda YU r2 Sw XF,BU s2 Yp[λ c o e=>xOt Eo AE] (ß,vbK,Sw,di,p,u_,XF,TD[AK[k s e z l H2[Sc hU Su] s2]],TD[kC s e z A_]))
universe K26.Ck
namespace K26.Ck
open PySem L2 QQ W17 W16 BP K26.M
structure GB (W T R:LE)(a n:Nat)(r:LE):Prop where
 eq:R=E5
 ha:mh
 n1:xKX
 n2:wu
 hr:CH[n+2]
 byt:DH R
 sl:∃X,R=xHb/\DH X
 t64:dU
 tb:Dg
 good:xuP W xXY R
def xjI (hi:u<4)(h1:xxt)(h2:dU)(hT:Dg)(T2:ydx)(Su:ydB)(hb:DH Rb)(eR:R=wo[pZ[ZI[64*u]-1]] Rb)(hx:TxG Rb W u T.length T t)(XD:xXa 8-t<8)(YN:val Rb%2^(xXa 8-t)=0):∃a n r,GB W T R a n r:=by
 show(SB ha[D4[ZI[64*u]-1]][xn3 hi Ç] hX[DH[pZ[ZI[64*u]-1]++Rb]][xCL[x1o Su x][hb x]],(ZI[64*u]-1,Rb.length,Rb++An[pZ[ZI[64*u]-1]++Rb],by show([eR],Hf ü JT),ha,T2,Su,CM JP,Sc eR[xyb hX],De eR hX,h2,hT,(u,T.length,Rb,t,xXY,hi,é,T2,Su,hb,eR,.good hx,λ T' e=>xi[xLS XD YN],nofun)))
def PB.gb (h:PB W T R)(t:W7):∃a n r,GB W T R a n r:=by
 show((u,ps,Rb,hi,hp,r,eR,T2,Su)=h.parts t,jA hx[xcr hp t r][xjI hi t.one t.le t.tb T2 Su r.byt eR hx.1[Az hx][Et hx]])
abbrev Ĕ (t:LE):LE:=wo[yjv t.length] t
def xdt (h1:xxt)(h2:dU)(hT:Dg):∃a n r,GB W T[Ĕ T] a n r:=
 xjI (u:=0) Z9 Ç hT Ç hT[by rw [QM,Lr]] .raw[IC Nn][by rw [Nn,Rl,Rw]]
def xuy (T:LE):DQ LE
 |0=>[]
 |j+1=>grp j A4 CF
theorem xwB:∀j,xWN[64*j]->A4=wn T j
 |0,_=>rfl
 |j+1,h=>et[grp j A4 CF=_][xwB j[yj [_,_][xHI Tm] xBE h]][xo7 h]
inductive xi8 (T:LE) (Rs:HB) (j:Nat):Prop
 |mk (R:LE) (a n:Nat) (r:LE) (e:xE2) (g:GB A4 CF R a n r) (h:xHM[64*j]):xi8 T Rs j
structure GN (T:LE)(Rs:HB):Prop where
 len:xXU Β
 hb:Dg
 hl:IW
 gb:∀{j},j<Β->xi8 T Rs j
def xmE (hj:j<Β):xHM[64*j]:=by unfold nB at hj;show DE [_,_,_][BS Tm xH2][JB 64[yy 63]][Ar xBE] ST[xb hj] ER
def xqV.gn (hN:xqV T Rs)(hb:Dg)(hl:IW):EW:=(hN.1,õ,λ {j} hj=>by
 show(Ty Sl x96 e[JX[show j<Rs.length by show Sc hN.1 hj]],Dj a n r g[PB.gb[hN.2 j _ e][xSq Sl]] (_,a,n,r,e,Sc[xwB j[Ks Sl]] g,Sl)))
def xgl (h:xHM[64*j])(hb:Dg)(g:GB A4 CF R a n r):Shp[xBp j] A4 a n r:=
 (g.ha,g.n1,g.n2,by rw [J7];omega,g.hr,Sc[xwB j xDW] (xSq h).wb,Sc[xwB j xDW] (xSq h).wl)
def xzC (T:LE):x0V=T:=Kg[by show(xYY,Bg [_,_][x4f 63][xCo xHe] SZ xHe zj)]
def xt7 (hb:Dg):DH DZ:=DB[BU h9[DH[tO[four T.length]++An T]][xCL[Ei[kj q zja]][xyc xyA x]][kj hx[h9 x][xyc[xrL iA h9] x]]]
def xpO (hN:EW):xVC Β=DZ:=xx9 rem[Mb[JQ hN.len]]
def GN.facts (h:EW):yl SA/\Ez SA 1400:=by
 show SL Ss[∀R∈Rs,wO R/\xBG 69][λ R hR=>by
  show(dR ÿ[List.getElem_of_mem hR],(R,a,n,r,e,g,_)=h.gb (j:=j) (C8 h.len hj),Xk[Kr[(xZH).symm.trans e]],AX g.byt[by show az g.eq g.hr;have:=g.n2;show 3+_≤_;show FX bP[Hk Jr] xYe this])][yb[UV Ô]]
 ·show HQ[xLH[kZ x[W6[xWn DZ]] hx]]
  ·exact(by decide:DH ç) x z
  ·show HQ[xLH z]
   ·show HD R hR hx[yj0 z][(Ss R hR).1 Ô]
   ·exact xt7 h.hb x z
 ·show ql[∀L:HB,mq R L[xBG 69]->L.flatten.length≤69*L.length][λ L=>by
   induction L with
   |nil=>exact λ _=>Bz
   |cons R L ih=>
    intro h;have:=ih λ R' YZ=>uA R' YZ
    have:=eJ R;show az LG Ki;omega]
  have:=h1 Rs λ R hR=>(Ss R hR).2
  show(Ty h2 h.len h3 h.hl,xOu nB);show CZ Rs.flatten DZ+3≤1400;show(lP[_+11+3≤1400],Au[Fs zex[xG5[nL 4416[BE 69[.m 69 xH2]]]][BS[rQ 69][JB 4416[Gi 69 D5[.m 69[vd 3 63]]]]][PC[rM 11]] Ye[xb this][JN[Ct 4416 h2][xJR 69 h3[JU 69 ER]]]])
section
variable (cH cK cB cT:RA)
def xtm {z:LE}(hN:EW)(h:xHM[64*j])(g:GB A4 CF R a n r)(k:nZ[j+1] zsk z res):nZ j j A4[R++z] res:=by
 show(Bj[R++z=jD++(r++z)][by rw [g.eq,JT]],Ζ e[.ĥ (o:=some CF) (xXV h g) nofun (UV T' z)[UV T' z]])
 ·show(Iq,hl=hN.hl,Iv[g.eq▸g.good] g.tb g.t64[Ji[ET ù xWS[.n 1800] hl HN]])
 ·show(Iq,Sc xpK k)
theorem rc (hN:EW):∀{m j},j≤m->m≤Β->∀{z},nZ m m xDx z res->nZ j j A4[d9[(xV2).drop j] z] res
 |0,j,hj,_,z,h=>by
  show(Fv[j=0][ycI hj],aq)
 |m+1,j,hj,hm,z,h=>by
  show Vv m j
  ·show(Fv[j=m+1][JS hj q],Sc[Mb[Ji DU]] h)
  ·show(xNI R a n r e g Sl hm,(hl:xOr j xV2)=by rw [J7,hN.len];omega,[Lk,e,QS,LX hl,Mq,JT,OH],rc hN q[Mz hm][xtm zcA Sl g h])
def xnR (z:LE):xA8 b T G[DZ++z][xLD b T G z]:=.tl (r:=xR2) rfl JC[xFI q zbl]
def xsM (hN:EW)(hj:j≤Β){z:LE}(h:xA8 Β T SU z res):nZ j j A4[d9 x4y z] res:=by
 have:=rc zcA hj ρ[Sc xzC h]
 rwa [Kg[JQ hN.len]] at this
variable (cM cL:RA)
abbrev xht (T:LE)(j:Nat)(W:LE):Ĥ:=iQ j[xBp j] A4 zeA
def sa (T:LE):DQ Ĥ
 |0=>s0
 |m+1=>xE m []
def pre (Rs:HB):DQ LE
 |0=>[]
 |m+1=>xXn xV2
theorem xua (hN:EW):∀{k},k≤Β+1->xCX wJ->x02[pre Rs k++L] res
 |0,_,h=>h
 |m+1,hm,h=>by
  rcases h.inv with⟨z,_⟩|⟨z,_⟩|⟨Y,r,e,hz,rfl⟩
  ·show Iq
  ·show Iq
  show(Bj[L=Y] e,DX);obtain⟨_,hz⟩:A2 false/\nZ m m xDx L r:=yeS[x2s gA]
  show EC[.on (Y:=d9 xV2 L) (yM[xXn xV2++L=W6 _] JT)[.inl Xq]][rc zcA Bz[M0 hm] hz]
inductive On (T:LE) (Rs:HB) (rest:LE):Fy Ĥ
 |fst {W:LE}:W++rest=W6 dD->Tp rest[xCt 0 i_ zeA]
 |nxt {j:Nat} {W:LE}:j≤Β->W++rest=xJN->Tp rest[xE j W]
theorem ww (hN:EW):∀n j q,n+j=Β->xQX q xJN->∃s,nZ j j A4[(xJN).take q] SS/\lz/\Tp[x4E xJN] s
 |0,j,q,h,hq=>by
  show Fv zlf
  rw [xpO hN] at hq ⊢;show(SB hq[q<11] hq on[Tp[ybD q][xE Β[xMl q]]][.nxt ρ[by rw [xpO hN,Ky]]],AD q 3)
  ·exact JH _[.cut[Ji[Dd zb1 xyJ Tm D2 z DU]][DB[xt7 hN.hb x V1]]] on
  ·show(Bj[xMl q=tO[xY8[q-3]]][Jm zrY[Kg[show Ez Rn q from z]]],pV e on[JH _[.cutT[Ji[VZ [_,_,_] zpL FE hq DU[xAg z]]]] on])
 |n+1,j,q,h,hq=>by
  show xNI R a m r e g zmf;rw [xsw e] at hq ⊢;show AD q R.length
  ·show((on:Tp[uQ R[xVC[j+1]] q][xE j[R.take q]])=.nxt[yj zez SZ wc][by rw [xsw e,LX[Ks z],<-JT,Ky]],[Ln[Ks z]],gJ q 3 y y)
   ·exact JH _[.cut[Ji[Dd zb1 xyJ Tm D2 y DU]][DB[g.byt x V1]]] on
   ·show(Cc hR g.eq z'[q<3+(m+2)][by rw [hR,JP,g.hr] at z;show xKb] e2[R.take q=RT a m++r.take[q-3]][Jm hR MS[Kg[show Ez[RT a m] q from y]]],pV e2 on[JH _[.cutB g.ha g.n1 g.n2 (xXV Sl g).m[by show([J7,g.hr],x3 [_,_,_,_][G8[A7[vd 3 3]]][.a[Hk[yy 2]] Xs][yy 2] z'[JN DU[xAg y]])]] on])
  ·show([MS,Kg z,Ra,P0 z,KN],xOX JP,BI s k k2[ww hN n[j+1][q-R.length][iP zql V3 XL Ec xGI][Vx zs6[HV xH0] hq[YF _I z]]] s[xtm _ _ _ _ hN Sl g k] k2)
def xp7 (hN:EW)(hq:q<xGL):∃s,x02[yg9 q] SS/\lz/\Tp[x4E SA] s:=by
 show AD q 3
 ·show AH e[yg9 q=ç.take q][Ln[Ks z]] el[BF[ç.take q] q][Ji[xZD z]][JH _[.short Ð Î][.fst[Ky _ _]]]
  ·rw [KN,e,el,Kg[Bx el[iO C4 D2 D2 z]]]
  ·show bE KN e el z
 ·show(SB e[yg9 q=W6[uO dD q 3]][HF[Jv ç dD q=_] MS[Kg[yhk q z]]] e2[x4E SA=(dD).drop[q-3]][HF[uQ ç dD q=_] Ra[P0[yhk q z]]],(s,k,kf,ko)=ww zcA Β 0[q-3] rfl[by show(kU[BF SA[aO dD 3]],Vx zp1[Bu xYE] hq[Ge this[xAg z]])],[e,e2],k2=xvd.on ziM (s:=s0) (L:=W6[uO dD q 3]) rfl[.inl[Fw k]],(b,S,G,W,bg,fn)=s);clear k;show(Fv[A2 fn] kf,A3 xyY k2[JH _ k2 ko])
def xgS {b:Nat}{S G W L Y:LE}(e:W++L=EB bg Y[W6 Y])(h:oi Y r):lp[xCt b S G W bg] L x5X:=.on e[.inl[Fw h]]
def On.rest (hN:EW)(h:Tp z s):lp s z[xLD Β T SU []]:=by
 show FR e[xnR v_ (b:=Β) (T:=T) (G:=SU) []] Ku e;cases h with
 |fst h=>exact x1H h[xsM zcA Bz e]
 |nxt hj h=>exact x1H h[xsM zcA hj e]
def On.last (hN:EW)(h:Tp[A++CI] s)(hy:y≠x):lp s[A++[y]] xOo:=by
 show(SB ht[DZ=tO[xY8 7++[yU DZ 10]]] rfl key[∀{B C:LE},B++(A++CI)=C++DZ->B++(A++[y])=C++(tO[x1q])/\tO[x1q]≠DZ][λ {B C} e=>by
  rw [ht,<-JT,<-JT,<-JT] at e;show((e1,e2)=ylk e,EJ[by rw [<-JT,e1,JT,JT]] oM);rw [ht,<-JT,<-JT] at z;exact hy[(xJ8 (ylk z).2).trans (xJ8 e2).symm]],(fin:∀{j},j≤Β->tO[x1q]≠DZ->nZ j j A4[d9 x4y[tO[x1q]]] xOo)=λ hj ne=>by
  refine xsM zcA hj ?_;have:=xuJ.tl zdV (b:=Β) (S:=T) (G:=SU) (r:=x1q) (z:=[]) (res:=xOo) rfl[xFI q q ne] JC
  rwa [Ku] at this)
 cases h with
 |fst h=>
  show JI e ne[key (C:=xGP ç) (h.trans (JT _ _ _).symm)][x1H[e.trans[JT _ _ _]][fin Bz ne]]
 |nxt hj h=>
  show JI e ne[key h][x1H e[fin hj ne]]
universe s
def Ē (A:LE)(j b:Nat):LE:=A.set j[(xJy)^^^2^b]
def xzH (A j b):BF[xA0 A j] A.length:=N2
def xul (hx:qG)(hb:b<8):D4[x^^^2^b]:=LN (n:=8) hx[Nat.pow_lt_pow_right (a:=2) (by decide) hb]
def xwO:x^^^2^b≠x:=y9[by
 show(DA[2^b] 0[A3 NR e[xun[e.trans[ylL x]]]],Dv this[LJ[Md[by decide]]])]
def xt4 {A:LE}(hA:DH A)(j):D4 xJy:=by
 rw [Kb];cases e:A[j]? with
 |none=>decide
 |some y=>exact hA y[Lq e]
def xp9 {A:LE}(hA:DH A)(hb:b<8):DH[xA0 A j]:=xol hA[xul[xt4 hA j] hb]
def xsi {A:LE}(hk:xHz k):A.getD k 0^^^2^b≠A[(k)]:=Γ Kb[JX hk] xwO
def xco {A:LE}(hk:xHz k):DL A≠A:=xiC hk[xsi hk]
def xsN {A B:LE}(h:xHz k):DL[A++B]=DL A++B:=by
 show(yh9,[yjA _ h,Kb,Ld h,-Kb])
def xwF {A B:LE}(h:A.length≤k):DL[A++B]=A++xA0 B[k-A.length]:=by
 show(yh9,[List.set_append_right _ _ h,Kb,KM h,-Kb])
section
variable (cH cK cB cT cM cL:RA)
structure xe4 (T:LE)(k:Nat)(w:LE)(c:RA)(g:Nat):Prop where
 byt:DH w
 len:dI w.length
 er:∀z,lp wJ[w++z] AP
 g1:AJ g
 gl:g≤w.length
 ah:∃s,dI s.W.length/\lp wJ[w.take[g-1]] SS/\lp s [xL9[g-1]] AP
def xv4 {L:LE}(h:nZ m m xDx[W++L] r):lp[xE m W] L x5X:=x1H rfl h
def xwg {a n c:Nat}{r:LE}(hb:DH[[a,n,c]++r])(hl:r.length≤97)(h:xsD a n c (xBp m).length):tu[m+1][[a,n,c]++r] cH 3:=by
 show SL h3[DH [a,n,c]][Tz[wa hx]] (hb,by show(lP[dI[3+_]],FX[.n 97] kX FZ hl),oM,Z9,xQW,xE m [a,n],(zF[dI 2]),à)
 ·show Sc JT[xRl[.badH h3 h]]
 ·show Jw[xRl[xuJ.cut zdV (b:=m) zsH (L:=[a,n]) (zF[2<3])[DB[h3 x[Lg [c] hx]]]]] xyY
 ·exact xv4 (W:=[a,n]) Í[.badH (z:=[]) h3 h]
def xsY {r:LE}(hs:Shp[xBp m] xDx a n r)(hb:DH E5)(h:(ü[x1t[xJ-2]]≠E5/\c=cK)\/(yas xDx E5/\c=cB)):tu[m+1] E5 c xJ:=by
 show((hl:xJ=n+5)=Γ JP hs.r[MM 3 _],Θ hn hs.n2 kb[∀z,nZ m m xDx[jD++(r++z)] AP][TD[.ĥ (o:=none) hs[λ _=>h.imp[λ⟨h1,e⟩=>(Tz[tD hx],h1,uf)] λ⟨h1,e⟩=>xIu uf] nofun nofun]],SL h1[AJ xJ][ke yaL] (hb,Ej zbh[xCo xIW] FZ oV hn,oM,h1,ρ,xE m[x1t[xJ-1]],(by show Ez zko;show Ji[HK zdL[.a[vd 2 5] xYl] FZ oV hn HN]),à))
 ·show Sc JT[xRl[kb z]]
 ·show(Bj[x1t[xJ-1]=jD++r.take[n+1]][Jm hl MS[Kg[show rJ[n+5-1] by show Bg [_,_] xIW Tm Ġ τ]]],uf,Jw[xRl[xuJ.cutB zdV (b:=m) zsH (r:=r.take[n+1]) hs.a hs.n1 hs.n2 hs.m[Ji[El SZ Η Tm[yy 2] DU]]]] xyY)
 ·show(xv4 Í (r:=AP) ?_,SB hk[xJ-1<xJ][Nat.sub_lt h1 Z9] e[x1t[xJ-1]++[yU E5[xJ-1]]=jD++(r++[])][by
   rw [Kb,JX hk,Option.getD_some,<-PQ hk,Of h1,K0,Ku]],Vz[kb []])
def xoa {r:LE}(hr:CH 8)(hb:DH tM)(ne:tM≠DZ):tu[Β+1] tM cT 11:=by
 show AH hl[CZ Rn r=11][BH JP hr] kb[∀z,nZ Β Β SU[tO[r++z]] xOo][TD[Sc xzC[.tl hr[xFI q q ne] JC]]] (hb,IC hl,oM,Z9,jj,xE Β[Jv Rn r 10],(by show Ez zko;show Ji[Z1[.n 10] FZ DU]),à)
 ·show Sc JT[xRl[kb z]]
 ·show(Bj[Jv Rn r 10=tO[r.take 7]][CM MS],yM[xvd _ _ _ _ _ _ _[Jv Rn r 10] _] e,Jw[xRl[xuJ.cutT zdV (b:=Β) (S:=x0V) (G:=SU) (r:=r.take 7) (Ji[Wg SZ[.n 7] Tm FE DU])]] xyY)
 ·show(xv4 Í (r:=xOo) ?_,SB hk[10<CZ Rn r][IC hl] e[Jv Rn r 10++[yU tM[11-1]]=tO[r++[]]][by
   show _++[yU tM 10]=_;show([Kb,JX hk,Option.getD_some,-PQ hk,Ku],Kg oV)],Vz[kb []])
def xix (hT:Dg)(hx:qG):tu[Β+1][DZ++CI] cL 12:=by
 refine(λ y hy=>xJo[xt7 hT y][Ei[uv q hx]],d6[dI 12],oM,Z9,JZ 12,iQ Β T SU zeP,(zF[dI 0]),à)
 ·have:=xZe T (W:=[]) Í (m:=Β) (L:=DZ++(CI++z)) (Sc xzC[xnR v_[CI++z]]);show Sc JT this
 ·show Jw[xZe T (W:=[]) Í (m:=Β) (L:=DZ++[]) (Sc xzC[xnR v_ []])] Ku
 ·exact .on (s:=iQ Β T SU zeP) (L:=CI) (Y:=CI) rfl[.inr[xIS rfl]]
def xa2 (hk:k<3)(hv:D4 v)(ne:v≠xUL k):tu 0 xQQ cM[k+1]:=by
 show(SB hl[BF xQQ 3] N2 e1[xWo xQQ=Yf][O8 ρ],AH key[∀z,Jv zgO 3≠yhI zgO][λ z e=>by
  have:=x5I[λ l=>l[k]?];show((el:BF Yf k)=Ji[xZD hk],vH[show x9[Jv zgO 3] k v by rw [Ob,Kq hk,KM[Sc el ρ],el,Nn];rfl][show(yhI zgO)[k]?=ç[k]? by show qC Ob[by show(xLF el Ki,Au[ya Tm Ec])]] this[ne[xYR Kb this]])] es[xQQ=Yf++v::ç.drop[k+1]][qC Py[x41 k hk]] (xol[by decide] hv,IC hl,oM,xDD,ke hk,xCt 0 i_ Yf false,(by show Ez zko;show Ji[ET zb1 xyJ FZ hk DU]),à))
 ·refine .mark Ð ?_;show Jv xQQ z 3≠yhI xQQ z;show Γ es JT[key _]
 ·show([OJ,e1],SL el[BF Yf k][Ji[xZD hk]][xvd.short (s:=s0) (L:=Yf) Ð Î])
  ·show et[(Yf).take 3=ybr Yf] el[Kg[Bx el[iO C4 D2 D2 hk]]]
  ·show(Yf).length<3;show Sc el hk
 ·show bE OJ Kb[LV[x41 k hk]][.mark Ð[key []]]
def xju (hk:k<3)(hb:b<8):tu 0[DL ç] cM[k+1]:=xa2 Í hk[xul[xt4[by decide] k] hb] xwO
def xnt (ha:qG)(hn:D4 y)(hk:k<3)(hb:b<8):∃u v c,DL[RT x y++r]=[u,v,c]++r/\Eu[xyN u v]:=by
 show((YQ:xQX k[RT x y])=hk,F7 u v c e hc[xiu (v:=yU[RT x y] k^^^2^b) ha hn[xul[xt4[bx ha hn] k] hb] hk[xsi YQ]] (u,v,c,by show([xsN YQ],Hf Ē e),hc))
def xvo (hN:EW)(hj:xE2)(hb:b<8)(hk:xOg k):(k<3->tu[j+1] xQU cH 3)/\(rJ k->tu[j+1] xQU cK R.length):=by
 show((hjn:j<Β)=C8 hN.len (xLR hj).1,xNI R' a n r e g Sl hjn,Fv[R=R'][Kr[hj.symm.trans e]],Ty hR g.eq hn g.n2,ω XI[xp9 (j:=k) g.byt hb] (Gf h3,Gf h3))
 ·obtain⟨u,v,c,e,hc⟩:=xnt (r:=r) g.ha[AI g.n2] h3 hb;rw [hR,e] at XI ⊢;exact xwg Í XI[Bx g.hr[Wg SZ bP Jr[.n 97] hn]][.inl hc]
 ·show((X,eX,hX)=g.sl,Df T1[ü[uO xQU (xQU).length 2]] xQU[by
   clear hj e;show FU eX[xat hX hk[xul[xt4 g.byt k] hb][xsi hk]]] e2[xQU=jD++xA0 r[k-3]][Sc hR[xwF h3]],(hl:xOP[CZ jD[xA0 r[k-3]]])=by rw [<-e2,xzH])
  rw [e2] at XI T1 ⊢;show([hl],(vci,q5,q6,q7)=xXV Sl g,xsY Í (vci,Sc xzH q5,q6,q7) XI[x7B T1])
def xjM (T):DZ=tO xR2:=rfl
def xsj (hT:Dg)(hb:b<8)(hk:k<11):(k<3->tu[Β+1] x9K cH 3)/\(rJ k->tu[Β+1] x9K cT 11):=by
 show ω XI[xp9 (j:=k) (xt7 hT) hb] (Gf h3,Gf h3)
 ·obtain⟨u,v,c,e,hc⟩:=xnt (r:=xR2) (x:=0) (y:=0) Ċ h3 hb;rw [xjM,e] at XI ⊢;exact xwg Í XI[d6[8≤97]][.inl hc]
 ·show Df ne x9K DZ[xco hk] e[x9K=tO[xA0 xR2[k-3]]][Sc xjM[xwF h3]]
  rw [e] at XI ne ⊢;exact xoa Í[CM xzH] XI ne
def xhN (hc:dH c):DH xRx:=BU h9[DH[Zi++UI]][xCL[Ei[kj q zja]][xyc hc x]][xyb h9]
def xjt (hc:dH c)(hn:x5Y n)(hT:Dg)(hl:IW)(h:n≠T.length\/Eu VG):tu[Β+1] xRx cT 11:=by
 show(xoa (r:=(xRx).drop 3) Í rfl[xhN hc][Gf e],SB e[xRx=DZ] e g[∀i:Nat,(xRx)[i]?=(DZ)[i]?][xD3 uf],SB g3[m7[xHT/256][x26 T.length/256]][g 3] g4[m7[Hs xHT][Hs[x26 T.length]]][g 4],SB g5[m7[xHR/256][xMo T.length/256]][g 5] g6[m7[Hs xHR][Hs[xMo T.length]]][g 6],SB g7[m7[c/256][VG/256]][g 7] g8[m7 xFi[Hs VG]][g 8]);simp only [Option.some.injEq] at g3 g4 g5 g6 g7 g8;show(xw0 VG d T.length t,iw h h)
 ·show SB a1[xHR=xMo t][by rw [<-Lu xHR 256,g5,g6,Lu]] a2[xHT=x26 t][by rw [<-Lu xHT 256,g3,g4,Lu]]
  omega
 ·exact h[by rw [<-Lu c 256,g7,g8,Lu]]
def xdF (hT:Dg)(hx:qG)(h:T.length%64≠0):tu[Β+1][Ĕ CI++DZ] cH 3:=BU hb[qd[Ĕ CI++DZ]][λ y hy=>xJo[Ei[xyb[λ z hz=>kj hz[bx[zF[D4 0]][zF[D4 1]] z][Ei[uv q hx]]] y q]][xt7 hT y]][xwg (a:=0) (n:=1) (c:=xyN 0 1) (r:=(CI++An[RT 0 1++CI])++DZ) Í hb[zF[14≤97]][x5j[xJv Ċ[Sc xzC h]]]]
def xdn (hN:EW)(hj:j<Β)(hx:qG):ye4<64->tu[j+1][wo[RT[ye4-1][aO CF 1]][CF++CI]] cB[aO CF 6]:=VT[by
 show(vdO,Ty t1 (xpS Sl hN.hb).one tb g.tb);generalize CF=t at*;show(SB hb[qd[t++CI]][λ y hy=>xJo[tb y][Ei[uv q hx]]] hl[CZ t CI=xBa 1] JP,SB hX[qd[xIz++xP6]][λ y hy=>xJo[bx[x3 zb1 xYl HW h IJ][Bg m_ bP Iu HW h] y][hb y]] e2[xTF xIz=xIz++(xP6++An[xIz++xP6])][Hf ü JT],(hB:yas A4[xTF xIz])=(0,t.length,t++CI,8*t.length,some[Jv t CI t.length],Z9,t1,xDW,ke xDD,ke h,hb,by rw [QM,Lr,hl],.more[ke nr],λ T' e=>.inr[Fw[Bx hl[El[yI Η][A7 BV] FE SZ τ]]],nofun),Θ hs[xyb hX] hlen[BF[xTF xIz][xBa 6]][by show az xyd hl;show 3+_+2=_;show pI x88 xPP xPP x88],[-hlen]);rw [e2] at hB hs ⊢;exact xsY Í (x3 zb1 xYl HW h IJ,xDD,h,q4,BH JP hl,q6,q7) hs[x7C hB]]
def xea {t:LE}(ht:t.length=64)(htb:qd t)(hx:qG):tu[j+1][xTF[RT 63 65]] cH 3:=by
 show(SB hb[qd[xTF[RT 63 65]]][xyb λ y hy=>xJo[xo y][Ei[kj q[htb y][Ei[uv q hx]]]]] e[xTF[RT 63 65]=[63,65,xyN 63 65]++(xP6++An[RT 63 65++xP6])][xx9 ü JT],pV e hb[xwg Í hb[by show(az JP ht,d6[64+1+2≤97])][.inr[.inr[Fw Z9]]]])
def xem (hN:EW)(hj:j<Β)(h4:j%4=0)(hp:D4 p):tu[j+1][wo zhY] cB 7:=by
 show(vdO,SB hg[A4=[]][by
  clear Rs hN hj e g Sl a_1 n1 n2 r_1;cases j with
  |zero=>rfl
  |succ j=>exact Kq h4] hb[qd [128+p/2,p%2*128]][λ y hy=>by
  show xLP zkp
  ·show Au[Fs 2 [_,_][ZN Dx][EI 256][Ar[Xj 128]] HW hp ER]
  ·show uv zll],E7[wo zhY=lH++([128+p/2,p%2*128]++An[lH++[128+p/2,p%2*128]])][Hf ü JT],Θ hs[xyb (R:=lH++[128+p/2,p%2*128]) λ y hy=>xJo[xo y][hb y]] hB[yas A4[wo zhY]] (2,3,[128+p/2,p%2*128],0,none,_x,Z9,(zF[AJ 2]),(zF[YG 2]),hb,rfl,by
  show Ζ hg[._O (S:=[]) (.cp[zF[0<3]][zF[13≤16]] ?_[Gf q] JC)]
  ·show((0*256+(128+p/2))*256+p%2*128)/2^15%2^1=1;omega
  ·show Dv[JW[Az q][Et q]] Z9,nofun,JC))
 have:=xsY (a:=130) (n:=2) (c:=cB) (m:=j) (T:=T) (r:=[128+p/2,p%2*128]++An[lH++[128+p/2,p%2*128]]) Í[rE Ċ Z9 q4 q6 q7][C8 e2 hs][x7C[C8 e2 hB]];rw [<-e2] at this;show xB4
universe s
universe K26.Ck
namespace K26.Ck
open PySem L2 QQ W17 W16 BP K26.M
seal PE PA PS Ó PT PW PG PI
abbrev xsg:RM:=top 138
abbrev xsI:RM:=top 139
abbrev xsX:RM:=top 140
abbrev xtT:RM:=top 141
abbrev xth:RM:=top 148
def Gv (te:TE)(σ:St)(H:Hp)(v:V):Prop:=qz[Ik->∀Q:VK,(ZX xC9 dO)->x0K Q]
def Ag (ta:TA)(σ:St)(H:Hp)(vs:SC):Prop:=qz[Ik->∀Q:xIv,(ZX xC9[JJ vs])->xU9 H1 Q]
def XB (H:Hp)(rs:Ξ)(Ls:HB):Prop:=Paired[λ r L=>H r=ax] rs Ls
inductive TU (H:Hp) (a:RA) (Ps:HB):Prop
 |mk (rs:Ξ) (h0:Α=Ak xVp) (h1:XB H rs Ps):TU H a Ps
def xze (te:TE)(σ:St)(H:Hp)(Ps:HB):Prop:=qz[Ik->∀Q:VK,(IH a[xC9->TU H' a Ps->JJ Aj])->x0K Q]
def XB.same (h:xT5)(s:AA):XB H' rs L:=yet h[FV z]
theorem XB.snoc:∀{rs:Ξ} {L:HB} {r:RA} {A:LE},xT5->H r=uc->XB H[rs++[r]][L++[A]]
 |_,_,_,_,.nil,h=>jt h
 |_,_,_,_,.cons a b,h=>xXL[XB.snoc b h]
theorem XB.nth:∀{rs:Ξ} {L:HB} {A:LE} {i:Nat},xT5->B8 L A->∃r,B8 rs r/\H r=uc
 |_,_,_,0,.cons a _,e=>xi[AK a]
 |_,_,_,i+1,.cons _ b,e=>XB.nth (i:=i) b e
theorem XB.drop:∀{rs:Ξ} {L:HB} (n:Nat),xT5->XB H[rs.drop n][L.drop n]
 |_,_,0,h=>h
 |_,_,n+1,.nil=>.nil
 |_,_,n+1,.cons _ b=>XB.drop n b
theorem XB.take:∀{rs:Ξ} {L:HB} (n:Nat),xT5->XB H[rs.take n][L.take n]
 |_,_,0,_=>.nil
 |_,_,n+1,.nil=>.nil
 |_,_,n+1,.cons a b=>xXL[XB.take n b]
def XB.len (h:xT5):rs.length=L.length:=Oz h
theorem TU.same (h:TU H a Ps)(s:AA):TU H' a Ps:=BI rs h0 h1 h rs[FV h0][h1.same s]
def Pv.g (h:GX te v):nD te v:=λ H1 s Q k=>x2U Q x2b
def Ag.nil:Ag è Ä []:=x5U[HG EK]
def Ag.cons (h:nD t v)(g:Ag ta Ä vs):Ag[Õ t ta] Ä[v::vs]:=λ H1 s Q k=>Jd λ H2 s2=>g zbX λ H3 s3=>xKS
def Ls.lstG {A:LE}(h:Ag ta Ä xAN)(hl:xVS):yx x5A A:=λ H1 s Q k=>Jd λ H2 s2=>IQ zhP hp[Yq ymR ae]
def Gv.xor (ha:nD a o7)(hb:nD b FY):nD[UJ xIU a b][vN[m^^^n]]:=λ H1 s Q k=>xFc λ H2 s2=>hb zbX λ H3 s3=>xEL[Sc xz7 xKS]
theorem Gv.ħ {B:LE}(h:Vg B)(hb:DH B)(hl:xGz)(hw:xKQ p):nD[xxE Ī[xB0 te[tC FY]]][vN[ħ n p B]]:=λ H1 s Q k=>Jd λ l H2 s2 h2=>(l,B,n,p,vb2,h2,õ,λ H3 s3=>xKS)
def xst {D:Ends}(h:nD te v)(k:Ja[xXt yV H']):yaZ ì:=xFs k
def Ls.sealed {B:LE}(h:Vg B)(hb:DH B)(hl:xGz):xRQ xs0 xBV[ü B]:=λ H1 s Q k=>Jd λ l H2 s2 h2=>(l,B,rfl,h2,õ,λ l' H' _ s3 h3=>k l' H' Ut h3)
def Ls.lhead (ha:Ju ta a)(hb:Ju tb b)(hc:Ju tc c)(h1:a<4)(h2:G5)(h3:YL)(h4:D4 c):xRQ xqQ[Õ ta[xB0 tb tc]][RT zf4]:=λ H1 s Q k=>xFc[x0j s _[hc H1 s _[FD a b c zdA[λ l H' _ s2 h=>xQ4 s2 h]]]]
inductive xqO (vs:SC) (H:Hp) (Q:VK) (RW:XK):Prop
 |mk (a:RA) (T:LE) (h0:vs=Dl) (h1:Α=DO) (h2:Dg) (h3:xxt) (h4:dU) (h5:qY[B1=Bc[Ĕ T]->BD]):xqO Ã
def xcf:XV xxl xxl xsg:=Uf
structure xzc (K:Frag)(mg:Τ):Prop where
 X:u6
 check:Ι ztD xMm
 sealed:Ι zsD mv
 head:Ι "_law_head" xsS x4z
 block:Ι ztJ xxl
 tail:Ι "_law_tail" xsI x3M
 parts:Ι ztK xxl
 turned:Ι zsJ x3i
 joined:Ι zsK x2Z
def xoy (F:Ρ ztJ xxl)(Z:xLn):BY 3 xxl xqO:=by
 show(Ds Z.X,vV Ch zf5 He Z.head,Ty zff zg4,BA xcf[λ RO A outer st H vs Q E hr h=>?_],Hv a T rfl Ā Ç k,CJ[DT[Cj[fZ GS Se[HA[xSR GH He[eu[IB yv yv]]] AB]]]] e[ZI[64*0]-1=T.length-1][by rw [QM,Lr]],SL hl[BF[RT[ZI[64*0]-1] T.length] 3] rfl[xnY[.sealed[xHF[ygn 0 .c x8u x8u Z9 Ç[AI h2]] ha[Bx hl[Wg SZ bP kX Cg h2]]][xCL[bx[x3 zr0 HW h2 IJ][FX bP zbP h2] x][hb x]][by show(UU hl,FX bP kX D5 h2)]] λ l H' s h=>xQ4 s[xc h h]])
inductive ī (vs:SC) (H:Hp) (Q:VK) (RW:XK):Prop
 |mk (a:RA) (T:LE) (n c:Nat) (h0:vs=[Aj,FY,uF]) (h1:Α=DO) (h2:Dg) (h3:IW) (h4:x5Y n) (h5:dH c) (h6:qY[B1=Bc[x3u[VG^^^c]]->BD]):ī Ã
def xrY:XV ["_law_text","_law_size","_law_other","_law_row","_law_check_here","_law_count"] x3M xsI:=Uf
def wS (F:Ρ "_law_tail" xsI x3M)(Z:xLn):BY 3 x3M ī:=by
 show(vfQ,Ty zff GR[xtJ Æ Ch X],BA xrY[λ RO A outer st H vs Q E hr h=>?_],(a,T,n,c,vbH,hn,hc,k)=h,rU _X[DJ 3 xrY.nd[aK[eu[WX[xHG GR Ch[yT[aK xBX]]]]]] 4 xrY.nd[xJm[IX GR Si Ch 0 yc] Ε][Eh 5 xrY.nd[aK[ac xH6[ac xH6[IB xH6 xCz]]]][Cj[fZ GS Se[jM[HA Ab EH][IB[xGb AS][mz AS]]]]]]],(hx:dH[VG^^^c])=LN (n:=16) xyA hc,Ib[x0l Rn[.lstG[xLB Pv.c.g Pv.c.g[.ħ[x68 [0,0][si .c .c] Z9][by decide] Z9 wp8]] Z9][λ l1 H1 s1 h1=>DG]],Ib[xst[.xor[.ħ[AN CV] ã iA] (Pv.var rfl).g][GG A_]]);generalize VG^^^c=d at*;show(Ib[x0l [Hs[n/16777216],Hs[n/65536],Hs[n/256],Hs n][.lst[zH[D9 256 16777216][D9 256 65536][si[D9 256 256] xN2]] ZJ][λ l3 H3 s3 h3=>DG]],yp e4[[Hs[n/16777216],Hs[n/65536],Hs[n/256],Hs n]=x22][by
  unfold four two;show _=[xHT/256,Hs xHT,xHR/256,Hs xHR];congr 1
  ·omega
  congr 1
  ·omega
  congr 1
  ·omega
  congr 1;omega] e4 h3,ω s23 Ut[xnY (A:=x3u d) (.sealed[.cat[xHF[AN[x0m _ h1]] h3 ZJ][x68[two d][si[xxK 256] xN2] ZJ] ZJ][xCL[Ei[kj q zja]][xyc jc x]] ZJ) λ l H' s h=>xQ4[s1.trans[s23.trans s]] h])
inductive xqc (vs:SC) (H:Hp) (Q:VK) (RW:XK):Prop
 |mk (a:RA) (L:LE) (n:Nat) (h0:vs=sZ FY) (h1:Α=ax) (h2:jG[n/8]) (h3:qY[B1=Bc[Ē L[n/8][n%8]]->BD]):xqc Ã
def xlf:XV ["_law_row","_law_place","_law_other"] x3i xtT:=Uf
def pp (F:Ρ zsJ x3i)(X:u6):f7 x3i xqc:=by
 show(BA xlf[λ RO A outer st H vs Q E hr h=>?_],ye a L n w_ hn k,DR[Em 2 xlf.nd[xRf vk][xz5[xJm[vA Ε mQ][xDk xCz]][xuf Ε mQ xur]] Ε][Hn a xQo gQ],XM s1[xCq Vt] hl[(o5 Vt) l=ax],SL hv[Pv[xL4[xC5 i j xIU][xTp 2[Vb zoN[xw 8]]][Ą zn7[Vb[rI zn9] 1[xw 8]]]] [Cs,Xt,zt][o5 Vt][vN[xwY[n/8]^^^2^(n%8)]]][.xor[.ix rfl hl[xxK 8] hn][.shl[wU 8] Jl]][hv zcg (vbk,xZS,l,_,_,n/8,Ú,hl,?_,Á,YH Î)])
 ·show Ĩ _[Tl[n/8]]=_;unfold Ĩ;show BH[Kq wM][Kq[Ex[ku hn]]]
 ·exact λ c o e=>bp Eo
 ·show([ae],Hf zsI)
inductive xqb (vs:SC) (H:Hp) (Q:VK) (RW:XK):Prop
 |mk (a:RA) (Ps:HB) (h0:vs=Dl) (h1:TU H a Ps) (h2:yjM) (h3:qY[B1=Ak[Ps.flatten.map vN]->BD]):xqb Ã
def xrr:XV ["_law_parts_here","_law_found","_law_part"] x2Z xth:=Uf
def xh4 (F:Ρ zsK x2Z):f7 x2Z xqb:=by
 show(BA xrr[λ RO A outer st H vs Q E hr h=>?_],(a,Ps,rfl,(rs,ha,hR),hl,k)=h,CY[Em 1 xrr.nd yw[vn AB 2 xrr.nd[qP 1 xrr.nd[HA χ Ε]]] χ],Ib[x0l [][.lst .nil Z9][λ l H1 s1 h1=>DG]],ω len hR.len[HU[gX a CV[xqG (xs:=xVp) (D:=Ym) (λ i σ H2=>∃b v,σ=[Cs,υ b,v]/\H2 b=Ak[(yer).flatten.map vN]/\Yp)[zd l none h1 s1] Î ?_]]])
 ·rintro i σ H2 _ ⟨b,v,rfl,_,s2⟩;show jV x8a
 ·rintro i x σ H2 hx ⟨b,v,rfl,hb,s2⟩;show(xHH hx,dR r hr'[yjl hx],ZY hi[i<Ps.length][C8 len (xLR hr').1] eP[JX hi],(r2,e2,h2)=hR.nth eP,Xk[Kr[hr'.symm.trans e2]],SL ef[x1T[Ps.take[i+1]][d9 yer Ps[(i)]]][by rw [Lk,eP,QS,Mq,OH]][x0l[d9 yer Ps[(i)]][xHF[AN hb][Cv h2] ?_][λ l3 H3 s3 h3=>nj l3[Sc ef h3] Ut]],[-JP,-ef]);have:(Ps.take[i+1]).flatten.length≤Ps.flatten.length:=by
   conv=>rhs;rw [<-Ky[i+1] Ps,Mq,JP]
   exact gk
  omega
 ·rintro σ H2 ⟨b,v,rfl,hb,s2⟩;show(g _ _[AK[k b A_ ?_]],[hb,JO,len,K0])
abbrev xvv:RM:=top 142
abbrev xrC:RM:=top 143
def ò (T:LE):HB:=xLI Β[λ j=>oI T j]
def xl3 (hj:j<Β):aA[sP][oI T j]:=by
 show(yhd,BH KS[N1 hj])
def xlB (hb:Dg)(hl:IW):GN T sP:=(yX ò JO Ml,õ,λ {j} hj=>by
 show(Ty Sl x96 tw[xSq Sl],Dj a n r g[xdt (W:=A4) tw.one tw.le tw.tb] (_,a,n,r,yau,g,Sl)))
def xuK (T:LE):HB:=ç::(sP++xSD)
def xuZ (T):BF Xr[Β+2]:=by
 unfold xuK ò;show zm Ki JP JO Ml
def xcC (m:Nat)(h:nP m):yb5 0 aP 64/\x2M 0 m 64=Tl[(m+63)/64]:=by
 show(SL e[x2M 0 m 64=Tl[(m+63)/64]][by
  show ykG Z9
  split<;>omega] (?_,e),(f:∀i:Int,HE 0->i<100000->WF yiZ)=λ i h0 h1=>by
  show(yi8,BH[JY[by omega]][JY[by omega]]),ymy e)
 try dsimp only
 rw [f 0 Ċ,f aP[Au xNi][Au[ku[Wg SZ Cg Tm x4x h]]],f 64 Ċ,f[Tl[(m+63)/64]][Au xNi][Au[ku[Dd zjf[EM 2000[yy 63]] Tm x4x h ER]]],Kq Z9,f[aP+(64-1)] zh5];simp
def xoo (xs)(h:lG m):tI xs aP By=uO[xs.drop m] n m:=by
 show yX û HT.SY HT.SY;rcases P9 m xs.length with h1|h1
 ·rw [KY h1];rcases P9 n xs.length with h2|h2
  ·rw [KY h2]
  ·rw [Mx h2,Kg[Sc Kc ρ],Kg[Sc Kc[Ni h2 _]]]
 ·rw [Mx h1,Mx[JW h1 h],Mb h1,Q8];simp
def Da {H:Hp}{A:LE}{rs:Ξ}(h:Α=uc)(g:Vw=Ak xVp)(hr:rs≠ []):a≠l:=y9[by
 rw [e,g] at h;have:=HO.lst.inj[Kr h];clear a l H h g e;cases rs with
 |nil=>exact hr rfl
 |cons r rs=>cases A with
  |nil=>cases this
  |cons x A=>cases xJ8 this]
inductive Ş (vs:SC) (H:Hp) (Q:VK) (RW:XK):Prop
 |mk (a:RA) (T:LE) (h0:vs=Dl) (h1:Α=DO) (h2:Dg) (h3:IW) (h5:qY[TU H' l Xr->BD]):Ş Ã
def xqN:XV[ybL "_law_found" "_law_at"] xxl xsX:=Uf
def xmU (F:Ρ ztK xxl)(Z:xLn):BY 4 xxl Ş:=by
 show(Ds Z.X,BO zkn zgn,Ty zmC zmH,BA xqN[λ RO A outer st H vs Q E hr h=>?_],ye a T w_ ã k,DR[Em 1 xqN.nd[aK[B9[aK x8H]]][zU[xmy Z7 X.range[eu[yT yv]]] 2 xqN.nd[xJ5 χ[fZ GB Bl[aV AB Ε[Rd Ε]]]]][xEf[B9[Je GT Ta 0[yT yv]]]]][HU[uY[rP 3] l1 n1]],Cc s1[DI xVF n1] h1[(VC xVF) l1=Ak xVF] ae e1[VC [V.int 184,V.int 66,V.int 1]=VC xVF] rfl,CS);clear e1;show(lD H l1 xVF H1,Gj[IQ E9 l n2 DG] g,XM s2[DI x8z n2] h2[(nO H1 x8z) l=Ak x8z],zx h1[Cv h1] nlH[xGM n2] s2 Gg,lD H1 l x8z H2,(hnB:dI Β)=by show(xYY,Au[Fs 64 zjf[Yb[yy 63]] SZ FZ hl ER]),ω sm[xcC T.length x9s][HU (_U,BZ x8a,0,_,64,Β,rfl,Z9,Ex sm.1,Ex sm.2,PZ Z9,xnn (D:=Ym) (lo:=0) (c:=64) (n:=Β)
  (λ i σ H3=>∃(rs:Ξ) (v:EE),σ=[Cs,zt,v]/\H3 l=Ak xVp/\XB H3 rs[ç::(sP).take i]/\yaB)
  (xAk [l1] none h2[jt h1] s2) Î)])
 ·rintro i σ H3 hi ⟨rs,v,rfl,SV,SN,s3⟩;show((e0:IF+ui*64=Tl[64*i])=ua[Hj[qE[wQ 64]] xBE][Hj xBE[qE[wQ 64]]],[e0],xAd tw[xSq[xmE hi]][zN[Zy SV] ?_][Ls.sl (A:=T) (B:=x2P i) (AN[Dz ha])[.aa AN][.aa[xHZ (n:=64) .c]] ?_ H3 EK _ λ l4 H4 s4 h4=>(l4,x2P i,rfl,h4,tw.tb,tw.one,tw.le,λ l5 H5 s5 h5=>?_)])
  ·show(DA[tI WI[Tl[64*i]][Tl[64*i+64]]][AY[x2P i]][by
    unfold ĥ;rw [xoo _ gk,L6,MF,ME]],xB4)
  show(Θ XS[xCM SV] hrs[rs≠ []][by show(vj,Hq);cases SN],ω hR5[(SN.same x4a).snoc h5] (vbd,XS,?_,rs++[l5],Á,à,?_))
  ·show([JO,SN.len,Ki,J7],AI[show _≤200 by show x3 [_,_,_][AV xH4][EM 100 Φ][.n 200] hnB[JN hi DU]])
  ·show Zn
  ·show Γ Lk[xl3 hi][Paired.mapP hR5 λ r A z=>Xm[Da z XS hrs] z]
  ·exact λ c o e=>xZI nlH[xCM[Dz e]]
 ·rintro σ H3 ⟨rs,v,rfl,SV,SN,s3⟩;show(g _ _[Fu ĝ[Pv.len rfl[Dz ha] H3 EK _ (a,T,T.length,0,rfl,Dz ha,õ,AI hl,Z9,λ l4 H4 s4 h4=>uY E9 zcO)]],ω s5[xKn[xxW l4]] (l,l5,Å,xCM SV,ae,?_,UV l6 n6))
  ·show([JO,SN.len,Ki,J7],gY[sS[_+1]][Ga[show _≤200 by show DE ù[EI 100] Iu[.n 200] hnB DU]])
  show xFD s6[DI[xVp++xxW l4] n6] s46[s4.trans x4e][Fl l6[s3.trans s46][Dt[rs++[l4]] Zn]];rw [QO] at h4;show(Bj[(sP).take Β=sP][Kg[by show(yhd,X8 Ml ρ)]],xc SN[(SN.same s46).snoc[ij[Dm h4]]])
abbrev xwS:RM:=top 145
inductive xvQ (cH cK cB cT cM cL cC:RA):DQ[xA3[Fy RA]]
 |body:xxM 8 "body" cB
 |head:xxM 9 "head" cH
 |check:xxM 10 "check" cK
 |mark:xxM 11 "mark" cM
 |tail:xxM 12 "tail" cT
 |cut:xxM 13 "cut" cC
 |behind:xxM 14 "behind" cL
inductive Goal (w:LE):xA3 cm
 |mark {k:Nat}:k<3->w.length=3->yg4=Yf->xL9 k≠xUL k->vJ "mark"[k+1]
 |head:vJ "head" 3
 |tail:vJ "tail" 11
 |behind:vJ "behind" 12
 |body:vJ "body" w.length
 |check:vJ "check" w.length
inductive Due where
 |word (z:Str)
 |text
inductive xza (H:Hp) (d:RA) (T:LE):Fy Due
 |word {z:Str}:E2 d bh->xza H d T xNL
 |text {x:RA}:H d=Ak xSC->HH=DO->xza H d T .text
inductive xkm (cH cK cB cT cM cL:RA) (T:LE):DQ[xTv Due]
 |bad {k i g:Nat} {w:LE} {z:Str} {c:RA}:k≤Β+1->i≠13->xUZ c i z c->tu k w c g->vJ z g->xNR T k w xNL
 |cut {n:Nat}:n<11->xNR T[Β+1] xJ2[.word "cut"]
 |good:xNR T[Β+1] DZ .text
inductive Four (H:Hp) (t:RA) (T:LE) (k:Nat) (w:LE) (d:Due):Prop
 |mk (p x y:RA) (h0:rk [Dc,xDU,Dh,xCn]) (h1:xDr) (h2:HH=xQO) (h3:jm):Four H t T k w d
def xjE (hj:j<Β):x9 Xr[j+1][oI T j]:=by
 show(sP++xSD)[j]?=_;show Sc[Ld[by show(yhd,X8 Ml hj)]] yau
def xuj (T):x9 Xr[Β+1] DZ:=by
 have:BF sP Β:=yX ò JO Ml
 show(sP++xSD)[Β]?=_;show Jm[KM UW] this Nn
def xzd (te:TE)(σ:St)(H:Hp)(A:LE):Prop:=qz[Ik->∀Q:VK,EG l[H1 l=uc->qM H1]->x0K Q]
def xzd.ls (h:xzd te Ä A):Vg A:=λ H1 s Q k=>x2U Q λ l e=>yg H1 EK e
def xzd.part {Ps:HB}(hp:x1c)(hv:tE)(g:Ju tj j)(e:aA Ps A):xzd[xTp i tj] Ä A:=λ H1 s Q k=>by
 show((rs,h0,h1)=hp,HD r er hr[h1.nth e][yH[g H1 s _[zl p _ _ x5[RV.of[FV h0]][aF[BH KS er]][k r[FV hr]]]]])
def Pv.lenv (h:xzd te Ä A):ygw[tCB[λ xs H Q=>∃p ys,xs=Cw/\(xJF\/xJD)/\xJB] xBV]:=λ H1 s Q k=>Jd λ l e=>nj l[BZ e][Ex k]
def Pv.lenp {Ps:HB}(hp:x1c)(hv:tE):Ju[xPW zlX] Ps.length:=λ H1 s Q k=>HD rs h0 h1 hp[rE _ hv p _[BZ[FV h0]][X8 h1.len k]]
def Ls.turned (h:xTQ)(g:xCr u)(hn:xHz[n/8]):xRQ xqc[xB0 t u][Ē A[n/8][n%8]]:=λ H1 s Q k=>Jd λ l H2 s2 h2=>g zbX[Io l A n h2 hn[λ l' H' s' h'=>k l' H' xMK h']]
def Ls.tail {T:LE}(ha:Α=DO)(hv:YK 0 Cs)(hT:Dg)(hl:IW)(g1:xCr u)(g2:Ju v c)(hn:x5Y n)(hc:dH c):xRQ ī[Bk 0[xB0 u v]][x3u[VG^^^c]]:=λ H1 s Q k=>yH[g1 H1 s _[g2 H1 s _ (a,T,n,t_,xIi,hT,hl,hn,hc,k)]]
def Ls.block {T:LE}(h:Vg T)(hT:Dg)(h1:xxt)(h2:dU):xRQ xqO xBV[Ĕ T]:=λ H1 s Q k=>Jd λ l H2 s2 e=>(l,T,rfl,e,hT,é,λ l' H' s' h'=>k l' H' xMK h')
def xwo {D:Ends}{p q:Prop} [Decidable p] [Decidable q] (h1:Tv t Ä[decide p])(h2:Tv u Ä[decide q])(k1:p->q->a ì)(k2:b ì):xvk[tAnd t u] a b ì:=h1 H Bq _[yaN[TD[h2 H Bq _[yaN[λ y=>k1 xC3[J5 y]] k2]]][bD k2]]
def Wv (td:TE)(σ:St)(H:Hp)(z:Str):Prop:=qz[Ik->∀Q:VK,(IH y[xC9->Hl[H' y] bh->JJ xCn])->x0d H1 Q]
def Wv.c:xD7[xN5 xGj] H z:=λ H1 _ Q k=>IQ E9 y ny[Fl y xZf ae]
def xtO {D:Ends}(hp:xDr)(hv:YK 2 Bh)(h1:Ju tk k)(h2:yx tw w)(h3:xD7 td H z)(kk:IH znt):xzl[yaA 2[Õ tk[xB0 tw td]]] ì:=
 yH[h1 H Bq _[h2 H Bq _ λ x H1 s1 hx=>h3 l_ _ λ y H2 s2 hy=>IQ ziN nt[kk t _[x3b nJ] (p,x,y,ae,hp.same[x3b nJ],gW[Cv hx],.word[gW hy])]]]
def xqD {D:Ends}(hp:xDr)(hv:YK 2 Bh)(h1:Ju tk k)(h2:yx tw w)(kk:IH znt):xzl[yaA 2[Õ tk[xB0 tw[xN5 xGj]]]] ì:=xtO hp hv Ç .c kk
def xzi.up (h:xTA vs)(s:AA):xzi ta _L vs:=λ H1 s1=>h H1 x4k
theorem Gv.pick {A:LE}(h:xTA xAN)(hl:xVS)(g:Ju tj j)(hj:xHz j):nD[Ą xBq x5A tj][vN xJy]:=λ H1 s Q k=>K26.Ck.pick[h.up s] hl[g.up s] hj k
def Gv.mul (ha:nD a o7)(hb:WN)(h:ſ m n):nD[xEb zs2][vN[m*n]]:=λ H1 s Q k=>xFc λ H2 s2=>hb zbX[yq ă h xIB]
inductive ū (cH cK cB cT cM cL:RA) (vs:SC) (H:Hp) (Q:VK) (RW:XK):Prop
 |mk (a:RA) (T:LE) (c:Nat) (h0:vs=sZ uF) (h1:Α=DO) (h2:Dg) (h3:IW) (h4:∀t k w d H',AA->xXE t T k w d->xT6->xDd):ū Í Ã
def TK:XV ["_law_text","_law_cell","_law_parts_here","_law_way","_law_last","_law_at","_law_more","_law_other","_law_size","_law_wrong_here"] Jai xwS:=Uf
def xba (F:Ρ ziv Jai)(Z:xLn):xSz Jai[ū Í]:=by
 show(Es X Z.X,BO Ch zf5,BO He Z.head zkn,vV zgn zf9 Tu Z.turned,π,Ew zff zg4 zmC zmH,Ty zmw zmI,BA TK[λ RO A outer st H vs Q E hr h=>?_],Hv a T c rfl ha0 ã k0,tS _H U3 2,aR Uj 3,xCc[DJ 2 TK.nd[jO GP Pa 0] 3 TK.nd xCz[DJ 4 TK.nd[uW[IT Ε]] 5 TK.nd[xDa mQ AS][Eh 6 TK.nd mQ[xKH[xMw[yD 2[eu[IB[xSb[vA Ε aj] rX] Aa]]]][xKH[fu 2 4[xSb xOM rX]][Uo zjW[fu 2 5[xSb xYF rX]][Uo zjW[fu 2 5[xSb xYF[ue[xDa Im[uW[wx[IT xYF]]]]]]][xKH[fu 2 4[xSb xOM[ue rX]]][xKH[fu 2 4[jM xOM[B9 rX]]][xKH[Eh 7 TK.nd[ap xzI[vA[aK[eu x8H]][mz[xGb Im]]][ue rX]][fu 2 4[IX GT Uj Ta 0[yT[Ee yv xIN]]]]][xKH[fu 2 4[IX GT Uj Ta 0[IB yv[ue rX]]]][Uo xH8[xKp[mz yv]][fu 2 4[HA[zO GB Uj Bl[aK[B9 rX]]] xOM]][Uo zjW[DJ 8 TK.nd[uW[IT xYF]] 9 TK.nd[zO GS U3 Se[jM[HA[aB GH U3 He[eu[AL 8[Rd xPM]]]][aV xYF aj xYP]][B9 rX]]][x31 2 5[AL 9[xzB[Bv dX xPM aj] Aa Aa]]]][xKH[fu 2 4[Xc xOM rX]][x31 2 4[IB xOM[aK vk]]]]]]]]]]]]]]]]],Ib[cF È a T ha0 ã[λ p H1 s0 hp=>DG]],Θ ha[sQ ha0] k[∀t kk w d H',xC9->xXE t T kk w d->xNR T kk w d->xDd][λ t kk w d H' s=>k0 t kk w d H'[s0.trans s]])
 clear k0 ha0;show(xFq[wU 12],Θ XU[xuZ T] hbig[∀{A:LE},dI A.length->xVS][VT[Ga h]],xFq[xHc 1[.lenp hp rfl] .c[Sc XU yaL]],HI[(Xr).length-1=Β+1][CM XU])
 try dsimp only
 show(CS,xFq[.mod[xxK 12] AN[MN _]],xFq[xxK 120],ZY hat[c/12%(Β+1)<Β+1] xOI hN w6,xw0[c/12%(Β+1)] q[c%12] y);generalize c/120=e at*;show(SB m8[∀n:Nat,n%8<8][λ n=>Jl] m24[e%24/8<3][Au[Fs zct[Xe Η][yy 24] Tm D2 ER xOI]],Θ pl[xuj T] hblk[0<q->∃j,q=j+1/\j<Β/\x9 Xr q[oI T j]/\aA[sP][oI T j]/\TW CF[wn T j]][VT[by
  show(JK j[Nat.exists_eq_succ_of_ne_zero[LJ h]],BU hj[j<Β][Nat.lt_of_succ_lt_succ hat][kM ÿ[xjE hj] yau[xSq x96]])]],SL lB[∀t:LE,BF[Ĕ t][xBa 5]][λ t=>by rw [xyd,JP];show 3+_+2=_;show pI xYM xI1 xI1 xYM][HU[xKI 1]])
 ·exact xqD hp rfl (k:=0) .c[xNf[xzd.part (j:=0) hp rfl .c rfl][wU 24] m24] λ t H' s f=>oH[xBy Bz .mark[xju _ _ _ _ _ _ m24[m8 _]][.mark m24[xzH ..][O8 ρ][by show(yh9,Γ Kb[LV[x41 _ m24]] xwO)]]]
 show CL g[xKI 2]
 ·exact xDt[xNf xPc[wU 24][Kl _ 11[NU m24 Z9]]] λ t H' s f=>oH[x7k .head[(xsj _ _ _ _ _ _ hb[m8 _][NU m24 Z9]).1 m24] .head]
 show CL g[xwo[xXd 3] zhH DG]
 ·show((j,rfl,hj,eP,eR,tw)=yh6,BU h3[e%24/8<xxy T j][Bx lB[El Tm D2 Tm xIW m24]][xDt[xNf xYG[wU 24] h3] λ t H' s f=>oH[xBy x6v .head[(xvo _ _ _ _ _ _ hN eR[m8 _] h3).1 m24] .head]])
 show CL g[xwo[xXd 4] zhH DG]
 ·show((j,rfl,hj,eP,eR,tw)=yh6,Ty l5[lB CF] t1 tw.one,SB hm[e%(8*xxy T j-24)<8*xxy T j-24][xxr[Bx znc]] h3[(24+e%(8*xxy T j-24))/8<xxy T j][Au[Fs zbY[G8[Xe[vd 3 24]]][Bu[.a[EM 24 XL] BV]] _Z hm[JN ER[DF [_,_][.m 5 xIW][vR 5] xCu FK[Ct 5 l5.symm]]]]],xDt[xNf xYG[vg 24[.mod AN[xHc 24[.mul (m:=8) .c[.lenv xYG] xEa] .c[Bx l5[Hj xCu[yI xI1]]]][Bx znc]]] h3] λ t H' s f=>oH[xBy x6v .check[(xvo _ _ _ _ _ _ hN eR[m8 _] h3).2[Au[xAI zct zjY Ġ zj]]][Jw[Goal.check (w:=Ē[oI T j][(24+e%(8*xxy T j-24))/8][(24+e%(8*xxy T j-24))%8])] xzH]])
 show CL g[xKI 5]
 ·show BU h3[(24+e%64)/8<11][Au[Fs zct[Xe Η][xCo xYk] Tm[.n 11] ER xOI]][xDt[xNf xPc[vg 24[wU 64]] h3] λ t H' s f=>oH[yho[(xsj _ _ _ _ _ _ hb[m8 _] h3).2[Au[xAI zct zjY Ġ zj]]] .tail]]
 show(xxP,SL Y8[D4 xSd] Jl[HU[xKI 6]])
 ·exact xDt[x6w (xPc).ls xN2 ZJ] λ t H' s f=>oH[x7k .behind[xix _ _ _ _ _ _ hb Y8] .behind]
 show CL g[xKI 7]
 ·show AH h4[e/9%4<4] Jl hA[AJ[yU zgc]/\yU zgc≤16777216][by
   generalize e/9%4=i at h4
   match i,h4 with
   |0,_|1,_|2,_|3,_=>show AX ZJ ZJ][HU[xst[.mul[.pick (A:=x14) (zH .c .c[si .c .c]) Z9[D9 4 9] h4][vg 1[wU 9]] ?_][GG A_]]]
  ·generalize yU zgc=o at*;show Dr (by omega,by omega)
  show xxP;generalize yU zgc=o at*;show(Fx h9[e%9<9] Jl[e%9] u,Fx ho[AJ[o*(1+u)]/\o*(1+u)≤16777216*9] (Ru hA.1[KL 1 u],Ru hA.2[Bg m_ DV zB DV h9])[o*(1+u)] o,ZY hn[x5Y[xMk o]][DE zbh[Yb[.m 16777216 DV]] uj[.n 4294967296] hl ho.2] ht[Ls.tail (σ:=[Cs,Ν c,Bh,Ν y,Ν[Β+1],xEA,Ν e,Ν o,none,none]) (u:=UJ[i+j][xPW[λ xs H Q=>∃p ys,xs=Cw/\(xJF\/xJD)/\xJB] lg][Ü 7]) (v:=xQw) (n:=xMk o) (c:=0) x8a rfl ã[xHZ[xBr x8a]] .c hn Z9],A3 QO ht[xqD xVR zdr ht λ t H' s f=>yjO ydK f[yho[xjt _ _ _ _ _ _ xyA hn ã[.inl[by omega]]] .tail]])
 show CL g[xKI 8]
 ·show AH m5[e%65535<65535] Jl hx[dH[VG^^^(1+e%65535)]][LN (n:=16) xyA[by show dH _;show Bg m_[.n 65535] cJ[.n 65536] m5]][xDt[.tail ha rfl ã x8u[vg 1[wU 65535]][AI hl][Bg m_[.n 65535] cJ[.n 65536] m5]] λ t H' s f=>oH[yho[xjt _ _ _ _ _ _ hx[AI hl] ã[.inr oM]] .tail]]
  rw [NR] at z;have:=xun (a:=1+e%65535) (b:=0) (z.trans[ylL _]);show Au[rK C4 zB Hg UW]
 show CL g[xwo[xXd 9][.of[x7X 0[ybn 64 x8u] .c]] yav DG]
 ·exact xDt[.cat[.block (T:=[xSd]) (.one xN2)[DB[uv hx Y8]][JZ 1][zF[AJ 64]]] (xPc).ls ZJ] λ t H' s f=>oH[x7k .head[xdF _ _ _ _ _ _ hb Y8[LJ h0]] .head]
 show CL g[xwo[xXd 10] zhH DG]
 ·show((j,rfl,hj,eP,eR,tw)=yh6,Ew l5[lB CF] t1 tw.one t2 tw.le tb tw.tb,Ty wb[xdn zbM hj Y8] wl[xea (T:=T) (j:=j) Í (t:=CF) (x:=xSd)],(e5:xxy T j-5=ye4)=CM l5,xFq[xHc 5[.lenv xYG] .c[Sc l5 xDD]])
  try dsimp only
  rw [e5];generalize CF=t at*;show(SB ec[tI[AY[Ĕ t]] 3[-2]=t.map vN][BH[xo2 _[Sc l5 xDD]] xtg] hX[DH[RT zpn++t++[xSd]]][xR5[TD[kj z[bx[x3 zr0 HW t2 IJ][FX bP Iu HW t2] x][tb x]]][uv z Y8]],SL hXl[Hc[CZ[RT zpn++t] [xSd]]][by show xKd;show Hc[3+_+1];show FX bP[Ar kX] D5 t2][HU[d7[.sealed[x6w[.cat[ygn 0 .c AN[xHZ (n:=1) .c] Z9 t1 t2[FX bP Iu HW t2]][.sl (xYG).ls[.aa (i:=3) .c][.aa[.neg (i:=2) .c]] ec] ?_] xN2 ?_] hX hXl] λ x H2 s2 hx=>DG]])
  ·show(aQ[3+_],FX bP kX Cg t2)
  ·show(lP[nP[3+_+1]],FX bP[Ar kX] Cg t2)
  show(xxP,(e0:64*0+t.length-1=t.length-1)=by rw [QM,Lr])
  rw [e0,JT] at hx;by_cases Sl:t.length<64
  ·refine xtO (z:="body") xVR zdr zlk λ tt H' s f=>Fl tt _ _ H' ydK f[xBy x6v .body[wb Sl] ?_]
   ·show Sc[JY Sl][bY[xO3 H3 Q k]]
   ·show((hw:BF[wo xIz[t++[xSd]]][xBa 6])=by show az xyd JP;show 3+(xBa 1)+2=_;show pI x88 xPP xPP x88,C8 hw .body)
  ·show SL e64[t.length=64][JS t2[xLQ Sl]][xtO (z:="head") xVR zdr zlk λ tt H' s f=>Fl tt _ _ H' ydK f[xBy x6v .head ?_ .head]]
   ·show xKT Sl[bD[xO3 H3 Q k]]
   ·show Sc e64[wl e64 tb Y8]
 show CL g[xKI 11]
 ·exact xDt[.upto (xPc).ls[wU 11]] λ t H' s f=>oH[.cut Jl]
 show(xxP,Fu ĝ[xPc H1 EK _[DB[zN E9[λ y' ny=>IQ ziN nt[Fl t _ .text _[(xZf).trans nJ] (p,x,y',ae,hp.same[(xZf).trans nJ],gW[xZf _ _ hx],.text[gW ae][gW[xZf _ _ ha]]) .good]]]]])
abbrev xtn:RM:=top 149
def Pv.ne (ha:qm)(hb:WN):GX[xEb rNe b][xw7[m≠n]]:=λ H1 s Q k=>xFc[x0j s _[Fw[Sc[show(! D3 o7 FY)=decide[m≠n] by show Dq[BL[D3 o7 FY] zmE]] k]]]
def wP {A:LE}{x:Nat}(h:x∈Fh n A):x∈A:=by
 show((B,hB,hx)=yj0 h,A3 List.mem_replicate hB[hB.2▸hx])
theorem xtk (A:LE):∀n,BF[Fh n A][n*A.length]
 |0=>CM OK
 |n+1=>by rw [LF,LG,JP,xtk A n,Nat.succ_mul,MM]
def Ls.repL {A:LE}(h:xTQ)(g:xCr u)(hn:n≤10000)(hl:xNS[A.length*n]):yx[Ą rRep t u][Fh n A]:=λ H1 s Q k=>by
 show(Jd λ l H2 s2 h2=>g zbX (vbd,h2,Ph[2^63] _,by omega,Γ KG JO x9s,pL),Γ KG[show Fh n xAN=AY[Fh n A] by rw [List.map_flatten,List.map_replicate]][Fl p ymR ae])
inductive Z_ (vs:SC) (H:Hp) (Q:VK) (RW:XK):Prop
 |mk (a:RA) (T:LE) (b:Nat) (h0:vs=sZ yP) (h1:Α=DO) (h2:Dg) (h3:IW) (h4:G5) (h5:WW) (h6:∀l (L:LE) H',AA->B1=ax->yl L->(L.length=259\/L.length=515)->BD):Z_ Ã
def xvS:XV ["_law_text","_law_back","_law_size","_law_long_here","_law_k"] Jag xvv:=Uf
def xbI (F:Ρ ziO Jag)(X:u6):f7 Jag Z_:=by
 show(BA xvS[λ RO A outer st H vs Q E hr h=>?_],(a,T,b,vbH,é,k)=h,CY[DJ 2 xvS.nd[vA[aK xBX] xH6] 3 xvS.nd[ap xpm[jM AB Yk][ue[ap xlE Ε[Rd yv]]]][Em 3 xvS.nd[Xc Ab Ε][zU[xJx yc] 4 xvS.nd[xJ5 Ab[vA Ab[yQ[IT Ab] χ]]]] Ab]],SL hj[b/2%2<2] Jl M',Ib[xst[.pick (A:=[256,512]) (si .c .c) Z9[D9 2 2] hj][GG l_]],Fx hs[yU ziw=256\/ yU ziw=512][by
  generalize b/2%2=i at hj
  match i,hj with
  |0,_=>show DD rfl
  |1,_=>show Dr rfl][yU ziw] s,Cc YS CV hq[s/xEX≤512][JW[Nat.div_le_self _ _][by omega]] hmul[nP[xEX*(1+s/xEX)]][by
  rw [NK,Nat.mul_one];have:=KB s[xMk 1];omega],SB Uq[s<(1+s/xEX)*xEX][by
  have:=Nat.lt_mul_div_succ s[MN T.length];show Γ[MM 1] Lx this] lA[CZ T tG=xMk 1] JP,Ib[d7[.repL[x6w[AN YS] AN[by show(aQ[_+1],FX D5 Tm zcZ)]][vg 1[.div AN[.add (n:=1) (xBr YS) .c] (Au[ku[xxA Ep]],Au[ku[Wg SZ D5 Iu[.n 1073741824] hl]])]][FX[.n 512] zB[.n 10000] hq][Bx lA[Z1 Cg BB hmul]]] λ l2 H2 s2 e2=>DG],FR lR[xtk[T++tG][1+s/xEX]] lA lR,Fx bR[DH[Fh[1+s/xEX][T++tG]]][DB[kj[wP hx][hb x][TD[uv z[Wg SZ xxX zbP h2]]]]][Fh[1+s/xEX][T++tG]] R,Ib (ô,l2,Á,RV.of e2,GG l3 nl3))
 try dsimp only
 show([xzE,-MF],zf s3[HP xGZ nl3] e3[rL H2 l3 xGZ l3=Bc xGZ][cg H2 l3 xGZ] H3,jC lS[BF xGZ s][by rw [J7];omega] bS[DH xGZ][DB[bR x V1]] xGZ S);clear lR bR e2 Uq hmul hq YS;show Gr s03 xZj n3[∀c o,Μ=LT->Eu l3][λ c o e=>ai x8y nl3][HU[pY rfl zdJ[xrP (n:=3) (D:=Ym) (λ i σ H4=>∃v U,σ=[Cs,YI,xSs,xyP,v]/\H4 l3=xJt/\U.length=s+i/\yl U/\yaC) (none,S,rfl,e3,lS,bS,s03) Î]]]
 ·rintro i σ H4 hi ⟨v,U,rfl,e4,lU,bU,s4⟩;show SL hk[U.length-b<U.length][by omega][zN[Zy e4][Pv.ix rfl e4[.sub[xBr e4] AN[by omega]] hk zd4 (l3,Å,e4,?_,_,U++[U.getD[U.length-b] 0],rfl,à,à)]]
  ·show Ex[AI[show Hc _ by omega]]
  ·show Zn
  ·show BH JP lU
  ·show(xFF,HQ[xLH hx])
   ·exact bU x z
   ·show uv z[xt4 bU _]
  ·exact λ c o e=>Xm[n3 _ _ e][Fp e]
 ·rintro σ H4 ⟨v,U,rfl,e4,lU,bU,s4⟩;exact g _ _[AK[k l3 U H4 s4 e4 bU[by omega]]]
inductive xkN (vs:SC) (H:Hp) (Q:VK) (RW:XK):Prop
 |mk (a:RA) (T:LE) (b:Nat) (h0:vs=sZ yP) (h1:Α=DO) (h2:Dg) (h3:IW) (h5:WW) (h6:IH t[AA->xXE t T[1+T.length/64][wo lH [128+b/2,b%2*128]][.word "body"]->xDd]):xkN Ã
def xjV:XV[ybL "_law_back" "_law_wrong_here"] Jag xrC:=Uf
def xf3 (F:Ρ zh6 Jag)(Z:xLn):xSz Jag xkN:=by
 show(vfQ,BO He Z.head zf9,zx zff zg4 zmw,BA xjV[λ RO A outer st H vs Q E hr h=>?_],(a,T,b,vbH,h2,k)=h,rU U3[ED 2] BM[qg xjV.nd[zO GS U3 Se[jM[aB GH U3 He x8H][IB[ue mQ][rR xzI xCz]]]][xMw[ac[jO GP Pa 0][ac[ue[xGb yv]][AL 2 Aa]]]]],(hX:DH[lH++[128+b/2,b%2*128]])=xCL[xo x][λ hy=>by
  show xLP zkp
  ·show Au[Fs 2 [_,_] x8v[EI 255][Ar[Xj 128]] HW h2 ER]
  ·show uv zll],Ib[d7[.sealed (B:=lH++[128+b/2,b%2*128]) (.cat[ygn 2 (b:=3) (c:=2) .c .c .c Ċ Ċ][x68 [128+b/2,b%2*128][si[vg 128[xxK 2]][.mul (n:=128) (wU 2) .c[zQ Ċ]]] ZJ] ZJ) hX ZJ] λ x H1 s1 h1=>DG],cF È a T CV ã[λ p H2 s2 hp=>Pv.add (m:=1) .c[.div (n:=64) (xBr x9v) .c] H2 EK _[AK[xO3 H2 _ λ y H3 s3 hy=>IQ ziN nt[Fl t[x3b ymH] (p,x,y,ae,hp.same ymH,gW[wN h1],.word[gW hy])]]]])
inductive Five (H:Hp) (t:RA) (T:LE) (k:Nat) (w:LE) (d:Due):Prop
 |mk (a p x y:RA) (h0:rk [Aj,Dc,xDU,Dh,xCn]) (ha:Α=DO) (h1:xDr) (h2:HH=xQO) (h3:jm) (hb:Dg) (hl:IW):Five H t T k w d
def xza.same (h:jm)(s:AA):xza H' y T d:=by
 cases h with
 |word h=>exact .word[FV h]
 |text h g=>exact .text[FV h][FV g]
def xoj {D:Ends}{H:Hp}(h0:YK i0 Cs)(h1:YK i1 Bh)(h2:YK i2 yE)(h3:YK i3 Z0)(h4:YK i4 Jj)(ha:Α=DO)(hp:xDr)(hx:HH=xQO)(hy:jm)(hb:Dg)(hl:IW)(kk:IH t[AA->Five H' t T k w d->xOT yd]):xzl[yaA i0[Bk i1[Bk i2[Bk i3[rT[Ü i4]]]]]] ì:=
 (_,h0,_,h1,_,h2,_,h3,_,h4,(rP 5),λ t nt=>kk t _ nJ (a,p,x,y,ae,gW ha,hp.same nJ,gW hx,hy.same nJ,õ))
inductive xlg (K:Frag) (cH cK cB cT cM cL:RA) (vs:SC) (H:Hp) (Q:VK) (RW:XK):Prop
 |mk (r a:RA) (ns:Ya) (T:LE) (c:Nat) (h0:vs=[x5,Aj,uF]) (hr:Ja[RV K H' r jy]) (h1:Α=DO) (h2:Dg) (h3:IW) (h4:∀t T' k w d H',AA->Five H' t T' k w d->xNR T' k w d->xDd):xlg K Í Ã
def xyv:XV ["_law_script","_law_text","_law_cell","_law_found","_law_back","_law_long_here","_law_parts_here","_law_at","_law_wrong_here","_law_due"] x27 xtn:=Uf
def xh3 (F:Ρ zsL x27)(Z:xLn)(Wr:FL ziv Jai fw fdw)(Lo:FL ziO Jag fl fdl)(Re:FL zh6 Jag fr fdr)(Mi:FL ziu xMn fm fdm)(Ce:FL zid xMd fc fdc):BY 6 x27[xlg K Í]:=by
 show(xF8 X Z.X Tu Z.turned,Ew GW[xba Æ zdV ziM Wr Z] GL[xbI Æ Lo X] GE[xf3 Æ Re Z] zmQ,Ty GC[xon Æ Ce X] zmI,BA xyv[λ RO A outer st H vs Q E hr h=>?_],(r,a,ns,T,t_,hsc,_w,k)=h,xQ,xCc[vB kD[mz x8o] aj[Eh 3 xyv.nd[Je GW Wr 1[B9[xHG GM Mi[yT[IX GC Si Ce 0 yc]]]]][xMw[yD 1[ac sf[ac sf[IB sf sf]]]]]][Eh 4 xyv.nd[ue[mz x8o]][zX 5 xyv.nd[IX GL Si Lo 1 xIT][xz5[Je GE Re 5 xIT][xIe[x8s 6[x8s 7[x8s 8[x8s 9 xz8]]]]]][vB bM[mz x8o] aj[DJ 7 xyv.nd[ue[mz AS]] 8 xyv.nd[xSb[vA Im xIN][ue AS]][qP 9 xyv.nd Aa]][x31 5 6[xEC 7 8 9]]]]]],Ai g[xq1 (p:=¬c/81%16=5) (.of[.ne (n:=5) (D9 16 81) .c]) pz ybt])
 ·show(xxP,Ib (Ï,r,ns,2,rfl,hsc H Bq,Ö,_x,a,T,Á,_w,λ t kk w d H1 s1 f hk=>DG),(p,x,y,h0,vbi)=f,(Ï,t,Û,xNO,zq,ė,xNO,zp,ė,xNO,xAK 2,ė,xNO,xAK 3,(rP 5),UV t2 n2),jA s2[jN [Aj,Dc,vN kk,Dh,xCn] n2][k t2 T kk w d _ Gg (a,p,x,y,ae,x9v,h1.same s2,Cv h2,h3.same s2,õ) hk])
 show(xxP,xFq[vg 1[D9 255 200]],jC hq1[AJ[1+c/200%255]] gk Wb[1+c/200%255≤255][by have:=K7[c/200][zF[255>0]];show Bg m_ xxX zB xxX this][1+c/200%255] q,Ib (ě,T,q,vbH,hq1,Wb,λ l L H1 s1 e1 hL hLl=>DG),SL hL10[Hc L.length][by omega][HU (Ï,l,L,q,rfl,e1,hL,hL10,Wb,λ t H2 s2 f=>?_)],(p,x,y,h0,vbi)=f,Gj (t,Á,xNO,vbG,Ö,Ö,Å,DG) g,Ty Uz Gg e2[Cv e1],SB hn[nB L=L.length/64+1][by show xYY;omega] h4[4≤L.length/64/\L.length/64%4=0][by omega],ω hN[xlB hL hL10][HU[xq1[.of[.eq (n:=1) (D9 2 1296) .c]] pz ybt]])
 rotate_left
 ·exact xoj ze1 e2 h_ hL hL10 λ t' H' s f=>k t' L _ _ _ H'[Uz.trans s] f[xBy[Bg zb0 ST zB Η ydL] .body[Sc MM[xem _ _ _ _ _ _ hN[yj zb0 Tm ydL] h4.2[FX xxX zbP Wb]]] .body]
 show(SB hj[1+q%3<nB L][DE [_,_,_][G8[EM 4 Tm]][AV xQn] cJ ST ydL[JN h4.1 xOI]] eP[x9[xuK L][2+q%3][oI zeK]][Sc[show 2+q%3=1+q%3+1 by show pI xIQ cJ cJ xIQ][xjE hj]],Cc tw[xpS x96 hL] lB[BF[oI zeK] 69][by
  have:BF[ĥ zeK] 64:=by show yX ĥ J7 Kc;omega
  show Jm xyd JP this] h3'[(24+q)/8<xxy zeK][Bx lB[Fs zct[AV FK][x9q xYk] Tm xYe Wb ER]],Gd[xl8[vg 2[wU 3]] Al],Gd[d7[xNf[xVX h1 eP][vg 24 AN] h3'] λ x2 H3 s3 YN=>Al],Gj[xO3 H3 _ λ y2 H4 s4 hy2=>DG] g,jA s24 xVP[xoj ze1[s24 _ _ e2][h1.same s24][Fp YN][.word hy2] hL hL10 λ t' H' s f=>k t' L _ _ _ H'[Uz.trans[s24.trans s]] f[xBy[Bg [_,_] cJ ST xIQ Η hj] .check[Sc[show 2+q%3=1+q%3+1 by show pI xIQ cJ cJ xIQ][(xvo _ _ _ _ _ _ hN yau Jl h3').2[Au[xAI zct zjY Ġ zj]]]][C8[xzH[oI zeK][(24+q)/8][(24+q)%8]] .check]]])
universe K26.Ck
namespace L2
open PySem PySem.Spec PyProof.Rows QQ
theorem xcM {X:Cx}{x:Str}{nm:Option Str}{D0:RA}{b:Rz}{W:RA->jq}{xuO:tP RA}{np UA pos:Pos}{RN:Χ}{σ:St}{H:Hp}{s:RD}{D:Ends}{body:Rz}{tb:TS}(hg:yF)(hm:yr=υ D0)(hD:xXy D0)(Uh:xZW)(hfr:xVg)(hX:X.ex=[])
    (hb:xHw[xuV X xxZ σ λ cls _ H'=>∃C,cls=C5/\xXy C/\C≠D0/\mw[mroIn z_ xWR]/\∀e vs,Ω xKN->W e[WY H'[xXm e]]] tb) (I:W1) (h:tb ì)
    (k:∀ea G3 H3 s5,xAH xZo H3 s5->(∀σ6 H6 s6,xAF xZo zbL s6->wC zbL s6)->W ea H3->xuO ea s5)
    (kk:∀ea s,EG E'[xUr[yeV ea][x3W xBY][λ _ s1=>xuO ea s1] E' s]->x4T[yeV ea][.handlers xBY [.ExceptHandler none nm b UA] X.env][λ r s₂=>match r with
      | .ok f=>(match nm with
        |none=>xLb s₂
        |some n=>xu[do ylz n .none;yjd n UA][λ _ s₃=>xLb s₃] s₂)
      | .error x=>cameBackBy xGF X.A zj1 x s₂] s) (hd:o9 x yir):
    A1[yhs[xWC [ybY[xFW np] nm b UA] zdq]] xOs:=by
  refine xdw Uh hfr hX hb I h ?_
  rintro ea T _ c H' s1 vs ts oT-bk bn ⟨C,rfl,cC,T1,Za,q⟩ F' I2 nE nT ge z2-neT- - -
  show(Es q[q ea vs nE.h],DS G I2' bk0 unk[I2.ready (bk,bn)],vdG,vd9,yiP[xq8 I3 hg hm ?_ hd][by intro q;cases q],vdB,ZY hmem[WF[xMW C bm xWR]][by
    unfold mroIn at Za
    rw [hcC] at Za
    simpa using Za] T' (hfD _ I2.kIn).2,(hh1,gg,dr,tk,os1)=s1,CJ[xgW zpK ge rfl[T'.hasType Z8] hmem T1[kk ea _ λ E'=>xgI F'[Ο h4 F4 k4]]] nT3[New xZo RN H3 T] (nT.s0,xCl hH3[ak neT] nT.h,nT.loc,nT.cel,nT.pin),jA I4[I3.landed[CG[by show(xHK KD,Sc hb nT3)]][λ b o g hb _=>k4 b o zfy][λ b o g hb=>xGx[k4 b o zfy]][λ b o g=>by
    by_cases hb:b=T
    · show(TL,(o',us,g',_)=F4.rec T Z6,π,AX o'[Sc hb g'])
    · show AX o[k4 b o g hb]]][k ea G3 H3 _ I4 uh q])
def xtK {X:Cx}{x y:Str}{i:Nat}{D0:RA}(hN:X.N.Nodup)(hi:x1P)(hl:xMq y)
  (hg:yF) (hm:yr=υ D0) (hD:xXy D0) (Uh:xZW) (hfr:xVg) (hX:X.ex=[])
  (hb:∀pn σ0 E,xHw[xuV X pn σ0 E][tb σ0 E]) (hh:∀e G,Ó[xGo e G][b₀::suite] th) (hd:sV):
  uE[xWC [ybY[xFW np][some y][b₀::suite] UA] zdq][xeV X.K D0 i tb th]:=by
 intro RN s σ H D I h;refine xcM (W:=λ e H'=>th zqE H') hg hm hD Uh hfr hX[xJb _ _] I h ?_[λ ea s z=>codeAny_handlers_suite_as[z _]] hd;intro ea G3 H3 s5 I4 uh q;show Υ[xwq (X:=xZo) (v:=xBY) I4 hN hi x5y rfl[UV s5 I5][.inr hl]][cb[hh ea G3 RN s5 _ H3[xn7 i D] I5 q][Ο f s6 q6] z xMx]
 cases f with
 |next=>
  show(TL,vc6)
 |brk=>
  show(TL,vc6)
 |cont=>
  show(TL,vc6)
 |ret u=>
  show(xHg v zbL I6 r q7 q6,ZC[x4A zfH hl[λ s' I8=>(v,_,_,I8,r,q7)]])
inductive rEqL (K:Frag) (x y:V) (H:Hp) (Q:VK):Prop
 |mk (p q:RA) (ns ms:Ya) (h0:x=Dc) (h1:y=gc) (h2:zR p jy) (h3:zR q x3K) (h4:yO[D3 ns ms]):rEqL K x y H Q
def xfC {X:Cx}{K:Frag}(hK:X.K=K)(hu:xQT):x9H[rEqL K]:=by
 subst hK;intro RN s σ H x y v u Q I rx ry h;show((p,q,ns,ms,h0,vbF)=h,xjf hu þ x y v u Q I rx ry (p,q,ns,ms,h0,vbF))
def xav {X:Cx}{K:Frag}(hK:X.K=K):xC0[rSlL K]:=FU hK xrV
inductive rLenS (K:Frag) (xs:SC) (H:Hp) (Q:VK):Prop
 |mk (p:RA) (ys:SC) (h0:xs=Cw) (h1:xJF\/xJD) (h2:xJB):yg5 xs H Q
def xh6 {X:Cx}{K:Frag}(hK:X.K=K):xFw "len" yg5:=by
 subst hK;intro RN s σ H xs us Q I r h;show F7 p ys h0 Ç h[xtX þ xs us Q I r (p,ys,h0,é)]
universe L2
namespace K26.Ck
open PySem L2 QQ W17 W16 BP K26.M
seal PE PA PS Ó PT PW PG PI
abbrev xuu:RM:=top 146
abbrev xzj:RM:=top 147
def Tol (H:Hp)(Q:VK)(z:Str):Prop:=IH zoO
structure Ops (K:Frag)(mg:Τ)(B D G' CW C0 C1 C2 C3 CK Sk CO C G Ce Cp cM cH cK cT cB cN cL cC cP:RA)(cs:Ξ):Prop where
 Z:oB
 O:xLp
 Bd:vy
 Er:Ers Â cP cs
 iB:HC cs 8 cB
 iH:HC cs 9 cH
 iK:HC cs 10 cK
 iM:HC cs 11 cM
 iT:HC cs 12 cT
 iC:HC cs 13 cC
 iL:HC cs 14 cL
 word:Ι "_law_word" xnT x4P
 opened:Ι "opened" xtC Jy
def xvQ.at {cP:RA}{cs:Ξ}(h:jw)(Y:xFh):xKl c/\WdI i z:=by
 cases h with
 |body=>show SQ Y.iB Z9
 |head=>show SQ Y.iH Z9
 |check=>show SQ Y.iK Z9
 |mark=>show SQ Y.iM Z9
 |tail=>show SQ Y.iT Z9
 |cut=>show SQ Y.iC Z9
 |behind=>show SQ Y.iL Z9
def Tol.of {cs:Ξ}(k:Tol H Q z)(s:Ik)(he:CU e)(hi:xKl C/\WdI i z):yfp [zD][WY H1[xAP C5 vx e]] Q E:=
 cF e C i z[xZY ae] hi.1 hi.2[λ t H2 s2 ht=>k t H2[(s.trans[am he]).trans s2] ht]
inductive spFed (Cp Ce CO CK cM cH cK cB cT cL cC:RA) (vs:SC) (H:Hp) (Q:VK) (RW:XK):Prop
 |mk (p a:RA) (s:Ĥ) (L:LE) (res:Res) (h0:vs=jP) (h1:u5) (h2:Α=ax) (h3:WH) (h4:xTu) (h5:xCX s) (h6:qF[res=xHN->∀lo l U H',s'.S=s.S++U->H' lo=Ak xSt->B1=xJt->xJz s'->(∀c o,Μ=LT->A9->Bo=LT)->xXv lo]) (h7:∀c,res=AP->∃i z,jw/\Tol H Q z):yeh Ã
def scFed:XV ["_law_opener","_law_row","_law_e"] xGf xzj:=Uf
def xgd {cP:RA}{cs:Ξ}(F:Ρ "_law_fed" zeY)(Y:xFh):BY 44 xGf yeh:=by
 show(vfo,BO zeH Wo Y.word,π,zx zfl zlx zkw,BA scFed[λ RO A outer st H vs Q E hr h=>?_],(p,a,s,vbe,rfl,ho,_w,hT,k,kE)=h,xFn[ag[xtK (i:=2) scFed.nd Ð Z7 R.mP R.xP Ÿ
   (λ pn σ0 E=>Cj[aK[B9[xmg AB O.cl Fe.m GF hr Fe.b zgq Yk]]])
   (λ e G=>Cj[xB5 GW xYB Wo.m Wo.F.kp Wo.b bo Jk])]],xL0 hp[id ho],FJ (rfl,vbM,di,ß,a,s,vbe,rfl,ho,_w,hT,λ s' e l U H1 _ hU T2 ho1 fr=>uY E9 lo nlo,λ c e H1 s1=>?_))
 ·show jA s2[DI[xxW l] nlo][k s' e lo l U _ hU ae[Cv T2][ho1.same s2] λ c o e n=>Cv[xOt e n]]
 ·show(veb,vdV)
inductive xeL (cM cH cK cB cT cL cC:RA) (vs:SC) (H:Hp) (Q:VK) (RW:XK):Prop
 |mk (a:RA) (L:LE) (res:Res) (h0:vs=Dl) (h2:Α=ax) (h3:WH) (h4:x7h) (h5:xCX s0) (h6:∀s,res=SS->xXF->∀lo l H',AA->H' lo=Ak xSt->B1=Ak[s.S.map vN]->xXv lo) (h7:∀s,res=SS->lz->Tol H Q "cut") (h8:∀c,res=AP->∃i z,jw/\Tol H Q z):xXw Ã
def xlx:XV[x2A "_law_e"] mv xuu:=Uf
def xpu {cP:RA}{cs:Ξ}(F:Ρ zsM mv)(Y:xFh):BY 45 mv xXw:=by
 show(vfo,BO Op Y.opened Wo Y.word,π,Ew zfl xC (R.k 13 _ _ xCG Y.iC).1 zlx GO[xbl Æ Op Y.Z O zfn xL[R.m 13 ă Y.iC] xC.x],BA xlx[λ RO A outer st H vs Q E hr h=>?_],(a,vbe,vbH,hT,k,kC,kE)=h,DR[ag[xtK (i:=1) xlx.nd Ð Z7 R.mP R.xP Ÿ
   (λ pn σ0 E=>Cj[aK[B9[xay GO hr Z7 Op.m Op.F.kp Op.b zgq vk]]])
   (λ e G=>Cj[xB5 GW xYB Wo.m Wo.F.kp Wo.b bo Yk])]] (Ŵ,a,vbe,vbH,hT,λ s e hf l H1 h1 s1=>IQ E9 lo nlo[k s e hf lo l _[s1.trans[am nlo]] ae[am nlo _ _ h1]],λ s e hf H1 s1=>?_,λ c e H1 s1=>?_))
 ·exact kM cC xC.x xC.n xC.s[λ e' vx he=>AK[(kC s e hf).of s1 he[xvQ.cut.at Y]]]
 ·show(veb,vdV)
universe K26.Ck
namespace L2
open PySem PySem.Spec PyProof.Rows QQ
inductive CmpD (K:Frag) (H:Hp) (p q:RA):Fy Bool
 |tt {a b:Str}:bZ p [.str a]->bZ q [.str b]->xUl[a==b]
 |lt {xs ys:SC}:zR p xs->bZ q ys->xUl false
 |tl {xs ys:SC}:bZ p xs->zR q ys->xUl false
 |ll {a b:RA} {ns:Ya}:zR p Dl->zR q [VX]->xTz a->xTz b->xUl true
inductive rEqD (K:Frag) (x y:V) (H:Hp) (Q:VK):Prop
 |mk (p q:RA) (b:Bool) (h0:x=Dc) (h1:y=gc) (h2:xUl b) (h3:xK1):xHA x y H Q
inductive rNeD (K:Frag) (x y:V) (H:Hp) (Q:VK):Prop
 |mk (p q:RA) (b:Bool) (h0:x=Dc) (h1:y=gc) (h2:xUl b) (h3:yO[! b]):rNeD K x y H Q
def xfK {X:Cx}{K:Frag}(hK:X.K=K)(hu:xQT):x9H xHA:=by
 subst hK;intro RN s σ H x y v u Q I rx ry h;show(ve7,SB hu' ylX znq[yhJ b s][Fu Cf H I k]);cases h with
 | @tt a b h1 h2=>
  show(vcI,veS,SeqAt.RcAt.tuples (e:=λ _=>a==b) zpo hu' zjn _ İ)
  ·show aw[j=0] zm4
  ·refine Jb[.bl[a==b]] I ?_ k;show xML=xML;congr 1;simp
 |lt h1 h2=>
  show(xSa,DS zcW x4Q,SeqAt.RcAt.list_tuple pl.isList WL hu' _ _ _ _ fin)
 |tl h1 h2=>
  show(vcI,DS zcW xNt,SeqAt.RcAt.tuple_list pl WL.isList hu' _ _ _ _ fin)
 |ll h1 h2 h3 h4=>
  show(veR,vd3,xOl B_,SeqAt.RcAt.lists zjR rfl hu'[Ο j j1 j2] _ _ İ)
  ·show aw[j=0] zk2
  ·exact Fu xA4 H I k
def xfI {X:Cx}{K:Frag}(hK:X.K=K)(hu:xQT):x5q[rNeD K]:=by
 subst hK;intro RN s σ H x y v u Q I rx ry h;show(ve7,SB hu' ylX znq[yhJ[! b] s][xA[! b] H I k]);cases h with
 | @tt a b h1 h2=>
  show(vcI,veS,yku[λ _=>a==b] zpo hu' zjn _ İ)
  ·show aw[j=0] zm4
  ·refine Jb[.bl[!(a==b)]] I ?_ k;show xML=xML;congr 1;simp
 |lt h1 h2=>
  show(xSa,DS zcW x4Q,SeqAt.RcNeAt.list_tuple pl.isList WL hu' _ _ _ _ fin)
 |tl h1 h2=>
  show(vcI,DS zcW xNt,SeqAt.RcNeAt.tuple_list pl WL.isList hu' _ _ _ _ fin)
 |ll h1 h2 h3 h4=>
  show(veR,vd3,xOl B_,SeqAt.RcNeAt.lists zjR rfl hu'[Ο j j1 j2] _ _ İ)
  ·show aw[j=0] zk2
  ·exact Fu eI H I k
universe L2
namespace K26.Ck
open PySem L2 QQ W17 W16 BP K26.M
seal PE PA PS Ó PT PW PG PI
abbrev xso:RM:=top 152
abbrev xtF:RM:=top 150
def xzP (T:LE)(k:Nat):LE:=(xW2[k+1]).flatten
def xwe (hb:Dg)(hl:IW)(hk:k≤Β+1):x1T[xWo Xr] Zh:=by
 cases k with
 |zero=>rfl
 |succ m=>
  show yM[xXn[Jv sP xSD m]=xXn[(sP).take m]][Ln[Sc (w6).len[M0 hk]]]
def xyZ (T):x1T Xr xNP:=et[xXn[sP++xSD]=W6[d9 sP DZ]] Mq OH
def xpC (hb:Dg)(hl:IW)(hk:k≤Β+1)(e:x9 Xr k A):xNP=Zh++(A++ZG):=by
 rw [<-xyZ,<-xwe ã hk]
 conv=>lhs;rw [<-Ky k Xr,Mq]
 show(JK h[xLR e],BH[Ll h] LG)
def xo1 (hk:k≤Β+1):∃A,x9 Xr k A:=PL[JX[Sc xuZ[MV hk]]]
def xkX (hb:Dg)(hl:IW)(hk:k≤Β+1):(yl Zh/\yl ZG)/\aG+(ZG).length≤1400:=by
 show(EF A e[xo1 hk] Ç (w6).facts,xDR[xpC ã hk e] h1);rw [JP,JP] at h2;show AX[IQ[DB[h1 x[wa hx]]] Ô[h1 x[tD[tD hx]]]][Bg [_,_,_][A7 EA] Ye Δ Ye h2]
def xd2 (hk:k<Β+1):ZG≠ []:=TD[by
 show SB h[xW2[k+1]=xW2[k+1]] rfl e[DZ∈xW2[k+1]][by
  have:x9 Xr[Β+1] DZ:=xuj T;show(List.mem_iff_getElem?.2[yb[Β-k]],[NE,show k+1+(Β-k)=Β+1 by show iP[HJ AO XL V3 vF[DF zb0 Η n_ hk]] XL AO vF V3 τ,this])]
 have:184∈ [184]:=List.mem_singleton.2 rfl;show((hx:yU Rn 0∈ZG)=List.mem_flatten.2[De e Kj],A8 z zcN)]
section
variable (cH cK cB cT cM cL cC:RA)
def xtl (hb:Dg)(hl:IW)(hk:k≤Β+1)(W:tu k w c g)(z):x02[Zh++(w++z)] AP:=xua _ _ _ _ _ _ w6 hk[W.er z]
universe s
def Tg (t:TT)(σ:St)(H:Hp)(b:Bool):Prop:=qz[Ik->∀Q:Pt,(ZX xC9[JJ b])->xQF Q]
def Tg.of (h:nD t Cf):xDN[ĕ t] b:=λ H1 s Q k=>Jd λ H' s'=>AK[xKR s']
def Tg.ob (h:nD t Cf):xDN[xwD t] b:=λ H1 s Q k=>Jd λ H' s'=>AK[xKR s']
def Tv.g (h:Tv t Ä b):xTx b:=λ H1 s Q k=>x2U Q x2b
def Tg.and (h1:xTx a)(h2:WF a->xDN u b):xDN[tAnd t u][a&&b]:=λ H1 s Q k=>h1 H1 s _ λ H2 s2=>by
 cases a with
 |true=>exact bY[h2 rfl zbX λ H3 s3=>xKS]
 |false=>exact bD xIB
def Tg.or (h1:xTx a)(h2:A2 a->xDN u b):xDN[tOr t u][a||b]:=λ H1 s Q k=>h1 H1 s _ λ H2 s2=>by
 cases a with
 |true=>exact bY xIB
 |false=>exact bD[h2 rfl zbX λ H3 s3=>xKS]
def Tg.not (h:xTx b):xDN[xko t][! b]:=λ H1 s Q k=>Jd k
def xvr {D:Ends}(h:xTx true)(k:Ja[u D _L]):xvk t u v ì:=xFs λ H' s=>bY[xKR s]
def ji {D:Ends}(h:xTx false)(k:Ja[v D _L]):xvk t u v ì:=xFs λ H' s=>bD[xKR s]
def xdE {D:Ends}(h:nD te v)(k:Ja[xOT v]):xzl te ì:=xFs k
def Gv.eqw (h:xD7 ta H z)(hv:xQD)(hy:E2 y [x6c]):nD[xQ2 xHA Cz][.bl[z==z']]:=λ H1 s Q k=>Jd λ t H2 s2 ht=>qr _ hv t y È zqS
def Gv.new (h:xD7 ta H z)(hv:xQD)(hy:E2 y [x6c]):nD[xIk ta Cz][.bl[!(z==z')]]:=λ H1 s Q k=>Jd λ t H2 s2 ht=>qr _ hv t y È zqS
def Gv.eqc (hv:xQD)(hy:E2 y bh):nD[Vb xHA i[xN5 x6c]][.bl[z==z']]:=λ H1 s Q k=>yH[xO3 H1 _ λ t H2 s2 ht=>rE y t È[.tt[Sr.of[Cv xOE]] zW] xIB]
def Gv.isl (hv:xQD)(hy:H y=LT)(h:(WF b/\xAC[o=xBZ])\/(A2 b/\xAC[o=x6d])):nD[tCB[λ xs H Q=>∃x c t b,xs=[x,.ty c]/\xW4 x t/\xRM t ygh/\xK1][Bk i[x4b x4v]]] Cf:=λ H1 s Q k=>by
 rcases h with⟨rfl,xs,rfl⟩|⟨rfl,xs,rfl⟩
 ·exact(_,hv,_,_,_,ŵ,.lst xOE,rfl,x2b)
 ·exact(_,hv,_,_,_,_T,.tup xOE,rfl,x2b)
def Wv.opn {L:LE}{c:RA}(h:Vg L)(hb:WH)(hl:x7h)(ht:lp s0 L AP)(hw:jw):xD7 x84 H z:=λ H1 s Q k=>Jd λ l H2 s2 e=>(l,L,AP,rfl,e,õ,ht,nofun,nofun,λ c' e=>xi (i,z,veg))
def xvQ.ne (h:jw)(hi:i≠13):o9 z "cut":=by
 cases h<;>first|rfl|show xy4 hi
def xvQ.re (h:xUZ c i z c)(hi:i≠13):jw:=by
 cases h<;>first|constructor|show xy4 hi
def xzD (z:Str):JL[z==z]:=by simp
inductive ũ (cH cK cB cT cM cL:RA) (vs:SC) (H:Hp) (Q:VK) (RW:XK):Prop
 |mk (r p y:RA) (T:LE) (k:Nat) (w:LE) (d:Due) (h0:vs=[x5,Dc,xDU,xCn]) (h1:H r=xf zbW) (h2:xDr) (h3:jm) (h4:xT6) (hb:Dg) (hl:IW) (h5:Ja xPR):ũ Í Ã
def xb0:XV Jak Jak xso:=Uf
def xaU {cP:RA}{cs:Ξ}(F:Ρ zqm Jak)(Oe:ykV xuu mv fo fdo)(Y:xFh):BY 46 Jak[ũ Í]:=by
 show(x5s X zmy,BA xb0[λ RO A outer st H vs Q E hr h=>?_],(r,p,y,T,k,w,d,rfl,RT,hp,hd,hk,õ,q)=h,x72 hu[DT[vh[xvI[yhq L7[AL 3[xKB x4v X.list Ly rfl]]]][Bv xRU Ab Aa] ZD[Uo[Bv dX Ε[uW[IT χ]]][Bv xKy[fZ GO Oe[Xc AB xYP]] Ab] ZD[Cj[yG xRU[fZ GO Oe[jM AB yc]] Ab]]]]])
 clear fd fo fdo B D G' CW C0 C1 C2 C3 CK Sk CO C G Ce Cp cN cP cs F Oe Y X GO hr hu;cases hk with
 |good=>
  cases hd with
  |text h1 h2=>exact xvr[.or (b:=false) (.ob[yg6 h1[xLS È]]) nofun] λ H' s=>q H' s
 |cut=>
  cases hd with
  |word h1=>exact xvr[yiR true[.ob[yg6 zq0]][λ _=>.of[.eqc rfl h1]]] λ H' s=>q H' s
 | @bad _ i g _ z c Wj hi hw W hg=>
  cases hd with
  |word h1=>
  show(Es hw'[x48 cC hi],xF6 zcP bl xPr,zx lw W.len bw W.byt hz[xtl Í zcC W],rn[ji[yb1[.ob[yg6 zq0]][.of[by have:=xWh K (σ:=[yo,Bh,yE,Jj]) (i:=3) (z':="cut") rfl h1;rwa [hw.ne hi] at this]]] λ H1 s1=>ZU],Ty hrow1[FQ RT] VB[FQ h1],Cc SI[hp.same s1] XU[(Xr).length-1=Β+1][CM xuZ] two[∀{L:LE} {te} {H2:Hp},Ap->Ls te ztL[Zh++(w++L)]->yl L->jf[aO ZG 1]->Wv x84 ztL z][λ {L te H2} s2 h hL hLl=>.opn h[xR5[b1 x][kj z[bw x][hL x]]][by show(xKd,DE [_,_,_,_][.a qZ Φ][EM 1400[EM 100 CE]] Jt bX bl[JN lw hLl])][hz L] hw'],SL t2[Tg[tAnd[xZg[xAn i j[i<j]] 2[UJ[i-j][xPW[λ xs H Q=>∃p ys,xs=Cw/\(xJF\/xJD)/\xJB] xXs] vZ]][ĕ[xIk zmF]]] [yo,Bh,yE,Jj] H1 false][by
   have:=Tg.and (b:=false) (Tv.of[.lt[.var (σ:=[yo,Bh,yE,Jj]) (i:=2) rfl][xHc 1[.lenp (K:=K) (i:=1) SI rfl] .c[Sc xuZ yaL]]]).g λ ha=>Tg.of (t:=xIk zmF) (by
    show(FR RQ[J5 ha] XU RQ,Cc T1[xd2 RQ] T2[x5H ZG][List.length_pos_iff.2 T1] e[Jv zbW[CZ zbW-1]=Zh++(w++uO ZG (ZG).length 1)][by
     rw [JP,JP,MS,Kg[Ej [_,_,_,_][xSB[A7 Xs]][C7 Η] ST T2 τ],MS,Kg[Ej [_,_,_,_,_][xSB[Il[C7 qZ]]][Bu[uk[xAE 4]]] ST T2[JN τ τ]]];congr 3;omega])
    have:=xWi K[two EK (te:=xx7 K lg dZ xPE) (C8 e[.uptoE (k:=1) (AN hrow1)[.neg (i:=1) .c]])[DB[xQl V1]][Ji[lu zeo Η HN]]] (i:=3) rfl VB
    rwa [xzD] at this)
   rwa [Rv] at this][xTa[ji t2 λ H2 s2=>ZU]])
  clear gg t2;show(Zj=Cv hrow1,rO[Gv.eqw (K:=K) (two s2 (te:=Vb ē 0[x7y xQw]) (L:=ZG++[0]) (xHa[JT w] JT[.cat[AN Zj][.one (x:=0) .c][by show(xKd,aQ[_+1],DE ziT x1O[Ar Jt] Cg bl lw)]])[xR5 xQl[IC[ya9 z]]][kh ρ]) (i:=3) rfl[Cv VB]] xzD[xdE this λ H3 s3=>q H3[s1.trans Ut]])
def On.len (h:Tp z s):xGD z≤xGL:=by
 cases h with
 |fst h=>show Sc h ρ
 | @nxt j _ _ h=>
  show CZ _ z≤_;show(E1 h[CZ (x4y).flatten DZ≤CZ Rs.flatten DZ+3],uJ[x94 l HB l.flatten.length[Ky j Rs]] Mq JP,xKd,Bg [_,_,_,_] m6 XL Δ[PC EA] UW)
def xfO {L:LE}{Q:VK}(hv:tE)(ho:u5)(hL:Vg L)(hb:WH)(hl:xTu)(ht:xTr xHN)(k:∀l U H',s'.S=s.S++U->B1=xJt->xJz s'->(∀c o,Μ=LT->A9->Bo=LT)->BD):xr0 Cp "feed"[xqP Ĵ zbN] [] E0 Cz xBV Ż:=by
 show(xL0 hp[id ho],qr _ hv p dx _ hp di[hL H Bq _ λ a H1 s1 ha=>(p,a,s,L,xHN,rfl,yeT,_w,ht,λ s2 e l U H2 _ hU h2 XF fr=>?_,nofun)],xi[yg U H2 hU h2 XF λ c o e n=>xOt Eo n])
theorem Pv.over (hv:tE)(ho:u5):xPx[xr0 Cp "over"[xqR Ĵ] [] E0 Cz è] s.fn:=λ H1 s1 Q k=>by
 show(ho=yeT,xL0 hp[id ho],(_,hv,p,ą,hp,di,p,u_,ho,k))
def Pv.isT (h:xPx t a):xPx[Ą[λ x y H Q=>∃c d,x=xI8/\y=.bl d/\yO[c==d]] t[tC Cf]][a==b]:=λ H1 s Q k=>Jd[xEL k]
def Pv.isNot (h:xPx t a):xPx[Ą[λ x y H Q=>∃c d,x=xI8/\y=.bl d/\yO[c !=d]] t[tC Cf]][a !=b]:=λ H1 s Q k=>Jd[xEL k]
def Wv.fed {L:LE}{c:RA}(hv:tE)(ho:u5)(hL:Vg L)(hb:WH)(hl:xTu)(ht:xTr AP)(hw:xxM j z c):xD7[x1j[Bk i xBV]] H z:=λ H1 s1 Q k=>yH[hL l_ _ λ a H2 s2 ha=>(p,a,s,L,AP,rfl,ho.same Gg,_w,ht,nofun,λ c' e=>xi (j,z,veg))]
def Gv.newt (h:xD7 ta H z):nD[xIk ta[xN5 x6c]][.bl[!(z==z')]]:=λ H1 s Q k=>Jd λ t H2 s2 ht=>xO3 H2 _ λ t' H3 s3 ht'=>rE t t' È[x6E[Sr.of[Dz ht]] ht'] xKS
def Pv.ixE {A:LE}(h:xQC)(ha:Α=Bc[A++CI]):Ju[xTp i xPE] x:=λ H1 s Q k=>(_,h,1,rfl,a,_,_,xKV,Ú,RV.of xIi,Sc J8[xij _ _],k)
def xug {K:Frag}{A B:LE}{Q:VK}(ha:Α=uc)(hb:Gk=ve)(e:A=B)(k:x7m):rEqL K Aj VX H Q:=by
 show(DX,oS[zl a b _ _ znT ?_] F8 k)
inductive xlV (vs:SC) (H:Hp) (Q:VK) (RW:XK):Prop
 |mk (r a:RA) (T:LE) (c:Nat) (h0:vs=[x5,Aj,uF]) (h1:H r=Bc xNP) (h2:Α=DO) (hb:Dg) (hl:IW) (h5:Ja xPR):xlV Ã
def xva:XV ["_law_right","_law_text","_law_cell","_law_place","_law_opener","_law_first","_law_rest"] x3j xtF:=Uf
def xhD {cP:RA}{cs:Ξ}(F:Ρ zpM x3j)(Fd:yc5 zeY ff fdf)(Y:xFh):BY 45 x3j xlV:=by
 show(veT,ve6,veX,GD=yax zb9 Fd Y,BA xva[λ RO A outer st H vs Q E hr h=>?_],(r,a,T,t_,RT,_w,k)=h,Cc zeB zgD zcw,rU WT[ED 43] BM[DJ 3 xva.nd[ue[xDa Ε[uW yv]]] 4 xva.nd x2l[DJ 5 xva.nd[xFz AS[B9[Xc AB Ab]]] 6 xva.nd[xAi AB Ab][vh[Bv xKy[Je GD Fd 4[B9[jM[Xc Im xYP][B9[rR xl5[vA Im xYP]]]]]] Aa][Bv xvC[xAh AS] bV] ZD[xDE[yG[x11 K hu][HA EH[xFz AS[vW 6]]] χ][yG xus[xAh AS] bV]]]]],hN=w6,yc4 fb fl,SL h14[14≤xyX][by
  show 14≤CZ (sP).flatten DZ+3;show(lP[14≤_+11+3],Au[Hj xHY[PC[rM 11]]])] M',xFq[vg 1[.mod AN[xHc 1[xBr RT] .c[Gm xHY AZ h14]][DE [_,_][EI 14] x70 zcV h14 τ]]],Fx hq[1+c%(xyX-1)<xyX][by have:=K7 c[show xyX-1>0 by show DE [_,_][EI 14] x70 zcV h14 τ];show DE [_,_,_][TO vF] EA cJ ST this[xDz xHY h14]][1+c%(xyX-1)] q,TL,DS s ht hf hon[xp7 zbM hq],uH g ?_)
 intro p dp np Vl Yr;show(s0'=xPD,Gj[g9 p dp[λ H1 ho TH=>Fw DG]] g,(s1:Ik)=λ b o e=>xTE[x0n o e])
 clear TH s0' Vl Yr;show(xHS,Ib[xCF ho[x5Z[FQ RT] AN][DB[fb x V1]][by show([KN,J7],Ej ù ygt zc1 HN)] ht λ l1 U1 H2 hU1 T2 XF fr2=>DG],SB np'[∀{c o},Μ=LT->A9] x9S s2 Yp[λ c o e=>fr2 _ _ Eo[np' e]],Df T1 x9N [][TD[by show(ZE[jz z] Kc,DA[xyX-q] 0 this,Au[aX [_,_,_][ZN JA][A7[qE EA]] hq[Ge this τ]])]] hbd[DH x9N][DB[fb x xOw]],SL hld[xGD x9N≤1403][JW hon.len[Ga fl]] M',Ib[d7[.frm[AN[Cv RT]] AN] λ l3 H3 s3 SV=>DG]);generalize x9N=Z at*;obtain⟨A',x,rfl⟩:∃A' x,Z=xZx:=(Z.dropLast,Z.getLast T1,(List.dropLast_concat_getLast T1).symm);show((hx:qG)=hbd x[tD Kj],Ty er[On.last zbM hon (y:=x^^^1) (xwO (b:=0))] gd[xRk hon],Cc XE[XF.same s3] e1[Jv A' CI[CZ A' CI-1]=A'][kh[Pw[by show _=_+1-1;rfl]]] lA[CB[xGD[A'++[x^^^1]]]][by rw [JP,JP] at hld ⊢;show(kU[BF CI [x^^^1].length],DE [_,_,_,_][HV xOB][EM 1403 Dk] Jt bX hld zZ)],Ib[ji[xPB[Jx[Gv.newt (K:=K) (z':="tail") (x9G [yo,Cs,Ν c,xEA,Bh,υ l1,xyP] (i:=4) (te:=Ą ē[xx7 K[Ü 6] dZ xPE][x7y[UJ xIU[xTp 6 xPE] vZ]]) rfl XE[x6w[C8 e1[.uptoE (k:=1) (AN SV)[.neg (i:=1) .c]]][.xor (n:=1) (.ixE rfl SV) .c][by show aQ[_+1];rw [JP] at lA;show A3 JP lA[HJ xH1 bX Tm Cg lA]]][λ y hy=>xJo[TD[hbd y[wa z]]][TD[uv z[xul (b:=0) hx Z9]]]] lA er .tail)] this][.of[Jw (x57[Pv.over (σ:=[yo,Cs,Ν c,xEA,Bh,υ l1,xyP]) (i:=4) rfl XE]).g hf]]][GG H4 s4]],xFD ho4 x4B s34 xVP[AK[xCF ho4[AN[Fp SV]] hbd[Ga hld] gd λ l5 U5 H5 hU5 XS ho5 Y2=>?_]],Θ hl15[xLs[xTJ T2][ho4.ne[xTJ T2]]] eT[U1++U5=T][by
  show(ql[s.S=U1] hU1,C8 h1 hU5.symm)],SL lT[U1.length+U5.length=T.length][by rw [<-eT,JP]] (l1,l5,Å,hl15,XS,bQ[by show(xKc,IY zdc xYo zcZ x7Y)],UV l6 n6),Gr s6[DI[U1.map vN++U5.map vN] n6] sA[qq[EN H5 l6[U1.map vN++U5.map vN]]][λ c o e=>ij[xLs[xTJ xPZ][np' e]]][AK[xug (A:=U1++U5) xD0[sA _ _ ha] eT xIl]],xZQ ymw zcg[HG sA])
abbrev xta:RM:=top 151
section
variable (cH cK cB cT cM cL cC:RA)
def xa4 {R:LE}(hN:EW)(h:xHM[64*j])(g:GB A4 CF R a n r)(k:xCX[xE[j+1] []]):lp[xE j []][R++L] res:=by
 rcases k.inv with⟨z,_⟩|⟨z,_⟩|⟨Y,r',e,hz,rfl⟩
 ·show Iq
 ·show Iq
 show(Bj[L=Y] e,DX);obtain⟨_,hz⟩:A2 false/\nZ[j+1] zsk L r':=yeS[x2s gA]
 show jA Vh[xtm zcA h g hz][yjN (L:=R++L) Í Vh]
theorem xmH (hN:EW)(hb:b<8):∀n j k,n+j=Β->xQX k xJN->∃i z c,jw/\lp[xE j []][DL xJN] AP
 |0,j,k,h,hk=>by
  show Fv zlf
  rw [xpO hN] at hk ⊢;show((w1,w2)=xsj Í hN.hb hb hk,Vv k 3)
  ·exact Z3 _ .head[by have:=(w1 q).er [];rwa [Ku] at this]
  ·exact Z3 _ .tail[by have:=(w2 q).er [];rwa [Ku] at this]
 |n+1,j,k,h,hk=>by
  show xNI R a m r e g zmf;rw [xsw e] at hk ⊢;show Vv k R.length
  ·show((w1,w2)=xvo zbM e hb q,[xsN q],gJ k 3 y y)
   ·exact Z3 _ .head[(w1 y).er _]
   ·exact Z3 _ .check[(w2 y).er _]
  ·rw [JP] at hk;show((i,z,c,hw,ht)=xmH hN hb n[j+1][k-R.length][iP zql V3 XL Ec xGI][Vx zs6[HV xH0] hk[YF _I q]],Sc[xwF q] (i,z,c,hw,xa4 zbM Sl g ht))
def xhF (hN:EW)(hb:b<8)(hk:k<xGL):∃i z c,jw/\x02[DL SA] AP:=by
 show Vv k 3
 ·show oS[Z3 _ .mark ?_][xsN[x41 k q]][(xju (T:=T) Í q hb).er _]
 ·show(ZZ hl[BF SA[aO dD 3]] rfl,Xh i z c hw ht[xmH Í cC hN hb Β 0[k-3] rfl[Vx zp1[Bu xYE] hk[Ge hl[xAg q]]]],oS[xAu i z c hw][BL[DL SA][W6[xA0 dD[k-3]]][xwF q]][xua zbM (k:=1) yaL ht])
universe s
def Wv.opnC {L:LE}(h:Vg L)(hb:WH)(hl:x7h)(ht:lp s0 L SS)(hf:lz):xD7 x84 H "cut":=λ H1 s1 Q k=>h l_ _ λ l H2 s2 e=>(l,L,SS,rfl,e,õ,ht,λ s' e z=>(by show(Hy,xm hf)),λ _ _ _ t H' s' ht=>k t H' xMK ht,nofun)
def Gv.ist (hv:xQD)(hy:E2 y xs):nD[tCB[λ xs H Q=>∃x c t b,xs=[x,.ty c]/\xW4 x t/\xRM t ygh/\xK1][Bk i[x4b[.ty "tuple"]]]] xA4:=λ H1 s Q k=>(_,hv,_,_,_,ŵ,.tup xOE,rfl,x2b)
inductive xlm (Tb:RA) (vs:SC) (H:Hp) (Q:VK) (RW:XK):Prop
 |mk (a:RA) (T:LE) (c:Nat) (h0:vs=sZ uF) (h2:Α=DO) (hb:Dg) (hl:IW) (hT:qS) (h5:ZX[∀e o,kG->G6=LT->xKN=LT][xyW->xPR]):xlm Tb Ã
def xzY:XV ["_law_text","_law_cell","_law_long_here","_law_bale","_law_at","_law_wrong_here","_law_opener","_law_found"] Jai xta:=Uf
def xiY {cP:RA}{cs:Ξ}(F:Ρ zpp Jai)(Fd:yc5 zeY ff fdf)(Oe:ykV xuu mv fo fdo)(Y:xFh)(Pr:FL zjv xWX fp fdp)(Zp:xLv Cq)(Yz:x4S)(hC:WG)(hBm:VI)(hK:z8):BY 46 Jai[xlm Tb]:=by
 show(veT,ve6,veX,zx zm5 zmy GP[xgP Æ Pr Zp zcF],BA xzY[λ RO A outer st H vs Q E hr h=>?_],(a,T0,c,_S,hb0,hl0,WB,k)=h,Cc zeB zgD zcw,AH WT[ED 43] BM hr44[ED 44] BM[DT[DJ 2 xzY.nd[Xc[rR xpm[jM AB[yT xCz]]][ue xCz]] 3 xzY.nd[zS GP WT Pr 2][Eh 4 xzY.nd[xDa mQ[IT Ab]][zX 5 xzY.nd[xRf LB][xz5[xJm[vA EH AS][xDk xH6]][xuf EH AS xur]][DJ 6 xzY.nd x2l 7 xzY.nd[IX GD hr44 Fd 6[vW 5]][xw1[PW.pt[xlA[iq[yhq L7[AL 7[xKB[.ty "tuple"] Yz Px rfl]]]][xVe[Bv xvC[xAh Im] bV][Bv xKy[fZ GO Oe[Xc Ab AS]] Aa]]]] ZD[xDE[yG[x11 K hu][xFz Im LB] Ε][yG xus[xAh Im] bV]]]]]]]],AH Y8[D4 xFi] Jl lA[CZ T0 [xFi,7]=T0.length+2] JP M',Ib[d7[.upto[.repL (n:=210) (.cat[AN ha][x68 [xFi,7][si xN2 .c] ZJ][by show(aQ[_+2],FX D5 Jr Cg hl0)]) .c Z9[Bx lA[Wg[vR 210][.m 210 D5][.w Jr 210] BB[JU 210 hl0]]]][vg 150[wU 80]]] λ l2 H1 s1 h1=>DG],(m80:c%80<80)=Jl,FR lR[xtk[T0++[xFi,7]] 210] lA lR,jC lT[Ez[ybx 210 zhI] 1000][Ji[ET zb1[EM 80[EI 150]] D5 m80 DU]] hb[DH[ybx 210 zhI]][DB[kj[wP V1][hb0 x][λ hy=>by
  show xLP zkp
  ·exact Y8
  ·show IC[ya9 hy]]]][ybx 210 zhI] T);clear lR m80;show(xHS,Ib (Á,l2,T,rfl,h1,hb,lT,WB.same s1,λ l3 Z H2 nl3 hW SV fr2 hTb2=>DG),xBh Rs hWN eZ hW.all,(eZ:Z=SA)=eZ);subst eZ;show(hN=hWN.gn hb lT,Uv fb fl hN.facts,(n2:l2≠Tb)=(WB.same s1).ne h1 xh,Θ h12[fr2 _ _ n2 h1] frA[∀e o,kG->G6=LT->H2 e=LT][λ e o n z=>fr2 _ _ n[FQ z]],SL h3[rJ xGL] xQW M',xFq[.mod[xxK 80][xBr SV][Gm D2 Ep h3]],Fx hk[c/80%xGL<xGL][xxr[Gm D2 Ep h3]][c/80%xGL] q,xHS,Ib[Hn l3[BZ SV][GG l5 nl5]],XM s5[HP SA nl5] XS[rL H2 l5 SA l5=Bc SA],uH g ?_,SL hv[Pv[xL4[xC5 i j xIU][xIn xBq 5 4][Ą zn7[Ą[rI zn9][Vb zoN[xw 7]][xw 8]]]] [Cs,Ν c,υ l2,xyP,xEA,xQm,none,none][cg H2 l5 SA][vN[yU SA q^^^2^(c/7%8)]]][.xor[.ix rfl XS AN hk][.shl[D9 8 7] Jl]][hv zcg (vcc,_,_,q,Ú,XS,?_,DG)])
 ·show Ĩ _ xKi=_;unfold Ĩ;show BH[Kq wM][Kq[Ex[ku hk]]]
 clear g hv;show((e5:(AY SA).set q[vN[yU SA q^^^2^(c/7%8)]]=AY[xTm[c/7%8]])=Hf zsI,[e5],SB sB[xQr[cg ziC]][λ d o e=>xZI nl5[Dm e]] XS[rL ziC l5=Bc[xTm[c/7%8]]] ae,rf ziC H3,ZZ b8[c/7%8<8] Jl,Xh i z cc hw ht[xhF Í cC hN b8 hk],Ty bb[xp9 (j:=q) fb b8] bl[xzH SA q[c/7%8]]);generalize xTm[c/7%8]=Zw at*;show(TL,(s,ht2,hf,_)=xp7 zbM hk,π,gd=xRk (z:=SA) zrZ,uH g ?_)
 intro p dp np Vl Yr;show(s0'=xPD,Gj[g9 p dp[λ H4 ho TH=>Fw DG]] g,(s4:C' H3 H4)=λ b o e=>xTE[x0n o e])
 clear TH s0' Vl Yr;show(SL np'[∀{c o},qO=LT->A9] x9S M',Ib[ylY rfl ho[AN[Fp XS]] bb[by show([KN,bl],FX Ye SZ zc1)] ht hw zd4[λ t H5 s5 ht5=>DG]],Ty ho5[ho.same s5] s45 x4a,Ib[ji[yb1[.not (b:=true) (.ob[.ist rfl ht5])][xPB (x57[x2O ho5]).g[.of[.newt[.opnC[x5Z[s45 _ _[sB _ _ SV]] AN] zlz ht2 hf]]]]][GG H6 s6]],ω s46[s45.trans s6][xCF ymw[AN[s46 _ _[sB _ _ SV]]] fb[Bx KN[Z1 Ye zc1]] gd λ l7 U H7 hU hl7 ho7 fr7=>?_],(hU:T=U)=hU);subst hU;show(SL sC[C' H3 H7][λ c o e=>x7H[s46 _ _ e][np' e]][AK[xug hl7[sC _ _[sB _ _ h12]] rfl xIl]],xZQ ho7 zcg[HG[λ e o n z=>sC _ _[sB _ _[frA _ _ n z]]][hTb2.same[sB.trans sC]]])
universe K26.Ck
namespace L2
open PySem PySem.Spec PyProof.Rows QQ
inductive Cts (X:Cx):xVI RJ->dS FA xYi
 |nil:x0o i_ []
 |cons {k e:RJ} {x:Str} {n:Int} {ks:xVI RJ} {es:FA} {l:xYi}:xJW k BX->Ax e[xw n]->x0o ks es l->x0o[some k::ks] cD[((x,n))::l]
def Cts.walk {X:Cx}(h:x0o ks es l):∀{RN σ H s pos} {Q:tP xZy},W1->(∀(us:xZy) s',xDc->(∃Sa:rW Key RC,Carries yim us Sa/\∀(a:xO9) b,KV a b->KV[l.foldl[λ a p=>xQ8] a][merged b Sa])->Q us s')->A1[evalPairs[pairTrees ks zdg pos]] Q:=by
 induction h with
 |nil=>exact λ I k=>pairTrees_nil_walk[Fl [] I ([],trivial,λ a b r=>r)]
 | @cons kx ex x n ks es l h1 h2 _ ih=>
  intro RN σ H s pos Q I k;show(pairTrees_cons_walk[cX[h1 þ[λ v H'=>v=BX/\H'=H] I jl] u1],(a1,G1,I1,r1,ea1,eH1)=z9);subst ea1 eH1;show(xFu[h2 RN s1 σ G1[λ v H'=>v=.int n/\H'=G1] I1 jl] u2,(a2,G2,I2,r2,ea2,eH2)=z9);subst ea2 eH2;refine ih I2 λ us s' I' z9=>HD Sa hc hk z9[k[((u1,u2))::us] s' I' (((x6P,u2))::Sa,ID[xtz (k:=Sum.inr x) r1] hc,λ a b r=>hk _ _[r.put x6P r2])]
def xdq (l:xYi):TE:=λ _ H Q=>∀p,pF->xEM[vD p[.dK[l.foldl[λ a p=>xQ8] []]]]
def xh9 (l:xYi):∀a:xO9,Ez[l.foldl[λ a p=>xQ8] a][a.length+l.length]:=by
 induction l with
 |nil=>exact λ a=>ρ
 |cons p l ih=>
  intro a;show(oO[ih xQ8][xvB a zr4],[Rq,Ki],Ej [_,_,_,_] qZ[xS3 Xs] V2 Ç)
def xaT {X:Cx}{pos:Pos}(h:x0o ks es l)(ha:AM (ks.all (·.isSome)=true))(hl:AM[ks.length=es.length])(h0:ks≠ []:=by show B0)(h15:ks.length≤15:=by exact ZJ)(hz:Hc l.length:=by exact ZJ):Ax[.Dict ks es pos][xdq l]:=by
 intro RN s σ H Q I q;show(AH hn ybV jo I0[kc[yj4 xXC][kR[xLL zkg]]][I.laid (a:=s.heap.objs.size) (o:=xXC) (t':=s.toks) zkc[xai s.heap I.big]][wpAny_Dict_walk (knd:=yim) ha hl h0 h15[h.walk I0 λ us s1 I1 z9=>?_]],x6e Sa hc hk,ZZ hH[UF[(yj4 xXC) s.heap.objs.size] xXC] ae,(z,hd,vs,rel,dd)=xnG I1.hok hH,(ev:vs=[])=L8.mp rel.length.symm);subst ev;show(π,CJ (Sa,hc,dd,λ h' dd' hs=>xAj i6 j_ hn) he[∃q,ylN q][ykE yaj],hw=xtU (ob:=.dK[l.foldl[λ a p=>xQ8] []]) (t':=s1.toks+us.length) I1[Sc hH True.intro] hs he[xnX ?_ hd[hk i_ .nil] dd'])
 ·rwa [eQ] at hw
 ·show rO[xh9 l []] ON[Ga[show Hc _ by show Ej ù[Yb[EI 0]] D5 hz this]]
inductive L_ (x:V) (vs:SC) (H:Hp) (Q:VK):Prop
 |mk (a:RA) (Sa:xO9) (k:Key) (d:V) (h0:x=Aj) (h1:vs=[kV k,d]) (h2:dE Sn) (h4:lQ[(xy6).getD d]):L_ x zdH
def xbh {X:Cx}:MtR X "dict.get" L_:=by
 intro RN s σ H x vs v us Q I rx rv h;show(TL,Hv a Sa k d Ð e q,xUs u u2 ry rd[xuT rv],Xh z hd vs ztN,rr=(x24).getD rd,xIE[BL v JF rx],EC[call_meetsIn PySem.F.slot_dict_get dd.typeIs PySem.F.entry_dict_get[PySem.F.args_dict_get_3 _ _ _][meets_dict_get_default yim a xX9 hd u2][DT dd.mapOf]][pY H uu rr q])
universe L2
namespace K26.Ck
open PySem L2 QQ W17 W16 BP K26.M
seal PE PA PS Ó PT PW PG PI
abbrev xnM:RM:=top 144
def xeR:xEk yj6:=Z8
def xd1 (hx:xOf[xMF ([xOc,xxs k,xO1 y]:xBl)]\/x8G[xMF ([xOc,xxs k,xO1 y]:xBl)]):x=y:=by
 rcases hx with hx|hx<;>have m':=xQj<;>simpa using m'
def xc6 {te:TE}{tt:TT}{cs:St}{R:RA->jq}(b:x7f)(hk:Hc n)(XR:∀i H1 (Q:Pt),i<n->Ik->EG H2[Ap->Q[b i] H2]->tt[Ν i::cs] H1 Q)(hte:∀i H1 (Q:VK),rC fV->te[Ν i::cs] H1 Q)(h:qY[B1=Bc[xw9 n b]->R l H']):∀l,DP->Yh[SC->F9][xN8 ztE/\∀i m ys σ' H',dt->
   (xS6[xJa n]/\R l H')\/(xTs[xJa n]/\∀x H2,xTh[xJa n] x H2->ou x σ' H2[xJZ[λ c H5=>xLA c[λ y H4=>
    X7=oZ/\pW/\eE[m'<m/\fq[i+1]]][eE[m'<m/\xNB zdE]]]])]:=λ l nl=>by
 show x8[λ i m ys σ H2=>m=n-i/\xK8/\∃(v0:EE),σ=v0::cs/\ys=AY[xw9 i b]/\pG=oZ/\Yp][xW Bz zgr ae gw];rintro i m ys σ H2 ⟨rfl,hi,v0,rfl,rfl,h2,s2⟩;by_cases RQ:i<n
 ·show(xT0 RQ,xDI y);show tt zsE _;show Ζ Int.zero_add[XR i H' _ RQ s2 λ H6 s6=>bj[λ hb=>hte i H6 _ (ij h2,?_,_,dg,rfl,RQ,r_,ae,λ d o e=>xZI nl[ij xPZ])] λ hb=>qr _ dg rfl RQ j_[ij h2][s2.trans s6]]
  ·show rO[Oc b[List.range i]] Ml[cz[y8[HK zdL[Yb Φ] Cg hk hi this]]]
  ·show zm Pm KP[Kv hb] J8
  ·show([Pm,KP,KH hb,J8],yh5 _)
 ·clear hk XR;show(Fv[i=n][Cn[lu _I hi][xNQ zcH[KW RQ]]],DD (ρ,h l A_ h2))
def xdI {L:LE}{Q:VK}(hv:tE)(ho:u5)(hL:Vg L)(hb:WH)(hl:xTu)(ht:xTr xHN)(k:∀lo l U H',s'.S=s.S++U->H' lo=Ak xSt->xJz s'->(∀c o,Μ=LT->A9->Bo=LT)->xXv lo):x1j[Bk i xBV] Ż:=by
 show(yH[hL H Bq _ λ a H1 s1 ha=>(p,a,s,L,xHN,rfl,yeT,_w,ht,λ s2 e lo l U H2 hU h1 h2 XF fr=>?_,nofun)],xi[k lo l U H2 hU h1 XF λ c o e n=>xOt Eo n])
def xq3:xO9:=([(("mark",3)),(("head",3)),(("tail",11)),(("behind",12))]:xYi).foldl[λ a (p:Str×Int)=>xQ8] []
def xa0 (h:vJ z g):∃g0:Nat,(dw xq3 x6B).getD[vN w.length]=vN g0/\(o9 z "mark"->g0=g)/\(JL[z== "mark"]->∃k,g=k+1/\k<3/\w.length=3/\yg4=Yf/\xL9 k≠xUL k):=by
 cases h with
 |mark h1 h2 h3 h4=>show Iv 3 rfl[nofun][λ _=>kM _ zdA]
 |head=>show Iv 3 rfl zeG
 |tail=>show Iv 11 rfl zeG
 |behind=>show Iv 12 rfl zeG
 |body=>exact zN zeG
 |check=>exact zN zeG
def xgN {w:LE}(hk:k<3)(h3:yg4=Yf)(h4:xL9 k≠xUL k):∃r,(xw9 3[kP zeC])=k::r:=by
 show(SB eq[∀i,i<k->fU=fX][λ i hi=>by
  have:=x94 l LE[l.getD i 0] h3;simp only [Kb,Ob,Kq hi] at this;rw [Kb,this,<-Kb]] t[∀i,fU≠fX->WF[(kP zeC) i]][λ i h=>JY h],(f:∀i,i<k->¬WF[(kP zeC) i])=λ i h z=>xC3[eq i h])
 generalize (kP zeC)=b at t f ⊢;show∃r,List.filter b [0,1,2]=_
 match k,hk,h4,f with
 |0,_,h4,f=>show Qt[Kv[t 0 h4]]
 |1,_,h4,f=>show Γ[KH[f 0[by decide]]][Kv[t 1 h4]] Dy
 |2,_,h4,f=>show bE[KH[f 0[by decide]]][KH[f 1[by decide]]][Kv[t 2 h4]] Dy
inductive _k (Cp Ce CO CK cH cK cB cT cM cL cC:RA) (vs:SC) (H:Hp) (Q:VK) (RW:XK):Prop
 |mk (p r x y:RA) (T:LE) (k i g:Nat) (w:LE) (z:Str) (c:RA) (h0:vs=[Dc,x5,vN aG,Dh,xCn]) (ho:xUY H p s0) (h1:H r=xf zbW) (h2:HH=xQO) (h3:E2 y bh) (hk:k≤Β+1) (hw:jw) (hW:tu k w c g) (hg:vJ z g) (hb:Dg) (hl:IW) (h5:ZX[∀c o,Μ=LT->A9->Bo=LT] xPR):_k ze5 cC Ã
def xrX:XV ["_law_opener","_law_row","_law_start","_law_wrong_here","_law_due","_law_goal","_law_ahead"] x4p xnM:=Uf
def xci {cP:RA}{cs:Ξ}(F:Ρ "_law_soon" xnM x4p)(Fd:yc5 zeY ff fdf)(Y:xFh):BY 45 x4p[_k ze5 cC]:=by
 show(x5s X zm5,BA xrX[λ RO A outer st H vs Q E hr h=>?_],(p,r,x,y,T,k,i,g,w,z,t_,ho,RT,hx,hy,hk,hw,hW,hg,õ,q)=h,x72 hu[DT[Eh 5 xrX.nd[xqB PySem.F.plainAttrs_dict PySem.F.slot_dict_get PySem.F.type_dict_get xbh[xaT[yhm aj[yhm aj[yhm aj[xXg bd aj]]]]][IB xCA[IT Ab]]][vB xRU AS Aa[qP 5 xrX.nd[ue[vA[xh1 (N:=yj6) (js:=[none,some 3]) (cl:=[(("_law_wrong_here",x3t 1))]) (g:=ou) rfl (rfl,Z8,Z8,vc1,DB[by show(Xk[xd1 hx],Dy)],veC)[xJx yc][λ fp s H=>xSW xeR][λ fp s H=>Bv kD[aL[xtv _G] χ AB WJ][aL[xtv _G][aK x8H] AB WJ]][λ fp s H=>AB]] aj]]][Eh 6 xrX.nd[Je GD Fd 0[B9[Xc zr3]]][xDE[yhq L7[AL 6[xKB x4v X.list Ly rfl]]][yG xRU[Je GD Fd 0[B9[aV zr3[Ee Ε EH]]]] AS]]]]]])
 case c1=>show ja zhj
 show(TL,yfU b1 bl[xkX ã hk],hN=w6,DS g0 eg ng mg'[xa0 hg],Ew lw hW.len g1 hW.g1 gl hW.gl bw hW.byt,uH gg ?_)
 intro d nd;show(Gr sd[x2n x69 nd] hd[UF[(vD d x69) d] x69] ae (.inr[x5j[Fw[jk _ hd]]],Á,y,Û,Sr.of[sd _ _ hy],zq,Pv.len rfl[sd _ _ hx] zcg[JG d xq3 x6B È hd ?_]),Ζ eg ZU);clear gg hd;generalize vD d x69=H1 at*;show(tR[x2w gg],(λ(J:∀H2,C' H H2->R1 [some (.ref p),some (.ref r),some (vN (pre (ò T) k).length),some (.ref x),some (.ref y),some (vN g),none] H2)=>?_)[λ H2 s2=>ZU])
 ·cases hm:(z== "mark") with
  |false=>
   show(Xk[ng hm],ji[.of[by have:=xWh K zms (z':="mark") rfl[sd _ _ hy];rwa [hm] at this]] λ H2 s2=>J H2[sd.trans s2])
  |true=>
   show(xHg kd rfl k3 l3 e3 n3[mg' hm],Uv rr er[xgN k3 e3 n3],xvr[.of[by have:=xWh K zms (z':="mark") rfl[sd _ _ hy];rwa [hm] at this]][UV A_],ω YN[Cv[sd _ _ hx]][pY rfl zdJ[xc6 (n:=3) (cs:=[Z0]) (kP zeC) Z9[λ i H3 Q' hi s3 kq=>?_][λ i H3 Q' kq=>AK kq] λ l H3 s3 h3=>?_]])
   ·show BU hv[Gv[Ą rNe[xTp 1 lg][Ą xBq[c_[Õ[xw 184][xB0[xw 66] vZ]]] lg]] [Ν i,Z0] H3[xw7[¬fU=fX]]][λ H4 s4 Q k=>Pv.ix (A:=w) rfl[Dz YN] AN[Sc l3 hi] H4 s4 _[Gv.pick (A:=ç) (H:=H3) (xLB .c .c .c) Z9 AN hi H4 s4 _ λ H5 s5=>Pv.ne (σ:=[]) (H:=H5) (a:=tC[vN fU]) (b:=tC[vN fX]) .c .c H5 EK Q[k H5 s5]]][Tg.of hv H3 EK Q' kq]
   ·show CJ (l,_,_,vN kd,Ú,RV.of h3,ybc 0[CM er],ø) e1[Ih+Ψ kd=xV kd][ua x8t[Hj Tm zB]]
    try dsimp only
    show xFk[J H3[sd.trans Ut]]
 show(x0q,Es Zj[Cv RT],DS s' hsW t1 t2 hW.ah,SB lA[CZ zbW≤1500][by show(xKd,DE ziT x1O Jt[.n 1500] bl lw)] eL[Jv zbW[aG+g-1]=Zh++w.take[g-1]][by
  rw [show aG+g-1=aG+(g-1) by show gH zkZ[.a mJ vF] x8q Φ τ x89,List.take_length_add_append,Ln[Ej zdB ST gl IJ]]],(bA:DH[Zh++Yg])=xR5[b1 x][kj z[bw x] xQl],rn[xdI rfl xV3[x5Z Zj[xHc 1[xHZ AN] zmW]][DB[bA x V1]][by show([KN,J7],Ej ù[EI 1500] bX lA HN)][Sc eL[xua _ _ _ _ _ _ hN hk t1]] λ lo l U H3 hU h3 XE VP=>ZU],(hnp:∀{a:RA} {o},H2 a=LT->(∀C d fs,o≠ .ins C d fs)->uV a)=λ {a o} e h z=>by
  show(TL,xL0 hp xV3,π,vH z hp e[wK _[xHp e]]),Ty hrow3[gs Zj[hnp Zj[by intro C d fs z;show Iq]]] hy3[gs x78[hnp x78[by intro C d fs z;show Iq]]],SL ec[tI[AY[Zh++Yg]][Tl[aG+g-1]][Tl[aG+g]]=AY [xL9[g-1]]][by
  show([xoo _[Bg [_,_,_] SZ Φ SZ Φ IJ],-ME,-MF,show aG+g-1=aG+(g-1) by show gH zkZ[.a mJ vF] x8q Φ τ x89,List.drop_length_add_append,show aG+g-(aG+(g-1))=1 by show gH[ET [_,_,_,_][C7 xOB][wz Φ] AZ τ[DF [_,_,_] XL ST Ey Δ IJ]] [_,_,_,_][uk CE][HV xOB] AZ τ x89,LX[Ej zdB ST gl IJ]],(RQ:g-1<w.length)=Vx zee gl x89,Jm[Ll RQ] Kb[JX RQ])][Gv.isl _G h3[xLS È] H3 EK _ λ H4 s4=>xIl],BU hg[Gv[Ą xHA[x1j[Bk 0[rT[xx7 K xXs zlg]]]][Ü 4]] [Bh,yo,Ν aG,Z0,Jj,Ν g,υ lo] H4 xA4][by
  have:=Gv.eqw (K:=K) (x9G [Bh,yo,Ν aG,Z0,Jj,Ν g,υ lo] (i:=0) (te:=xx7 K xXs zlg) rfl x4B[.sl[AN[Fp hrow3]][.aa[xHc 1[xHZ AN] zmW]][.aa[xHZ AN]] ec][DB[uv hx[xt4 bw _]]][by show(lP[CB[_+1]],FX FZ Tm bX hsW)] t2 hw) (i:=4) rfl[Fp hy3]
  rwa [xzD] at this][hg zd4 λ H5 s5=>q H5 λ c o e n=>xCM[gs xPZ n]])
universe K26.Ck
namespace K26.Ck
open PySem L2 QQ W17 W16 BP
seal PE PA PS Ó PT PW PG PI
inductive Ő (vs:SC) (H:Hp) (Q:VK) (RW:XK):Prop
 |mk (x:RA) (h0:vs=xSC) (h1:HH=Bc Rn) (h2:wg):Ő Ã
def xaK (F:Ρ zew Jy)(Z:xTT C):BY 8 Jy Ő:=by
 show(TL,BO N Z.need Hr Z.headrow,lX Z.N.X,Uv t3 zka,BA xyq[λ RO A outer st H vs Q E hr h=>?_],xxv x zcu k,Θ zeB zeb BM,xCc[gO xyq.nd[zS[xSk Z.N] WO N 0][fh kD[xFR χ] xEm[DJ 2 zga 3 zga[fh xYc χ[Je[xrH Hr Z.Y] Hr 2 LB][Uo[kW Ε] xH8 x71 xwv]]]]],Ib[VY Rn hx xo[GG l hn]],zf s1[HP Rn hn] XH[rL H l Rn l=Bc Rn][cg H l Rn] H1,Υ zkT,Υ (va9,Û,x51,zp,?_) (ô,0,0,rfl,_x,λ l2 H2 n2 s2 Yx=>?_),oS (l,l2,qc Rn,qc Rn,Ú,RV.of x79,RV.of Yx,r_) F8[bD[xIy[xIy[HG Gg]]]])
inductive Ŗ (vs:SC) (H:Hp) (Q:VK) (RW:XK):Prop
 |mk (x:RA) (m:Nat) (h0:vs=[Dh,o7]) (h1:HH=Bc Rn) (h2:wg):Ŗ Ã
def xau (F:Ρ ziK xNs)(Z:xLi):BY 9 xNs Ŗ:=by
 show(ylm O,xxp t64 Sl Z.signs xrx[λ RO A outer st H vs Q E hr h=>?_],ze x m hx k,EC[DT[qg xrx.nd[jO[xaK O Z.H] O 0][Uo zlO pX xH3]]][Zv Ô[λ H1 s1=>vG[bD[xIC[k l_]]]]])
inductive ŝ (vs:SC) (H:Hp) (Q:VK) (RW:XK):Prop
 |mk (x:RA) (r:LE) (m:Nat) (h0:vs=[Dh,TC,o7]) (h1:HH=Bc tM) (h3:CH 8) (h2:IH t[AA->Hl[H' t] [.non,vN 11]->xDd]):ŝ Ã
def xil (F:Ρ zjw xNb)(Z:xLi):BY 10 xNb ŝ:=by
 show(xWI,vdU,BA xyp[λ RO A outer st H vs Q E hr h=>?_],ye x r m zcu h8 k,rU _X[Eh 3 xyp.nd[xNW xEm][fh dX yv Ab[DJ 4 xyp.nd[xSR[xau Nh Z] Nh[ac[aV AB χ Ab] Jk]] 5 zk3[fh dX yv EH[xMw[jZ 4 5]]]]]],xa hl[BN[AY tM]=11][Jm JO JP h8] xEo (vbI,BZ hx,_V,?_))
 try dsimp only
 show(Ζ hl[bD (Ï,ô,x,Á,RV.of hx,gQ)],[BL[tI[AY tM] EP[EP+3]][AY Rn][(xum (m:=0) (n:=3) _ Z9[X8 JP[KL 3 _]]).trans rfl]],s1=HP Rn nl,xJL[rE È l m ae[UV A_]][VY zdR[bY xRy]] (vbI,vdl,?_))
 try dsimp only
 show ke[bD[Zv zdK[λ t nt=>Fl t zkm]]]
inductive Ţ (Ce CO CK:RA) (vs:SC) (H:Hp) (Q:VK) (RW:XK):Prop
 |mk (p co ck g wt a:RA) (S:LE) (b:Nat) (G W:LE) (h0:vs=jP) (h1:AR H zfa) (h2:Α=Bc Aq) (h3:ZX zlI):Ţ ze3
def BT (F:ynD "read_tail" xwT)(Z:oB):BY 12 xV4[Ţ ö]:=by
 show(xF8 T Z.tt Ta Z.pr.R.tail,DW xot[λ RO A outer st H vs Q E hr h=>?_],TL,(vbc,a,S,b,G,W,ý,ha,k)=h,vdk,π,x72 hu[DT[fh xYc zoh[xBC bV]]],vfn);rw [io] at YS hl;show((a,vbd,RV.of YS,xWP,r_),Ζ F8[bD (_u,sI,vbD,g_)],[xwA],BU kp zlD[HG zo4])
inductive œ (vs:SC) (H:Hp) (Q:VK) (RW:XK):Prop
 |mk (a:RA) (h0:vs=sZ TC) (h1:Α=xC8) (h2:xEE):œ Ã
def AC (F:Ρ ziL xHD)(Z:xLi):f7 xHD œ:=by
 show(xWI,BA xk3[λ RO A outer st H vs Q E hr h=>?_],xxv a w_ k,EC[DT[d8 cZ yv χ pX]] (vcw,_V,bD k))
inductive xll (Ce CO CK:RA) (vs:SC) (H:Hp) (Q:VK) (RW:XK):Prop
 |mk (p co ck g wt:RA) (S:LE) (b:Nat) (G:LE) (h0:vs=Cw) (h1:AR H p zcc Aq false) (h3:∀l Xu H',B1=xC8->AR č g Xu S b G zeP->(∀c o,Μ=LT->A9->Bo=LT)->BD):xll ze3
def xiM (F:ymF ztB)(Z:oB):pS 13[xll ö]:=by
 show(vfd,BO Pa Z.pr.partat zgn,vv Sq[λ RO A outer st H vs Q E hr h=>?_],(vbc,S,b,G,ý,k)=h,rU hr10[ED 10] BM[gO Sq.nd yw[zX 2 Sq.nd aj[xHq[iq B4][Eh 3 Sq.nd[aB[xil Pa Z.pr] hr10 Pa[xJn[AL 2[xvM B4 rfl]]]][fh gq Ab dj[DJ 4 zrW 2 Sq.nd sf[Uc[Bv gq sf dj][qh[x8p AB Ta[BT Ta.F Z] hr xIT]] pX]]]]][bO[xAi B4 Ε] xOy]]],YE r eW h8 r[Aq=tM/\CH 8][AK rfl]);generalize hY:Aq=Y at*;show(Gd[IQ zdF],s0=xPo,((dx0,YX),hC0,hw0)=xJg,SL zdv[ik YX] M',Gd Al,Υ Gw[(λ(J:∀v3 v4 H4,H4 l=some (.lst [])->xvh ö H4 p y_ zcc Y true true->(∀c o,H c=some o->c≠p->H4 c=some o)->R1 [some (.ref p),some (.ref l),some (vN 11),v3,v4] H4)=>?_)[λ v3 v4 H4 hl4 S8 fr=>Al]])
 rotate_left
 ·show((n1,n2,n3,n4,n5,n6)=S8.ne,xRp S8,(vbY,Ï,vba,vfe))
  try dsimp only
  show([dW,-ME,Mb[show Y.length≤11 by show bE eW JP h8 Z9]],ω s5[DI [] nlw'] (_u,xPv,vbR,g_),[xz2],Df nwp lw p[sM hp nlw'] kp[∀c o,xKP=LT->A9->xM2[EN H4 lw []][xw8 lw true true] c=LT][λ c o e n=>xID[Dm e]],xR0[yg lw _ znS λ c o e a1=>DY yf5 a1])
 show(x4,x8[λ m σ H4=>∃v3 v4,X7=xC8/\(∀c o,Μ=LT->A9->xKP=LT)/\((m=1/\σ=[Bh,zt,Ν 0,v3,v4]/\AR H4 p zcc Y false)\/(m=0/\σ=[Bh,zt,Ν 11,v3,v4]/\AR H4 p zcc Y true))] (1,vbE,ae,λ c o e _=>vm,xLS rfl[Ud dx0[sQ YX] zng]))
 rintro m σ H4 ⟨v3,v4,hl4,fr,⟨rfl,rfl,S8⟩|⟨rfl,rfl,S8⟩⟩
 rotate_left
 ·show JI zce S8.ob (Ė,hp,vbO,ŵ,bD[J v3 v4 H4 hl4 S8 fr])
 show(xRp[id S8],(Y3,U7)=hC.ob,Υ zkW)
 dsimp only;show(Υ (vbY,Ŷ,Ce,ę,hp,vcx,CO,Y3,Ö,U7,R0.cl,vfA,?_)[Io wt r _[C8 eW hw] h8[λ t H5 s5 ht=>?_]],Υ[vG Br] (Ė,xPv,va8,ô,t,Û,zW,zp,Á,vba,vdq),SB hyl[x7R 11][Jm eW JP h8] ec[tI mY EP[Tl 11]=mY][by
  rw [xum _ Z9[X8 hyl Z9],MR,Kg[X8 hyl Z9]]])
 try dsimp only
 show(uN,Ty s6[DI mY Ui] ht6[ij ht],ZY hlr[(EN H5 lr mY) lr=Ak mY] ae s6 x4e,lD H5 lr mY H6,Υ zkN,EC (ų,xPm,tZ,ß,va7,lr,S,b,G,Y,rfl,zu xPm zhC,Sc hY hlr,Ο H7 hR7 fr7)[gi _ _ (0,Nat.one_pos,_,_,xZZ hl4 Up,λ c o e a1=>xZZ yf5 a1,.inr[xIS hR7])])
inductive ŧ (Ce CO CK:RA) (vs:SC) (H:Hp) (Q:VK) (RW:XK):Prop
 |mk (p co ck g wt a:RA) (S:LE) (b:Nat) (G W L:LE) (h0:vs=jP) (h1:AR H zfa) (h2:Α=ax) (h4:W++L=Aq) (h5:∀l Xu H',B1=xC8->AR č g Xu S b G zeP->(∀c o,Μ=LT->A9->Bo=LT)->BD):ŧ ze3
def xaw (F:ymE ztC)(Z:oB):BY 14 Jaj[ŧ ö]:=by
 show(Es zeV,BO zf9 La Z.pr.nlast,vv xrs[λ RO A outer st H vs Q E hr h=>?_],TL,(vbc,a,S,b,G,W,L,ý,ha,hT,k)=h,xQ,vc4,π,CY[bO[HA B4 χ][xTe B4[qg xrs.nd[xzB xOz[x0T Pa[xiM Pa.F Z] hr] yw][xw1 xOz[qh[xHG[AC La Z.pr] La[yT B4]]] xH3]]]],SL hTl[CB[CZ W L]][Bx hT[zF[CB 11]]] (vbY,Á,wt,a,Å,hw,ha,bQ[by show([-JP,-J8,JO],Ga hTl)],x7I),[-J8,hT],Gr s1[HP Aq nl1] Up zsF (_u,sI,vbR,g_),x6h xz2 hX[AY Aq] X,SB TH[∀c o,Μ=LT->A9->xDM X xYK c=LT] zrm[BG[xDM X xYK p] Ce xYK] ae,Fx hw1[xDM X xYK l1=Ak X][xSy Up][xDM X xYK] H1,xAd hC1[ygH TH] (vb9,ŵ,Br) (vb9,ŵ,bY (ų,SI,vb6,_,l1,S,b,G,rfl,zu SI hC1[Sc hX hw1],λ l Xu H3 SV SN VP=>?_)),JI US SW SN.ob (va2,US,vcd,vbO,ŵ,bY (va2,US,vcd,va8,Xu,rfl,SN.ws,AK[yg Xu H3 SV SN λ c o e n=>gs[jY e n] n])))
inductive Ŏ (Cp Ce CO CK:RA) (vs:SC) (H:Hp) (Q:VK) (RW:XK):Prop
 |mk (p a:RA) (b:Nat) (S G W L:LE) (h0:vs=jP) (h1:xUY H p[iQ b S G zeA]) (h2:Α=ax) (h3:WH) (h4:W++L=Aq) (h6:IH l[B1=xC8->xJz[iQ b S G zeP]->(∀c o,Μ=LT->A9->Bo=LT)->BD]):Ŏ Ĵ Ã
def xaP (F:Cb zhX xwb)(Z:oB)(O:xLp):BY 16 Jaj[Ŏ Ĵ]:=by
 show(vdT,vv xyo[λ RO A outer st H vs Q E hr h=>?_],(p,a,b,S,G,W,L,vdY,ha,hb,hT,k)=h,tS zeb hr8 8,aR hr14 14,DR[DJ 2 xyo.nd[zS zro N' 1] 3 zm3[Em 4 xyo.nd[x8p Ab Th[xaw Th.F Z] hr14 Jk][xUC Ab] AS]][xW a _ Ā x7I],vdX,Gr s2' Gg ne zmd (Á,q,dq,Á,hq,tZ,Á,q,co2,ck2,g2,wt2,l1,S,b,G,W,L,vb1,Cv T2,hT,λ l3 wt3 H3 SV SN VP=>?_),(kp:yaB)=λ c o e=>gs zqR,ω hp3'[DY hp] (Ŷ,Cp,ą,hp3',vco,vbx),[xi4],AH Sv zlc YW zly gE,((US,hx3),hC3,hw3)=SN,ZC[AK[Fl l3[Gs SV[YW SV]] (dx,q,co2,ck2,g2,wt3,ae,Ud US zrq) λ c o e n=>Gs OT n]])
universe K26.Ck
namespace K26.Ck
open PySem L2 QQ W17 W16 BP K26.M
seal PE PA PS Ó PT PW PG PI
abbrev jK:RM:=top 153
def xog (T):xzP T[Β+1]=[]:=xx9 xzP[Mb[Sc xuZ ρ]]
def xjd (hb:Dg)(hl:IW)(e:x9 Xr k A)(hk:k≤Β+1):On T sP[A++ZG] wJ:=by
 show(E7[A++ZG=(xW2 k).flatten][by
  show(JK h[xLR e],BH[Ll h] LG)],x0v);clear A e e2;cases k with
 |zero=>exact x6x [][Sc KN[xyZ T]]
 |succ m=>
  show(.nxt (W:=[]) (M0 hk) ?_,EU[x1T[uQ sP xSD m][d9[(sP).drop m] DZ]][LX[Sc (w6).len[M0 hk]]] Mq OH)
section
variable (cH cK cB cT cM cL:RA)
def xaY (hb:Dg)(hl:IW)(hk:k≤Β+1):x02 Zh[.st wJ]:=by
 have:=xua (L:=[]) (res:=.st wJ) Í w6 hk[by
  clear hb hl hk;cases k with
  |zero=>exact .short Ÿ[zF[0<3]]
  |succ m=>
   show Jw[xZe T (m:=m) (W:=[]) (L:=[]) Í[.cut Z9 nofun]] xyY]
 rwa [Ku] at this
def xoQ (hb:Dg)(hn:n<11):lp[xE Β []] xJ2[.st[xE Β xJ2]]:=by
 show AD n 3
 ·show Jw[xZe T (m:=Β) (W:=[]) (L:=xJ2) Í[.cut[by show([KN,J7],x3 zb1 xyJ D2 z DU)][DB[xPK x V1]]]] xyY
 ·show(Bj[xJ2=tO[xY8[n-3]]][Jm zrY[Kg[show Ez Rn n from z]]],uf,Jw[xZe T (m:=Β) (W:=[]) (L:=tO[xY8[n-3]]) Í[.cutT[Ji[VZ [_,_,_] zpL FE hn DU[xAg z]]]]] xyY)
universe s
def xs7 (H H':Hp):Prop:=∀c o,Μ=LT->(EO xs[o=xBZ]\/xAC[o=x6d])->Bo=LT
structure Fa (cH cK cB cT cM cL:RA)(H:Hp)(tx p x y bl ro rr:RA)(T:LE)(k:Nat)(w:LE)(d:Due):Prop where
 ht:H tx=DO
 hp:xDr
 hx:HH=xQO
 hy:jm
 hbl:H bl=Bc ZG
 hrl:H ro=xf zbW
 hrr:H rr=Bc xNP
 hk:xT6
 hb:Dg
 hl:IW
def TU.kl (h:TU H a Ps)(s:xs7 H H'):TU H' a Ps:=BI rs h0 h1 h rs[pC h0][yet h1[pC z]]
def xza.kl (h:jm)(s:xs7 H H'):xza H' y T d:=by
 cases h with
 |word h=>exact .word[xY6 h Dy]
 |text h g=>exact .text[pC h][pC g]
theorem Fa.kl (h:xEl H p zc8 d)(s:xs7 H H'):xEl č zc8 d:=
 (pC h.ht,h.hp.kl s,pC h.hx,h.hy.kl s,pC h.hbl,pC h.hrl,pC h.hrr,h.hk,h.hb,h.hl)
def Fa.same (h:xEl H p zc8 d)(s:AA):xEl č zc8 d:=h.kl λ c o e _=>s c o e
def xkm.le (h:xT6):k≤Β+1/\(lF w[xSL->qG])/\dI w.length:=by
 cases h with
 |bad h _ _ W _=>show Ef h[λ x hx _=>W.byt Ô] W.len
 |cut h=>show Ef ρ[λ x hx hb=>xPK x V1][by show(E1 J7[dI[min _ 11]],FX[.n 11] SZ FZ HN)]
 |good=>show Ef ρ[λ x hx hb=>xPK Ô][d6[dI 11]]
def xze.frm {Ps:HB}(h:x1c)(hv:tE)(g:xCr lo):xze[x2F K Cz[Ă lo] dZ] Ä[Ps.drop n]:=λ H1 s Q k=>by
 show(sO rs h0 h1 znb,j8 dW ME[Fl q xYd (rs.drop n,ae,(h1.drop n).same xYd)])
def xze.upto {Ps:HB}(h:x1c)(hv:tE)(g:xCr hi):xze[xx7 K Cz dZ hi] Ä[Ps.take n]:=λ H1 s Q k=>by
 show(sO rs h0 h1 znb,j8 xzE MF[Fl q xYd (rs.take n,ae,(h1.take n).same xYd)])
def xze.var {Ps:HB}(h:x1c)(hv:tE):xze Cz Ä Ps:=λ H1 s Q k=>yH[k p H1 EK ygo]
def Ls.joined {Ps:HB}(h:xze te Ä Ps)(hl:yjM):xRQ xqb xBV Ps.flatten:=λ H1 s Q k=>Jd λ a H2 s2 hp=>xAk a Ps hp hl[λ l H' s' h'=>xQ4 xMK h']
def Ls.list (h:xQC)(ha:Α=uc):yx[xPW[λ xs H Q=>∃p ys,xs=Cw/\(xJF\/xJD)/\∀l,DP->qM[o5 ys]] Cz] A:=λ H1 s Q k=>rE _ h a _[BZ xIi][λ l nl=>YH gw ae]
def Gv.calV {sp:Sp}(h:xTA vs)(hs:∀H1 (Q:VK),Ik->(ZX xC9 dO)->sp[vs++[]] H1 Q E0):nD[xxE sp ta] v:=λ H1 s Q k=>Jd[hs H1 Q s k]
def xbM {H:Hp}(hk:xT6)(hy:jm)(hb:Dg)(hl:IW)(h:Vg[Zh++Yg])(hv:xQD):nD[xIk x84 Cz] eI:=by
 show((Wj,bw,lw)=hk.le,yfU b1 ll xPr,SB bA[DH[Zh++Yg]][xR5[b1 x][kj z[TD[bw x z hb]] xQl]] zso[by show(xKd,DE ziP Jt bX lw ll)],hN=w6);clear Wj bw lw b1 b2;cases hk with
 |bad hk hi hw W _=>
  cases hy with
  |word hy=>
   have:=xWi K[Wv.opn h bA lA[xtl _ _ _ _ _ _ ã hk W _][x48 cC hi]] hv hy
   rwa [xzD] at this
 | @cut n hn=>
  cases hy with
  |word hy=>
   show(Bj[x2q[Β+1]++(xJ2++xzP T[Β+1])=x2q[Β+1]++xJ2][by rw [xog,Ku]],t=xua zbM ρ[xoQ Í hb hn]);rw [<-e] at t;have:=xWi K[Wv.opnC (cC:=cC) h bA lA t rfl] hv hy
   rwa [xzD] at this
 |good=>
  cases hy with
  | @text z h1 h2=>
   show(Ty e[xpC ã ρ[xuj T]] t[xRk (z:=xNP) zrZ],xOq e t[λ H1 s1 Q k=>h l_ _ λ l H2 s2 Su=>(l,Ö,Su,bA,lA,t,λ s e _ lo l' H3 s3 h3 h4=>?_,Ο s e z,nofun)])
   ·show(Hy,qr _ hv lo y true rfl[.ll (ns:=xNY b qI) (RV.of h3)[RV.of[wN[FQ h1]]][hJ h4][hJ[wN[FQ h2]]]] xKS)
   ·show(Hy,Iq)
universe K26.Ck
namespace L2
open PySem PySem.Spec PyProof.Rows QQ
def xiy {X:Cx}{σ0:St}{E:XK}{pl:xBQ}(he:Y5)(c:Wq)(hm:xY5 m f)(F:HS)(hr:pA)(hb:UM)(hd:VJ)(hx:xuw CX X E σ0)
    (ht:AM[va xDC=(do
      let ov<-qe
      xAO
      let((f,first))<-xAW zc5
      xES xPh)]):
    Ax xDC[yhQ[xT2 Uu E ta è]]:=by
  intro RN s σ H Q I h
  show(pd rfl h h[x1g zdM],vcz,EC xUm[ygg Dl zjA[xtH (us:=Dl) (vs:=Dl) F zca I1 x6C q]])
universe L2
namespace K26.Ck
open PySem L2 QQ W17 W16 BP K26.M
seal PE PA PS Ó PT PW PG PI
structure All (K:Frag)(mg:Τ)(B D G' CW C0 C1 C2 C3 c CK Sk CO Cq C G Ce Cp cM cH cK cT cB cN cL cC cP:RA)(cs:Ξ):Prop where
 Zp:xLv Cq
 Y:xFh
 xzc:xLn
 pressed:Ι zjv xWX
 cell:Ι zid xMd
 mixed:Ι ziu xMn
 long:Ι ziO Jag
 reaching:Ι zh6 Jag
 soon:Ι "_law_soon" xnM x4p
 wrong:Ι ziv Jai
 opened:Ι zsM mv
 fed:Ι "_law_fed" zeY
 chosen:Ι zsL x27
 waited:Ι zpM x3j
 prgood:Ι zpp Jai
 twice:Ι zqm Jak
inductive xvO (K:Frag) (Tb:RA) (vs:SC) (H:Hp) (Q:VK) (RW:XK):Prop
 |mk (a:RA) (ns:Ya) (h0:vs=Dl) (h1:xTz a) (h2:yB zd5) (h3:a≠Tb) (h4:∀H',xPR):xvO K Tb Ã
def Tc:XV ["_law_script","_law_cell","_law_text","_law_parts_here","_law_at","_law_wrong_here","_law_due","_law_behind","_law_row","_law_right","_law_opener","_law_ahead","_law_more","_law_e","_law_rest","_law_turn","_law_other"] x3C jK:=Uf
inductive PE5 (cH cK cB cT cM cL:RA) (σ:St) (H:Hp):Prop
 |mk (tx p x y bl ro rr:RA) (v0:V) (n k:Nat) (T w:LE) (z:Str) (v10 v11 Wt Xw Xv V8 XQ:EE) (h0:σ=[tK,Xt,sD,Bh,yE,Z0,Jj,rZ,rY,uw,v10,v11,Wt,Xw,Xv,V8,XQ]) (F:xEl H p zc8 xNL) (hz:o9 z "cut"):PE5 Í Ä
inductive PC5 (Cp Ce CO CK cH cK cB cT cM cL:RA) (d:Due) (σ:St) (H:Hp):Prop
 |mk (tx p x y bl ro rr o la:RA) (v0:V) (n k:Nat) (T w:LE) (Wt Xw Xv V8 XQ:EE) (H0:Hp) (h0:σ=[tK,Xt,sD,Bh,yE,Z0,Jj,rZ,rY,uw,zr,xC6,Wt,Xw,Xv,V8,XQ]) (F:xEl H0 p zc8 d) (s:C' H0 H) (no:Ω[H0 o]) (ho:xUY H o wJ) (hla:H la=Ak yaK):PC5 ze5 d Ä
inductive PM5 (cH cK cB cT cM cL:RA) (d:Due) (σ:St) (H:Hp):Prop
 |mk (tx p x y bl ro rr:RA) (v0:V) (n k:Nat) (T w:LE) (v10 v11 Wt Xw Xv V8 XQ:EE) (h0:σ=[tK,Xt,sD,Bh,yE,Z0,Jj,rZ,rY,uw,v10,v11,Wt,Xw,Xv,V8,XQ]) (F:xEl H p zc8 d):PM5 Í d Ä
inductive PA5 (Tb cH cK cB cT cM cL:RA) (d:Due) (σ:St) (H:Hp):Prop
 |mk (tx p x y bl ro:RA) (v0:V) (n k:Nat) (T w:LE) (h0:σ=[tK,Xt,sD,Bh,yE,Z0,Jj,rZ,rY,none,none,none,none,none,none,none,none]) (WB:qS) (ht:H tx=DO) (hp:xDr) (hx:HH=xQO) (hy:jm) (hbl:H bl=Bc ZG) (hro:H ro=xf zbW) (hk:xT6) (hb:Dg) (hl:IW):PA5 Tb Í d Ä
def xeS:xEk ykF:=Z8
def xdW (hx:xOf[xMF ([xOc,xxs k,x3v u,x3v z,xO1 y]:xBl)]\/x8G[xMF ([xOc,xxs k,x3v u,x3v z,xO1 y]:xBl)]):x=y:=by
 rcases hx with hx|hx<;>have m':=xQj<;>simpa using m'
def Pv.lenS {A:LE}(h:xQC)(ha:Α=uc):ygw[xPW yg5 Cz]:=λ H1 s Q k=>by
 show(rE _ h a _[BZ xIi] ?_,Ex k)
def xcS {K:Frag}{A B:LE}{Q:VK}(ha:Α=uc)(hb:Gk=ve)(e:A=B)(k:yhi):rNeL K Aj VX H Q:=by
 show(DX,zl a b _ _ znT ?_);simpa using k
def xcR {cP:RA}{cs:Ξ}(F:Cb zjZ jK)(Y:All zc4 G' zdt c Ğ CO Cq C G Ce Cp cM cH cK cT cB cN cL cC cP cs)(hC:WG)(hBm:VI)(hK:z8):BY 47 x3C[xvO K Tb]:=by
 show(Ty X Y.xzc.X O Y.Y.O,Es R Y.Y.Er,BO Pr Y.pressed Ca Y.cell,BO Mi Y.mixed Lo Y.long,BO Re Y.reaching So Y.soon,BO Wr Y.wrong Oe Y.opened,BO Fd Y.fed Ch Y.chosen,BO Wa Y.waited Pg Y.prgood,vV Tw Y.twice Jo Y.xzc.joined Wo Y.Y.word,x6j,vV zeH Ov O.over Fi O.fin,π,Ew xL (xYZ _ _ xCG Y.Y.iL).1.x xC (R.k 13 _ _ xCG Y.Y.iC).1 GI[xr5 Æ FI Y.Y.Z O] GF[yaw zgR Y.Y.Z O Y.Y.Bd[xY0 ă Y.Y.iL] xL],Ew GV[xwy ze0 Ov.F Y.Y.Z.tt O] GZ[xod ze0 Fi.F Y.Y.Z.tt O[R.m 13 ă Y.Y.iC] xC.x] GD[yax zb9 Fd Y.Y] GO[xpu Æ Oe Y.Y],Ew GJ[xh4 Æ Jo] GS[xci Æ So Fd Y.Y] GT[xaU Æ Tw Oe Y.Y] GA[xhD Æ Wa Fd Y.Y],Ew GP[xiY Æ Pg Fd Oe Y.Y Pr Y.Zp R.tuple zcF] GC[xon Æ Ca X] zmQ GH[xh3 Æ zdV ziM Ch Y.xzc Wr Lo Re Mi Ca],GW=xtM Æ Wo X R,fH[F.ok Tc λ RO A outer st H vs Q E hr h=>?_] X0,ye a ns rfl hS Yv haT q,Cc zeB _X zgo BM,tS zgD TQ 31,tS WT[ED 43] hr44 44,aR hr45 45,YE te pe5 he t[x08 15 t/\IH σ[PE5 Í _L->x1F]][by
  show CY[xHm[aB GS hr45 So[ac x2l[yD 8[ac[IT[zO GJ Si zjE]][jZ 5 6]]]]] ZD[Eh 16 Tc.nd x2l[vh[Bv xKy[IX GD hr44 Fd 16[vW 8]] Im][Bv xvC[xAh[pv 16]] bV] ZD[xDE[yG[x11 K hu][xFz[pv 16][B9[wZ GJ Jo 3]]] Ε][yG xus[xAh[pv 16]] bV]]]]]
  rintro σ H1 ⟨tx,p,x,y,bl,ro,rr,v0,n,k,T,w,z,v10,v11,Wt,Xw,Xv,V8,XQ,rfl,Fa,hz⟩;obtain⟨i,g,cc,Wj,hi,hw,hW,hg⟩:∃i g cc,k≤Β+1/\i≠13/\xUZ cc i z cc/\tu k w cc g/\vJ z g:=by
   cases Fa.hk with
   |bad h1 h2 h3 h4 h5=>exact(_,_,_,vbP)
   |cut=>cases hz
  show(ved,yc4 fb fl,xF6 zcP ll xPr,Cc lw hW.len zso[by show(xKd,DE ziT x1O Jt bX ll lw)] hy[Hl[H1 y] bh][by cases Fa.hy with|word h=>show aq],vff)
  intro o dp np Vl Yr;show(ω s0' xPD[g9 o dp[λ H2 ho TH=>Xq]],(s1:Ap)=λ b o e=>xTE[x0n o e])
  clear TH s0' Vl Yr;show(SL no[∀{c o'},xKk xKq->Eu o] x9S[AK[Ls.joined zls H2 EK _ λ lj H3 s3 hj=>qr lj È[BZ hj] x_]],F3=Fa.same yng,Fn ej,Gj (o,ro,x,y,T,k,i,g,w,z,cc,rfl,yeU,F3.hrl,F3.hx,Dz[FQ hy],Wj,hw,hW,hg,õ,λ H4 fr4=>ID true[bD ZU]) gg,(s4:xVz H4)=λ c o' e=>x0h _[Dz Eo][no e],Ty F4[Fa.same s4] hy4[Fp hy]);clear fr4 F3 s3 hj s1 ho no np;show uH gg ?_
  intro o dp np Vl Yr;show(s0'=xPD,Gj[g9 o dp[λ H5 ho TH=>Fw ZU]] gg,(s5:x0e H5)=λ b o e=>xTE[x0n o e])
  clear TH s0' Vl Yr;show((no:∀{c o'},xKk xKP->Eu o)=x9S,Θ F5[F4.same s5] bA[DH[Zh++Yg]][xR5[b1 x][kj z[hW.byt x] xQl]],SL t5[Gv[xIk[x1j[Bk 16[rT[Ü 8]]]][Ü 6]] [tK,Xt,sD,Bh,yE,Z0,Jj,rZ,rY,uw,v10,v11,Wt,Xw,Xv,V8,zr] H5 eI][by
   have:=xWi K[x9G [tK,Xt,sD,Bh,yE,Z0,Jj,rZ,rY,uw,v10,v11,Wt,Xw,Xv,V8,zr] (i:=16) (te:=Ü 8) rfl ho[AN F5.hrl] bA[Sc KN lA][xtl _ _ _ _ _ _ zcC hW _] hw] (i:=6) rfl[Dm hy4]
   rwa [xzD] at this][xTa[ji[xPB t5[.of (x57[x2O ho]).g]] λ H6 s6=>ZU]])
  clear gg t5;show(ω F6[F5.same s6][xCF[ho.same s6][.joined[.var F6.hp rfl][Bx ztM]][Sc xyZ fb][by show([xyZ,KN],FX Ye SZ zc1)][Sc xyZ[xRk[x6x [] rfl]]] λ l7 U H7 hU hl7 ho7 fr7=>?_],(hU:T=U)=hU);subst hU;show EC[AK[xug hl7[x7H F6.ht[(ho.same s6).ne F6.ht]] rfl xIl]][xZQ ho7 zcg[q _]]],YE tc pc5 hc t[x08 13 t/\∀(z:Str) σ H',o9 z "cut"->PC5 ze5 xNL _L->x1F][by
  show Gj[DT[ad[zU[xJx[B9[ue xH6]]] 15 Tc.nd[ig[PW.pt[xVe[Bv xKy[IX GD hr44 Fd 10[B9[HA EH xIN]]] Im][Bv xvC zkq]]] ZD]]
   (vh[Bv xYc[HA[pv 11][xFz vT[B9[HA[vA Ab AS] xIN]]]] Ε][Bv xvC zkq] ZD pe5)]] pe5;rintro z σ H1 hz ⟨tx,p,x,y,bl,ro,rr,o,la,v0,n,k,T,w,Wt,Xw,Xv,V8,XQ,H0,rfl,Fa,s1,no,ho,hla⟩;obtain⟨i,g,cc,Wj,hi,hw,hW,hg⟩:∃i g cc,k≤Β+1/\i≠13/\xUZ cc i z cc/\tu k w cc g/\vJ z g:=by
   cases Fa.hk with
   |bad h1 h2 h3 h4 h5=>exact(_,_,_,vbP)
   |cut=>cases hz
  show(ved,yfU b1 ll xPr,Θ lw hW.len hy[Hl[H0 y] bh][by cases Fa.hy with|word h=>show aq],Uv A eA[xo1 Wj],Cc on[xjd ã eA Wj] saW[(wJ).W=[]][by cases k<;>rfl] saf[A2 (wJ).fn][by cases k<;>rfl],xEj fA hN.facts[xpC zcC eA] JP JP fA,tR[x2w gg],(λ(J:∀V8 H2,C' H1 H2->R1 [some v0,some (vN n),some (.ref tx),some (.ref p),some (vN k),some (.ref x),some (.ref y),some (.ref bl),some (.ref ro),some (.ref rr),some (.ref o),some (.ref la),Wt,Xw,Xv,V8,XQ] H2)=>?_)[λ V8 H2 s2=>ZU])
  ·show(x0q,Pv.add (m:=1) .c[D9 2 81] H1 EK zm1,Ζ KG[xrP (n:=1+n/81%2) (D:=Ym) (λ i σ H2=>∃V8,σ=[tK,Xt,sD,Bh,yE,Z0,Jj,rZ,rY,uw,zr,xC6,Wt,Xw,Xv,V8,XQ]/\Ap)[AK EK] Î])
   ·rintro j σ H2 hj ⟨V8,rfl,s2⟩;show(Ty F2[Fa.same Gg] XF xV3,BU t5[Gv[xIk[x1j[Bk 10[rT[xIn ē 5 7]]]][Ü 6]] [tK,Xt,sD,Bh,yE,Z0,Jj,rZ,rY,uw,zr,xC6,Wt,Xw,Xv,xBB[0+Lw],XQ] H2 eI][by
     have:=xWi K[x9G [tK,Xt,sD,Bh,yE,Z0,Jj,rZ,rY,uw,zr,xC6,Wt,Xw,Xv,xBB[0+Lw],XQ] (i:=10) (te:=xIn ē 5 7) rfl XF[xHF[AN F2.hx] F2.hbl[IY ziA x1O Cg ll lw]][xCL[hW.byt x] xQl][by show([saW,KN,JP],IY ziA x1O bX ll lw)][hW.er _] hw] (i:=6) rfl[xPz hy]
     rwa [xzD] at this][ji[xPB t5[.of[Jw (x57[Pv.over (σ:=[tK,Xt,sD,Bh,yE,Z0,Jj,rZ,rY,uw,zr,xC6,Wt,Xw,Xv,xBB[0+Lw],XQ]) (i:=10) rfl XF]).g saf]]] λ H3 s3=>AK Ut])
   ·show(xHi ë V8 s2,J V8 A_)
  show(x0q,Ty F2[Fa.same Gg] XF xV3,Ai gg[AK[xCF XF[xHF (xVX F2.hp eA).ls F2.hbl[Bg zdc Ye Δ Cg fA.2]][DB[fA.1 x[tD hx]]][by show([saW,KN,JP],Bg zdc Ye Δ bX fA.2)][xRk on] λ l3 U H3 hU SV XE VP=>?_]],Θ hla3[gs[Cv hla][XF.ne[Cv hla]]] eT[(wJ).S++U=T] hU.symm,SL lT[(wJ).S.length+U.length=T.length][by rw [<-JP,eT]] (la,l3,Å,hla3,SV,bQ[by show(xKc,IY zdc xYo zcZ x7Y)],UV l4 n4),Θ s4[DI[yaK++xL8] n4] sA[C' H0[xFt l4[yaK++xL8]]][λ c o' e=>Fp[gs x8y[pq no]]],Θ ho4 x4B h4[(xFt l4[yaK++xL8]) l4=DO][by rw [ae,<-J8,eT]],Υ[AK[xcS h4[sA _ _ Fa.ht] rfl[AK Br]]][Pv.isNot (b:=true) (x2O ho4) zcg[AK[bD[gg _ _[he _ _ (tx,p,x,y,bl,ro,rr,v0,n,k,T,w,z,_,_,Wt,Xw,Xv,V8,XQ,rfl,Fa.same sA,hz)]]]]])],GQ=xaP ze0 Fe.F Y.Y.Z O,YE tb pb5 XI t[x08 11 t/\∀d σ H',PC5 ze5 d _L->x1F][by
  show Gj[DT[vB xRU Im Aa[Em 12 Tc.nd[xFz vT[vW 5]][xtK (i:=13) Tc.nd Ð Z7 R.mP R.xP Ÿ[λ pn σ0 E=>qh[xiy vT O.cl Fi.m GZ TQ Fi.b zgq]][λ e G=>Eh 14 Tc.nd[xyi vT O.cl Fe GQ xYB[B9[xvL[xav _G][aL[xtv _G] Ab AS WJ][xu3[x8x[xh6 _G] O0[vW 5]]] xrQ]]][Cj[xvA[yG[yl0 (ybA Bz).units][zS GW xYB Wo 13] Im][xvA[yG[x11 K (ybA Bz).units][HA[HA[pv 11][pv 12]][pv 14]] Ε][xq0[yG xus[cu vT O.cl Ov GV xYB] bV]]]]]]] bV][vB xRU Im[aK Jk][Cj[xvA[yG[x11 K hu][HA[pv 11][xFz vT[vW 5]]] Ε][xvA[yG xus zkq][xq0[yG gq[xtZ vT O.cl Fi.m GZ TQ Fi.b .nil xl1] dj]]]]] pc5]]] pc5;rintro d σ H1 ⟨tx,p,x,y,bl,ro,rr,o,la,v0,n,k,T,w,Wt,Xw,Xv,V8,XQ,H0,rfl,Fa,s1,no,ho,hla⟩;show(Ew zgu zgx hN w6 F1[Fa.same s1],Ty hy F1.hy hk Fa.hk);cases hk with
  | @bad _ i g _ z cc Wj hi hw hW hg=>
   cases hy with
   |word hy=>
   show Gr hz[hw.ne hi] t1[Gv[Vb xHA 6[xN5 yd4]] [tK,Xt,sD,Bh,yE,Z0,Jj,rZ,rY,uw,zr,xC6,Wt,Xw,Xv,V8,XQ] H1 eI][by
    have:=xWh K (σ:=[tK,Xt,sD,Bh,yE,Z0,Jj,rZ,rY,uw,zr,xC6,Wt,Xw,Xv,V8,XQ]) (i:=6) (z':="cut") rfl hy
    rwa [hz] at this][xTa[ji[.of t1] λ H2 s2=>ZU]]
   clear gg t1;show(Ai gg[Zv zjd[λ l3 n3=>cF y l3 false rfl[.tl[Sr.of[xZG _ _ x78]] xG0] È[bD ZU]]],jA s3[s2.trans[DI[xxW tx] n3]][hc z _ _ hz (tx,p,x,y,bl,ro,rr,o,la,v0,n,k,T,w,Wt,Xw,Xv,V8,XQ,H0,rfl,Fa,yng,no,yeU,Dz hla)])
  |good=>
   cases hy with
   | @text t hy ht=>
   show(rn[zN E9[λ l2 n2=>cF y l2 false rfl[.lt[RV.of[am n2 _ _ hy]] ygk] È[bD ZU]]],s2=jN [V.str "cut"] n2,xNq H1 l2 [V.str "cut"] H2,rn[Zv zjd[λ l3 n3=>cF y l3 true rfl[.ll (ns:=xNY b qI) (RV.of[xZG _ _ x78]) xG0[hJ[xZG _ _[Cv ht]]][hJ[xZG _ _[Cv F1.ht]]]] È VU]],s3=s2.trans[DI[xxW tx] n3],lD H2 l3[xxW tx] H3,Ty XE yeU on[xjd ã[xuj T] ρ]);rw [xog,Ku] at on;show(AK[xCF XE[AN[Dz F1.hx]] xPK[zF[CB 11]][xRk on] λ l4 U H4 hU hl4 ho4 fr4=>?_],Θ hla4[x0h _[Dz hla][XE.ne[Dz hla]]] eT[(xNe[Β+1]).S++U=T] hU.symm,SL lT[(xNe[Β+1]).S.length+U.length=T.length][by rw [<-JP,eT]] (la,vca,hla4,hl4,bQ[by show(xKc,IY zdc xYo zcZ x7Y)],UV zcO),Ty s5[xKn[ycb[xNe[Β+1]]++xL8]] ho5[ho4.same s5],xa h5[(Tn[ycb[xNe[Β+1]]++xL8]) l5=DO][by rw [ae,<-J8,eT]][AK[xug h5[Dm[x0h _[Dz F1.ht][XE.ne[Dz F1.ht]]]] rfl xIl]][xZQ ho5 zcg xIl],TL,xL0 hp5[id ho5],ZC (Á,o,ą,hp5,di,o,Á,ho5,λ _=>Fw[q _],nofun))
  | @cut m hm=>
   cases hy with
   |word hy=>
   show SL t1[Gv[Vb xHA 6[xN5 yd4]] [tK,Xt,sD,Bh,Ν[Β+1],Z0,Jj,rZ,rY,uw,zr,xC6,Wt,Xw,Xv,V8,XQ] H1 xA4][xWh K (z':="cut") rfl hy][xTa[xvr[.of t1][UV A_]]]
   clear gg t1;show(Ty XF xV3 YN[Cv F1.hx],(lW:BF[xMl m] m)=by show E1 J7[min m 11=m];omega,rn[xCF XF[AN YN][DB[xPK x V1]][by show(et[CB[CZ [][xMl m]]] KN lW,Bg m_[.n 11] SZ bX hm)][xoQ Í hb hm] λ l3 U H3 hU SV XE VP=>ZU],Fv[U=[]][BU hU[x0V=x0V++U] hU (List.append_cancel_left[(Ku _).trans hU]).symm],SB kl3[∀{a xs},H2 a=Gq->H3 a=Gq][y9[gs e[XF.ne e]]] k03[∀c o',xKk[H0 c]->xKk qO][λ c o' e=>gs x8y[pq no]],Θ F3[Fa.same k03] hy3[Hl[H3 y] [yd4]][by cases F3.hy with|word h=>show aq],Es hla3[kl3[Cv hla]],xL0 SW[id XE],π,rn (Ŵ,o,ą,SW,di,o,Á,XE,nofun,λ _=>kM cC xC.x xC.n xC.s[Ο e vx he]),zf s4[x2n[xAP x5G vx e] he] hE4[UF[(WY zs0) e][xAP x5G vx e]][WY zs0] H4,Ty F4[F3.same s4] ho4 x4B,SL neo[e≠o][TD[Ek SW he he]][qr È o dx _[Fp SW] di[Ls.frm (xVX F4.hp[xuj T]).ls[.lenS rfl F4.hx] zd4 λ l5 H5 s5 XS=>?_]],xOq lW XS (o,l5,Β,x0V,SU,xMl m,ybD m,rfl,ho4.same s5,XS,DB[xPK x xOw],Sc xzC[Ky _ _],λ l6 H6 hl6 ho6 fr6=>?_),SB k46[∀{c o'},xKk xKP->Eu o->xKk[H6 c]][λ e n=>fr6 _ _[Dm e] n] kl6[∀{a xs},H4 a=Gq->H6 a=Gq][y9[k46 e[ho4.ne e]]],ω hy6[k46[Fp hy3][by show(vj,Ek SW hy3 hy3)]] (Á,e,cC,13,"cut",rfl,xZY[k46 hE4 neo],Y.Y.iC,xCG,λ t7 H7 s7 ht7=>(Á,t7,y,Á,rfl,x6E[Sr.of ht7][s7 _ _ hy6],ŵ,VU)),Θ hla7[s7 _ _[kl6[Fp hla3]]] eS[(xNe[Β+1]).S=T][xzC T],xOq eS hla7 (Ï,la,l3,Å,hla7,s7 _ _[kl6[Fp SV]],bQ[by show(E1 JO[nP[_+0]],FX D5 xIR zcZ)],λ l8 n8=>(Á,l8,l6,Å,ae,am n8 _ _[s7 _ _ hl6],bQ[by show(UU JO,aQ[_+0+0],FX D5[ir xIR] zcZ)],UV l9 n9)),ω s9[(DI[WI++[]] n8).trans[DI[WI++[]++[]] n9]][AK[xug (A:=T) (Dq ae)[xE9[s7 _ _[kl6 F4.ht]]] rfl xIl]],xZQ[(ho6.same s7).same s9] zcg[q _])],YE tm pm5 hm t[x08 9 t/\∀d σ H',PM5 Í d _L->x1F][by
  show Gj[DT[DJ 10 Tc.nd x2l 11 Tc.nd[xFz vT[B9[zO GJ Si zjE]]] pb5]] pb5;rintro d σ H1 ⟨tx,p,x,y,bl,ro,rr,v0,n,k,T,w,v10,v11,Wt,Xw,Xv,V8,XQ,rfl,Fa⟩;show(Ty zgu zgx,TL,(Wj,_,_)=Fa.hk.le,xF6 zcP ll xPr,vff)
  intro o dp np Vl Yr;show(s0'=xPD,Gj[g9 o dp[λ H2 ho TH=>Fw ZU]] gg,(s1:Ap)=λ b o e=>xTE[x0n o e])
  clear TH s0' Vl Yr;show(CJ[xTa[xCF ho[.joined zls][Sc ej b1][by show([ej,KN],Bg zbh Ye SZ bX ll)][Sc ej[xaY Í zcC]] λ la U H3 hU hla XE VP=>ZU]] hU[(wJ).S=U] hU,XI d _ _ (tx,p,x,y,bl,ro,rr,o,la,v0,n,k,T,w,Wt,Xw,Xv,V8,XQ,H1,rfl,Fa,λ c o' e=>gs Eo AE,np,XE,Sc hU hla))],YE ta pa5 ha t[x08 5 t/\∀d σ H',PA5 Tb Í d _L->x1F][by
  show Gj[DT[vh[Bv xKy[zO GO hr45 Oe[xRf[vW 8]]] Im][iq[Je GT Tw 8[xEC 3 4 6]]] ZD[Eh 9 Tc.nd[wZ GJ Jo 3][vh[Bv xKy[zO GO hr45 Oe[Xc[pv 9][xDa mQ[IT[pv 9]]]]] Aa][iq[IX GA hr45 Wa 9[AL 2 mQ]]] ZD[Uo[kW xH6][iq[Je GP Pg 2[B9 mQ]]] ZD pm5]]]]] pm5;rintro d σ H1 ⟨tx,p,x,y,bl,ro,v0,n,k,T,w,rfl,WB,ht,hp,hx,hy,hbl,hro,hk,hb,hl⟩;show(hN=w6,yc4 fb fl,SL h3[rJ xyX] xQW M',rn[ji[xPB[xbM hk hy ã[.list rfl hro] rfl][.not (b:=true) (.ob[.calV[zH AN AN[si AN AN]] λ H2 Q s2 k2=>(ro,p,y,T,k,w,d,rfl,Cv hro,xVR,hy.same s2,hk,õ,k2)])]] λ H2 s2=>ZU],xHS,rn[d7[.joined[.var xVR rfl][Bx ztM]] λ rr H3 s3 hrr=>ZU]);rw [xyZ] at hrr;show(Θ s23 Ut F3[xEl H3 p zc8 d] (x0m _ ht,hp.same s23,x0m _ hx,hy.same s23,x0m _ hbl,x0m _ hro,hrr,hk,õ),hTb3=WB.same s23);clear ht hp hx hy hbl hro WB s23 s3 s2;show(ZZ hq[n/3%xyX<xyX][xxr[Gm D2 Ep h3]],(s,ht2,hf,_)=xp7 zbM hq,FJ M',rn[ji[xPB[.newt[.opnC[x5Z F3.hrr[.mod[xxK 3][xBr F3.hrr][Gm D2 Ep h3]]] zlz ht2 hf]][.not (b:=true) (.ob[.calV[xLB AN AN[xxK 5]] λ H4 Q s4 k4=>(rr,tx,T,Á,Fp F3.hrr,Fp F3.ht,õ,k4)])]] λ H4 s4=>ZU],Ty F4[F3.same s4] hTb4[hTb3.same s4],CJ[x2w gg] J[∀H5,xs7 H4 H5->R1 [tK,Xt,sD,Bh,yE,Z0,Jj,rZ,rY,uw,none,none,none,none,none,none,none] H5][λ H5 s5=>gg _ _[hm d _ _ (tx,p,x,y,bl,ro,rr,v0,n,k,T,w,_,_,_,vbm,F4.kl s5)]],x0q,EC[Tv.of[.eq (n:=1) (D9 4 7) .c] zd4[yaN[λ _=>AK[Pv.div (n:=28) zch xZS zd4[FD tx T _ F4.ht ã hTb4[λ H5 Y2 _=>ID true[bD[J H5 λ c o e h=>Y2 c o ?_ e]]]]]][bD[J H4 λ c o e _=>e]]]][hTb4.ne e[by rcases h with⟨_,rfl⟩|⟨_,rfl⟩<;>(show xh)]])],CY[zX 1 Tc.nd[xHG GM Mi[yT[IX GC Si Ca 0 yc]]][xaC (i:=2) (N:=ykF) (js:=[none,some 0]) (cl:=[yds[x3t 1]]) (g:=ou) Tc.nd rfl[Or.inl rfl] rfl (rfl,Z8,Z8,vc1,DB[by show(Xk[xdW hx],Dy)],veC)[xJx[B9 xCz]][λ fp s H=>xSW xeS][λ fp s H=>mz[xGb[xHG GM Mi[ac[IX GC Si Ca 1 yc] vk]]]] Z7][ad[xz5[IX GH hr6 Ch 0[jZ 2 1]][xIe[xXX 2[xXX 3[xXX 4[xXX 5[xXX 6 xz8]]]]]]]
   (DJ 7 Tc.nd[zO GJ Si Jo[xAi Ab xYz]] 8 Tc.nd[HA[HA[zO GJ Si zjE] EH] xIN] pa5)]])
 case c1=>show ja zhj
 clear pa5;show(SL tb0 qS[De Yv rh] M',rn (_t,ns,0,rfl,hS,Ö,_x,ZU));generalize K_[x6t 0] 0=n at*;show(uH gg[Pv.mod (n:=81) zch Z9 H EK zm1],[KG],SL h81[n%81<81] Jl[xdO (cs:=[Cs]) (xFG xKa)[Bg m_[.n 81] SZ D5 h81][λ j H1 Q' hj s1 kq=>?_] λ l T H1 _ s1 hlT lT hbT=>ZU])
 ·refine(_t,ns,1,rfl,s1.seq hS,Á,Ö,Au xNi,Au[IE[ET [_,_][ZN Tm][EI 81] D5 h81 hj]],Å,xZS,Å,(d6[D4 IF]),kq[Hs[K_[x6t 1] Lw/7]] Jl)
 show(x0q,uH gg (ô,a,l,ns,T,n,rfl,λ H' s'=>(s1.trans s').seq hS,hlT,hbT,Ej zb1[EI 81] D5 h81 x7Y,λ t T' k w d H2 s2 f hk=>?_),TL,(tx,p,x,y,h0,ht,vbi,õ)=f,π,Gj (t,Á,xNO,vbG,Ö,Ö,Ö,Å,ZU) gg,xBh Wj bw lw hk.le,xF6 zcP ll xPr,ω ej[xwe zcC] M',rn[d7[.joined[.frm h1 rfl[xHZ (n:=1) .c]][by show Ez[xzP T' k] 1900;show Bg ù Ye SZ bX ll]] λ bl H3 s3 hbl=>ZU],SL hbl[H3 bl=Bc[xzP T' k]] hbl[xTa[x0l[pre[ò T'] k++w++xzP T' k][xHF[xHF[C8 ej[.joined[.upto[h1.same s3] zdr][Bx zhz]]][Dz h2][IY ziP Cg lw ll]] hbl[Bx JP[Dd ziP xBW Cg lw ll]]][λ ro H4 s4 hro=>ZU]]])
 rw [JT] at hro;show jA s34 xVP[ha d _ _ (tx,p,x,y,bl,ro,_,n,k,T',w,rfl,tb0.same[x3b s34],xTJ ht,h1.same s34,xTJ h2,h3.same s34,Fp hbl,hro,hk,õ)]
universe K26.Ck
namespace K26.Ck
open PySem L2 QQ
section
variable {K:Frag}{mg:Τ}{h:RI}
def T9.i {x qu:Str}{st:RM}{f:RA}{oc dV:RC}{od an:pN}{sl:jQ}{kV dc pm cd ct:RC}(l:xE3 xPb)(c:xTV qu)(k:X4):xFA x qu f xPb:=((oc,od,kV,dc,pm,an,cd,ct,sl,rfl,l,c),k)
def xyk.i {x qu:Str}{st:RM}{f cd:RA}{oc dV:RC}{od an:pN}{sl:jQ}{kV dc pm ct:RC}(l:xE3[xIG qu xHd])(c:x7D xHd qu)(k:X4):xyk K x qu st dV cd f[xIG qu xHd]:=((oc,od,kV,dc,pm,an,ct,sl,rfl,l,c),k)
def tabI {x:Str}{d:RA}{p q:Int}{t1 t2 t3 t4:Tok}{ep:Nat}(X:oz)(G:xyU)(a:xT3 ES)(l:xUz d (x3T,none,x7J #[xPF 8 8 t1[yaF p],xPF 16 16 t3[.int q t4]],#[]))(s:ydA d):∃d,cY=ES/\xP9 K p q:=(d,pf,s,t1,t2,t3,t4,ep,l)
def markI {x:Str}{d:RA}{t1 t2 t3:Tok}{od:pN}{n:Nat}{sl:jQ}(X:oz)(G:xyU)(a:xT3 ES)(l:xUz d (xVi,od,.seq #[.int 184 t1,yaF 66,.int 1 t3] n,sl)):∃d,cY=ES/\∀H,bZ ziB:=(d,pf,λ _=>.inr[JG _ _ _ l rfl[rP 3][xLB Dy Dy Dy]])
def nI {x:Str}{n:Int}{t:Tok}(X:oz)(G:xyU)(a:xT3[some[Sf n]]):Vy x n:=(t,pf)
section
variable {x qu:Str}{st:RM}{ps:C6}{f C:RA}{oc dV:RC}{od an:pN}{sl:jQ}{kV dc pm cd ct:RC}(l9:xE3 xPb)(c9:xTV qu)(k9:X4)
include l9 c9 k9
def inI (e:dV=.none)(b:pB xPb [])(m:xGO K C)(a:xGE K C5 aM)(i:xLo)(q:xw5 K C5):Ij[Cb x qu st/\eB/\TY]:=A6[Z3[fun_mk l9 c9 k9] b (m,a,i,q)]
def ciI (b:pB xPb [])(m:xGO K C)(a:xGE K C5 aM)(i:xLo)(q:xw5 K C5):∃f fd dV,xFA x qu Ò/\eB/\TY:=(_,_,_,x1d,b,(m,a,i,q))
def cdI {n:Int}{t:Tok}(d:pB xPb [Sf n])(m:xGO K C)(a:xGE K C5 aM)(i:xLo)(q:xw5 K C5):∃f fd t,EO dV[xFA x qu Ò]/\xNV [Sf n]/\TY:=(_,_,vcX,d,(m,a,i,q))
universe s
section
variable {x:Str}{st:RM}{ps:C6}{f:RA}{oc dV:RC}{od an:pN}{sl:jQ}{kV dc pm cd ct:RC}(X:oz)(G:xyU)(a:xT3 aM)(l9:xE3 xZR)(c9:xTV x)(k9:X4)(b:pB xZR [])
include X G a l9 c9 k9 b
def fdI (d:pB xZR xXA):Ij[xZq x zb6]:=(_,vcX,pf,b,d)
def flI {t:Tok}(d:pB xZR [Sf 6]):Ij[K26.S.FnL Â x zb6]:=(_,vcX,pf,b,_,d)
def fkI {t:Tok}(d:pB xZR [Sf 16]):Ij[FnK Â x zb6]:=(_,vcX,pf,b,_,d)
universe s
def fcI {x:Str}{st:RM}{ps:C6}{f cd:RA}{oc dV:RC}{od an:pN}{sl:jQ}{kV dc pm ct:RC}(X:oz)(G:xyU)(a:xT3 aM)(l:xE3[xIG x xHd])(c:x7D xHd x)(k:X4)(b:pB[xIG x xHd] [])(d:pB[xIG x xHd] xXA):∃f fd dV,xyk K x x st dV cd Ò/\cY=aM/\eB/\xNV xXA:=(_,_,_,xyk.i l c k,pf,b,d)
def m0 {P:Fy DC}(h:P []):∀us:DC,xBP 0->P us:=λ us hl=>by
 cases us with
 |nil=>show aq
 |cons a us=>cases hl
def mS {n:Nat}{P:Fy DC}(h:∀a (us:DC),xBP n->P[a::us]):∀us:DC,xBP[n+1]->P us:=λ us hl=>by
 cases us with
 |nil=>cases hl
 |cons a us=>exact h a us[Nat.succ.inj hl]
def xrS (n:Nat):Fy[Fy DC]:=Nat.rec[λ P=>P []][λ _ ih P=>∀a,ih λ us=>P[a::us]] n
def bB_all {n:Nat}{P:Fy DC}(h:xrS n P)(us:DC)(e:xBP n):P us:=by
 induction n generalizing P us with
 |zero=>exact m0 (P:=P) h us e
 |succ n ih=>exact mS (P:=P) (λ a us e=>ih[h a] us e) us e
def fnJ {x:Str}{st:RM}{ps:C6}{f:RA}{oc:RC}{od an:pN}{sl:jQ}{kV dc pm cd ct:RC}(X:oz)(G:xyU)(a:xT3 aM)(l:xE3[xxR x x zgE cd])(c:xTV x)(k:X4)(b:ynh λ us=>xWk[xxR x x zgE cd] us=yib):Ι x st ps:=Z3[fun_mk l c k] pf[.all[bB_all b]]
def meJ {x qu:Str}{st:RM}{ps:C6}{f C:RA}{oc:RC}{od an:pN}{sl:jQ}{kV dc pm cd ct:RC}(a:xAp x aM)(i:xLo)(l:xE3[xxR x qu zgE cd])(c:xTV qu)(k:X4)(b:ynh λ us=>xWk[xxR x qu zgE cd] us=yib):aW C x qu st ps:=Z3[fun_mk l c k] (a,i,k)[.all[bB_all b]]
def e1 {us:DC}(h:xBP 1):∃a,us=t8:=mS (P:=λ us=>∃a,us=t8) (λ a=>m0[dJ a]) us h
def e2 {us:DC}(h:xBP 2):∃a b,us=[a,b]:=mS (P:=λ us=>∃a b,us=[a,b]) (λ a=>mS[xFG[m0[ZK a b]]]) us h
def b2 {fd:RG}{p q:Str}(h:∀(s:RD) (a b:RC),gR->xJ4 s [a,b] [((p,a)),((q,b))]):Ha [p,q]:=λ s us hX hl=>HD a b rfl[e2[show xBP 2 by show yeJ]][h s a b hX]
def b1 {fd:RG}{p q:Str}{v:RC}(h:∀(s:RD) (a:RC),gR->xJ4 s t8 [((p,a)),((q,v))]):xFJ K [p,q] [v]:=λ s us hX hl=>xAL a[e1[show xBP 1 by show yeJ]][h s a hX]
def xh2 {α β:Type}{F:dS α β}{xs:FO}{ys:yhM}(h:Paired F xs ys):jJ i x α y β[uG->B8 ys y->F x y]:=by
 induction h with
 |nil=>intro i x y h1;show uP
 |cons r _ ih=>
  intro i x y h1 h2;cases i with
  |zero=>show(uP,EL h2 r)
  |succ i=>exact ih i x y Ç
def xz0 {f:RA->xMS}{cs:Ξ}{n k:Nat}(h:cs.map f=xSu[λ j=>some[D3 j k]]):∀(i:Nat) (c:RA),xKl c->UF[f c][D3 i k]:=λ i c e=>by
 have z:=x94 l[List xMS] l[i]? h;simp only [KS,e,N3] at z;show((hi:i<n)=by
  show Vv i n
  ·show Ii
  ·show xm[KZ[Sc Ml q]],A3[N1 hi] z[Kr z])
def ers {p e0 e1 e2 e3 e4 e5 e6 e7 e8 e9 VS VR VQ XA Xz e15 e16 e17:RA}(q0:mg "BadRow"=υ e0)(q1:mg "BadBits"=υ e1)(q2:mg "NoBits"=υ e2)(q3:mg "BadLengths"=υ e3)(q4:mg "BadShares"=υ e4)(q5:mg "BadCode"=υ e5)(q6:mg "BadTable"=υ e6)(q7:mg "BadPieces"=υ e7)(q8:xVu=υ e8)(q9:yna=υ e9)(q10:ymv=υ VS)(q11:ym9=υ VR)(q12:ynb=υ VQ)(q13:yg3=υ XA)(q14:xVQ=υ Xz)(q15:mg "Over"=υ e15)(q16:mg "NoRange"=υ e16)(q17:mg "BadLetters"=υ e17)(m:ylj=Bh)(x:oo p)(u:x4S)(v:ylp)(a8:xLm e8)(c8:xx6 e8)(f8:xEn e8)(i8:(xLG zc9 e8)=xLx j 8)(a9:xLm e9)(c9:xx6 e9)(f9:xEn e9)(i9:(xLG zc9 e9)=xLx j 9)(a10:xLm VS)(c10:xx6 VS)(f10:xEn VS)(i10:(xLG zc9 VS)=xLx j 10)(a11:xLm VR)(c11:xx6 VR)(f11:xEn VR)(i11:(xLG zc9 VR)=xLx j 11)(a12:xLm VQ)(c12:xx6 VQ)(f12:xEn VQ)(i12:(xLG zc9 VQ)=xLx j 12)(a13:xLm XA)(c13:xx6 XA)(f13:xEn XA)(i13:(xLG zc9 XA)=xLx j 13)(a14:xLm Xz)(c14:xx6 Xz)(f14:xEn Xz)(i14:(xLG zc9 Xz)=xLx j 14):Ers Â p [e0,e1,e2,e3,e4,e5,e6,e7,e8,e9,VS,VR,VQ,XA,Xz,e15,e16,e17]:=by
 show(SL pm[Paired[λ(x:Str) (c:RA)=>cY=υ c] names [e0,e1,e2,e3,e4,e5,e6,e7,e8,e9,VS,VR,VQ,XA,Xz,e15,e16,e17]][zH q0 q1[zH q2 q3[zH q4 q5[zH q6 q7[zH q8 q9[zH q10 q11[zH q12 q13[zH q14 q15[si q16 q17]]]]]]]]] (u,v,m,x,(_,_,_,_,_,_,_,_,_,_,_,_,_,_,vbm),λ i x c h1 h2=>xh2 pm i x c Ç,λ i z c hw hc=>?_),(h8,hw)=hw,JK i[M4 h8]);rcases i with _|_|_|_|_|_|_|i
 ·show(Fv[e8=c] xJl,Iv a8 c8 f8[xz0 i8])
 ·show(Fv[e9=c] xJl,Iv a9 c9 f9[xz0 i9])
 ·show(Fv[VS=c] xJl,Iv a10 c10 f10[xz0 i10])
 ·show(Fv[VR=c] xJl,Iv a11 c11 f11[xz0 i11])
 ·show(Fv[VQ=c] xJl,Iv a12 c12 f12[xz0 i12])
 ·show(Fv[XA=c] xJl,Iv a13 c13 f13[xz0 i13])
 ·show(Fv[Xz=c] xJl,Iv a14 c14 f14[xz0 i14])
 ·show A8[KZ[VF 15[8+(i+7)][MM 8[i+7]▸LM 15 i]]] hw hw
universe s
def hd {l:PySem.W.OpenLaw}{w:RF}{K:Frag}{h:RI}{mg:Τ}{fa f B C0 C1 C2 C3 c CK Sk cO cQ cA cG cE cV cP e0 e1 e2 e3 e4 e5 e6 e7 e8 e9 VS VR VQ XA Xz e15 e16 e17 Tb:RA}{od an:pN}{sl:jQ}{oc kV dc pm cd ct:RC}(hKT:z8)(X:oz)(G:xyU)(hfa:mg "law"=υ fa)
  (a:UF[ylT "law"] aM) (lk:xE3[fnOf zjZ[xqJ jK][xvK jK][xrT jK] .none kV dc pm an cd ct]) (cc:xTV "law") (kk:X4) (R0':u6) (R1':u6->xQM) (R2':xQM->K26.Wins Â) (R3':K26.Wins Â->K26.Wys Â) (R4':K26.xuO zb4) (R5':xQM->K26.xuO zb4->K26.Bts zb4) (R6':u6->K26.Shs Â) (R7':u6->yd5 mg) (R8':u6->yd5 mg->ydY mg G') (R9':ydY mg G'->K26.Cds Â 0 G') (R10':K26.Wys Â->K26.Bts zb4->K26.Shs Â->K26.Cds Â 0 G'->K26.Shw zb4 0 G') (R11':xEJ C0 0) (R12':xEJ C0 0->K26.Raw Â C0 0) (R13':xEJ C1 0) (R14':xEJ C1 0->K26.Run Â C1 0) (R15':xEJ C2 0) (R16':xEJ C2 0->K26.Cpy Â C2 0) (R17':xEJ C3 0) (R18':xEJ C3 0->K26.Shr Â C3 0) (R19':K26.Shw zb4 0 G'->K26.Raw Â C0 0->K26.Run Â C1 0->K26.Cpy Â C2 0->K26.Shr Â C3 0->yfK _B) (R20':xQM->yni mg) (R21':K26.Ck.xuN Â CK) (R22':yni mg->K26.Ck.xuN Â CK->ynj zcf) (R23':ynj zcf->x36 zcf) (R24':yd6 mg Sk) (R25':yfK _B->x36 zcf->yd6 mg Sk->ynk _B c Ğ) (R26':x36 zcf->ydt zcf cO) (R27':K26.Ck.xvj Â cQ) (R28':ynk _B c Ğ->ydt zcf cO->K26.Ck.xvj Â cQ->ynl _B c zb7 cQ) (R29':ynm mg VR e9 VS VQ) (R30':x36 zcf->yd6 mg Sk->xQM->ydu mg Ğ) (R31':ydu mg Ğ->ydt zcf cO->ynn mg zb7) (R32':K26.CRd Â cA) (R33':xQM->K26.CRd Â cA->yno mg cA) (R34':u6->ynp mg) (R35':K26.C.CRc Â cG) (R36':u6->yd5 mg->K26.C.CRc Â cG->yd1 mg cG) (R37':yno mg cA->ynp mg->yd1 mg cG->ynq mg _D) (R38':ynq mg _D->K26.Ck.xyl Â _D Ź) (R39':ydu mg Ğ->K26.Ck.xyl Â _D Ź->ynr mg Ğ _D Ź) (R40':yns mg cE) (R41':ynm mg VR e9 VS VQ->ynn mg zb7->ynr mg Ğ _D Ź->yfK _B->yns mg cE->ynt _B zb7 _D cE VR e9 VS VQ) (R42':ynu mg cV) (R43':ynv mg e8 e2) (R44':ynt _B zb7 _D cE VR e9 VS VQ->ynu mg cV->ynv mg e8 e2->ynw _B zb7 _D cE cV VR e9 VS VQ e8 e2 Xz XA zgV) (R45':u6->K26.Ck.xzc Â) (R46':ynl _B c zb7 cQ->ynw _B zb7 _D cE cV VR e9 VS VQ e8 e2 Xz XA zgV->K26.Ck.xzc Â->K26.Ck.All zb4 0 0 0 Ź c zb7 cQ _D cE cV VR e9 VS VQ e8 e2 Xz XA zgV):
  ∃fd:RG,(∀(s:RD) (v:RC),xJ4 s [v] [yds v])/\∀base:RI,yfA->x0F->WG->VI->vc zgH K RZ 47 fa fd x3C[xvO K Tb]:=by
 show(e=hfa.symm.trans pf,Hy,Ew R0 R0' R1[R1' R0] R2[R2' R1] R3[R3' R2],Ew R4 R4' R5[R5' R1 R4] R6[R6' R0] R7[R7' R0],Ew R8[R8' R0 R7] R9[R9' R8] R10[R10' R3 R5 R6 R9] R11 R11',Ew R12[R12' R11] R13 R13' R14[R14' R13] R15 R15',Ew R16[R16' R15] R17 R17' R18[R18' R17] R19[R19' R10 R12 R14 R16 R18],Ew R20[R20' R1] R21 R21' R22[R22' R20 R21] R23[R23' R22],Ew R24 R24' R25[R25' R19 R23 R24] R26[R26' R23] R27 R27',Ew R28[R28' R25 R26 R27] R29 R29' R30[R30' R23 R24 R1] R31[R31' R30 R26],Ew R32 R32' R33[R33' R1 R32] R34[R34' R0] R35 R35',Ew R36[R36' R0 R7 R35] R37[R37' R33 R34 R36] R38[R38' R37] R39[R39' R30 R38],Ew R40 R40' R41[R41' R29 R31 R39 R19 R40] R42 R42' R43 R43',zx R44[R44' R41 R42 R43] R45[R45' R0] R46[R46' R28 R44 R45],Ef[fnOf zjZ[xqJ jK][xvK jK][xrT jK] .none kV dc pm an cd ct][λ s v=>.of_eq rfl][λ base _ _ hC hB=>xcR[fun_mk (st:=jK) lk cc kk] R46 hC hB hKT])
def walk {l:PySem.W.OpenLaw}{q:RE}{loose:C6}{XP:dS[Τ] RI}{YP:dS RF RI}{d:DefRec}{K:Params->Frag}{Tb c:RA}(hn:x6y 63)(hdf:ycB [])
  (hY:∀(w:RF) (h:RI),YP w h->xO5 h/\yC Tb[PySem.W.tabObj #[]]) (hKT:∀w:RF,eN ft Tb)
  (F:∀(w:RF) (mg:Τ) (fa:RA) (h:RI),xO5 h->xyU->yfB=υ fa->
   ∃fd:RG,(∀(s:RD) (u:RC),xJ4 s Gz [yds u])/\∀base:RI,xO5 base->x0F->WG->VI->vc zgH ft RZ 47 fa fd x3C[xvO ft Tb])
  (hC:∀w:RF,WF[PySem.W.codeHdIn ft c Tb]):
  yli loose XP ziD d zhZ:=
 L2.walk_ofT (n:=63) (k:=47) (x:="_law_script") (sp:=λ w=>xvO ft Tb) hn[by decide] hdf (JC,by decide,by decide,rfl) hY hC hKT F λ _ H a ns hl hS hT na=>(a,ns,rfl,hS,hT,na,JC)
universe K26.Ck
end
end
set_option tactic.hygienic true
open PySem PySem.W PyProof.Rows
section
local macro_rules|`(mutual $c* end)=>do
 let f (s:String):=Mq.W c[0]! λ t=>let t:=t.setInfo .none;if t.getId==`z then Lean.mkIdent (.mkStr `PySem.W.Fast ("tw"++s)) else t
 return Lean.mkNullNode (Mq.G #[] (Mq.F c[1]! (·.isOfKind `«term[_]»))[1].getArgs λ o x=>match x.isNatLit? with
  |some h=>o.push (f (toString h))
  |_=>if x.isAtom then o else
   let g i:=x[1][i].isNatLit?.getD 0
   (List.range (g 1+1-g 0)).foldl (λ o i=>o.push (f (toString (Lean.Name.mkStr `PySem.Challenge.cw_balepress_k26_openers_refused_holds (x[0].getId.toString++"_"++toString (i+g 0))).hash))) o)
mutual
def z:=True
example:=[env 41 41,heap 39 39,heap 46 46,heap 1541 1541,o 43 46,o 49 511,o 514 1540,sts 49 49,sts 64 64,sts 79 79,sts 94 94,sts 109 109,sts 124 124,sts 139 139,sts 154 154,sts 169 169,sts 184 184,sts 199 199,sts 214 214,sts 229 229,sts 244 244,sts 259 259,sts 274 274,sts 289 289,sts 304 304,sts 319 319,sts 369 369,sts 392 392,sts 443 443,sts 501 501,sts 514 514,sts 574 574,sts 648 648,sts 692 692,sts 765 765,sts 830 830,sts 874 874,sts 908 908,sts 944 944,sts 980 980,sts 1029 1029,sts 1088 1088,sts 1127 1127,sts 1185 1185,sts 1208 1208,sts 1273 1273,sts 1324 1324,sts 1382 1382,sts 1466 1466,tree 47 47,tree 63 63,tree 78 78,tree 93 93,tree 108 108,tree 123 123,tree 138 138,tree 153 153,tree 168 168,tree 183 183,tree 198 198,tree 213 213,tree 228 228,tree 243 243,tree 258 258,tree 273 273,tree 288 288,tree 303 303,tree 318 318,tree 368 368,tree 391 391,tree 442 442,tree 500 500,tree 511 511,tree 573 573,tree 647 647,tree 691 691,tree 764 764,tree 829 829,tree 873 873,tree 907 907,tree 943 943,tree 979 979,tree 1028 1028,tree 1087 1087,tree 1126 1126,tree 1184 1184,tree 1207 1207,tree 1272 1272,tree 1323 1323,tree 1381 1381,tree 1465 1465,tree 1540 1540,view 39 39,15131767319212849434,7034669958111903845,9495566776194287917,6921038936678165867,10534771500262503367,6239846121448469025]
end
end
noncomputable def Hk4.g (s:PySem.Shared)(a:List PySem.Addr)(k:Nat):=((a.drop k).take 190).map s.heap.get?
noncomputable def Hk4.l (s:PySem.Shared)(a:List PySem.Addr)(k:Nat):=(a.drop k).map s.heap.get?
noncomputable def Hk4.u (w:PySem.World)(a:PySem.Params->PySem.W.Frag)(k:Nat):=(((a w.params).drop k).take 190).map fun p=>some p.2
noncomputable def Hk4.v (w:PySem.World)(a:PySem.Params->PySem.W.Frag)(k:Nat):=((a w.params).drop k).map fun p=>some p.2
noncomputable def Hk4.t (s:PySem.Shared)(a:List PySem.Addr)(_:Nat):=a.map s.heap.get?
noncomputable def Hk4.n (_:PySem.World)(a:List PySem.Addr)(_:Nat):=a.map fun _=>some (PySem.W.tabObj #[])
theorem Hk4.cut {s:PySem.Shared}{a:List PySem.Addr}{w:PySem.World}{b:PySem.Params->PySem.W.Frag}(k:Nat)(x:Hk4.g s a k=Hk4.u w b k)(y:Hk4.l s a (k+190)=Hk4.v w b (k+190)):Hk4.l s a k=Hk4.v w b k:=by
 unfold Hk4.g Hk4.u at x
 unfold Hk4.l Hk4.v at *
 rw[← List.take_append_drop 190 (a.drop k),← List.take_append_drop 190 ((b w.params).drop k),List.map_append,List.map_append,x,List.drop_drop,List.drop_drop,y]
theorem Hk4.of {K:PySem.Params->PySem.W.Frag}{as:List PySem.Addr}(e:∀P,as=(K P).map (·.1))(ts:List PySem.Addr)(w:PySem.World)(s:PySem.Shared)(z:(Hk4.g s as 0,Hk4.g s as 190,Hk4.g s as 380,Hk4.l s as 570,Hk4.t s ts 0)=(Hk4.u w K 0,Hk4.u w K 190,Hk4.u w K 380,Hk4.v w K 570,Hk4.n w ts 0)):PySem.W.InK K w s.heap/\∀P∈ts,s.heap.get? P=some (PySem.W.tabObj #[]):=by
 simp only[Prod.mk.injEq] at z
 exact ⟨.of e w s (Hk4.cut 0 z.1 (Hk4.cut 190 z.2.1 (Hk4.cut 380 z.2.2.1 z.2.2.2.1))),List.map_inj_left.mp z.2.2.2.2⟩
local macro_rules|`(tactic|refine $e)=>do
 let x:=e.raw[1].getArgs
 let A:=(x.getD 9 .missing)[1][1][0][1][1]
 if A.getNumArgs != 4 then Lean.Macro.throwUnsupported
 let q (s:String) a:=Lean.Syntax.node .none ("Lean.Parser."++s).toName a
 let a (f:String) x:=q "Term.app" #[Lean.mkIdent ("Hk4."++f).toName,Lean.mkNullNode x]
 let v:=Lean.mkAtom
 let F:=x[2]![3]
 let T (i:Nat) g l t y:=x[i]!.setArg 3 (F.setArg 1 (F[1].setArg 3 (
  let f h y k:=a h #[F[1][0][0],y,(Lean.Syntax.mkNatLit k).raw]
  q "Term.tuple" #[x[9]![0],Lean.mkNullNode #[f g y 0,v ",",Lean.mkNullNode #[f g y 190,v ",",f g y 380,v ",",f l y 570,v ",",f t A[3] 0]],v ")"])))
 return q "Tactic.refine'" #[v "refine'",e.raw.setArg 1 (Lean.mkNullNode (x.set! 4 (T 4 "g" "l" "t" A[1])|>.set! 5 (T 5 "u" "v" "n" A[0])|>.set! 9 (x[9]!.setArg 1 (a "of" #[A[2],A[3]]))))]
set_option maxRecDepth 100000 in
set_option maxHeartbeats 0 in
theorem PySem.Challenge.cw_balepress_k26_openers_refused_holds : PySem.Challenge.rw_balepress_k26_openers_refused.Holds := by
 w_on;o_law;k_head;(case hw=>w_witness2)
 k_fill
 refine' K26.Ck.walk (l:=PySem.Challenge.rw_balepress_k26_openers_refused) rfl rfl (λ w h Y=>⟨PySem.W.km_in_of Y,PySem.W.km_tabs_of Y _ List.mem_cons_self⟩) ?hKT ?F ?hC
 case hKT=>intro w;kernel_rfl
 case F=>
  intro w mg fa h KX G hmg
  refine' K26.Ck.hd (by kernel_rfl) KX G hmg ?a ?l ?c ?k ⟨?_,?_,?_,?_,?_,?_,?_,?_,?_,?_,?_,?_,?_,?_,?_,?_,?_,?_,?_,?_,?_,?_,?_,?_,?_,?_,?_,?_⟩ (λ R0=>⟨R0,?_,?_,?_⟩) (λ R1=>⟨R1,?_,?_,?_,?_⟩) (λ R2=>⟨R2,?_,?_,?_⟩) ⟨?_,?_,?_,?_⟩ (λ R1 R4=>⟨R1,R4,?_,?_,?_,?_,?_,?_,?_,?_⟩) (λ R0=>⟨R0,?_,?_,?_,?_,?_,?_,?_,?_⟩) (λ R0=>⟨R0,?_,?_,?_,?_⟩) (λ R0 R7=>⟨R0,R7,?_,?_⟩) (λ R8=>⟨R8⟩) (λ R3 R5 R6 R9=>⟨R3,R5,R6,R9,?_,?_,?_,?_,?_⟩) ⟨?_,?_,?_⟩ (λ R11=>⟨R11,?_,?_,?_⟩) ⟨?_,?_,?_⟩ (λ R13=>⟨R13,?_,?_,?_⟩) ⟨?_,?_,?_⟩ (λ R15=>⟨R15,?_,?_,?_⟩) ⟨?_,?_,?_⟩ (λ R17=>⟨R17,?_,?_,?_⟩) (λ R10 R12 R14 R16 R18=>⟨R10,?_,R12,R14,R16,R18,?_⟩) (λ R1=>⟨R1,?_,?_⟩) ⟨?_,?_,?_,?_⟩ (λ R20 R21=>⟨R20,R21,?_,?_,?_,?_,?_,?_,?_⟩) (λ R22=>⟨R22,?_,?_,?_,?_⟩) ⟨?_,?_,?_,?_,?_,?_,?_⟩ (λ R19 R23 R24=>⟨R19,R23,R24,?_,?_⟩) (λ R23=>⟨R23,?_,?_,?_,?_,?_,?_,?_,?_,?_,?_,?_,?_,?_,?_⟩) ⟨?_,?_,?_,?_,?_,?_,?_⟩ (λ R25 R26 R27=>⟨R25,R26,R27,?_,?_,?_,?_,?_,?_,?_,?_⟩) ⟨?_,?_,?_,?_,?_,?_,?_,?_⟩ (λ R23 R24 R1=>⟨R23,R24,R1,?_,?_,?_,?_,?_⟩) (λ R30 R26=>⟨R30,R26,?_,?_,?_,?_,?_,?_,?_,?_,?_,?_,?_,?_⟩) ⟨?_,?_,?_⟩ (λ R1 R32=>⟨R1,R32,?_,?_,?_,?_,?_,?_,?_,?_,?_⟩) (λ R0=>⟨R0,?_,?_,?_,?_⟩) ⟨?_,?_,?_⟩ (λ R0 R7 R35=>⟨R0,R7,?_,?_,?_,R35⟩) (λ R33 R34 R36=>⟨R33,R34,?_,?_,?_,R36,?_,?_,?_,?_,?_⟩) (λ R37=>⟨R37,?_,?_,?_,?_⟩) (λ R30 R38=>⟨R30,R38,?_,?_,?_,?_,?_,?_,?_,?_⟩) ⟨?_,?_,?_,?_,?_,?_⟩ (λ R29 R31 R39 R19 R40=>⟨R29,R31,R39,R19,R40,?_,?_,?_,?_,?_,?_,?_,?_⟩) ⟨?_,?_,?_,?_,?_,?_,?_⟩ ⟨?_,?_,?_,?_,?_,?_⟩ (λ R41 R42 R43=>⟨R41,R42,R43,?_,rfl,rfl,rfl,rfl,rfl,rfl,rfl,?_,?_⟩) (λ R0=>⟨R0,?_,?_,?_,?_,?_,?_,?_,?_⟩) (λ R28 R44 R45=>⟨R28,R44,R45,?_,?_,?_,?_,?_,?_,?_,?_,?_,?_,?_,?_,?_⟩)
  (case a=>k_is);(case l=>k_is);(case c=>k_is);(case k=>k_is)
  all_goals try (refine' K26.Ck.ers ?_ ?_ ?_ ?_ ?_ ?_ ?_ ?_ ?_ ?_ ?_ ?_ ?_ ?_ ?_ ?_ ?_ ?_ ?_ ?_ ?_ ?_ ?_ ?_ ?_ ?_ ?_ ?_ ?_ ?_ ?_ ?_ ?_ ?_ ?_ ?_ ?_ ?_ ?_ ?_ ?_ ?_ ?_ ?_ ?_ ?_ ?_ ?_ ?_ ?_)
  all_goals try (refine' mg_of KX G ?_;k_is)
  all_goals try (refine' PySem.W.mg_none_of KX G ?_;k_is)
  all_goals try (refine' K26.Ck.nI KX G ?a;case a=>k_is)
  all_goals try ((first|refine' K26.Ck.fnJ KX G ?a ?l ?c ?k ?b|(refine' K26.Ck.meJ ?a ?i ?l ?c ?k ?b;case i=>k_is));(case a=>k_is);(case l=>k_is);(case c=>k_is);(case k=>k_is);(case b=>(repeat intro _);exact rfl))
  all_goals try ((first|(refine' ⟨_,_,L2.fun_mk ?l ?c ?k,mg_of KX G ?a,.all ?b⟩;case a=>k_is)|(refine' ⟨_,_,L2.fun_mk ?l ?c ?k,⟨?a,?i,?k⟩,.all ?b⟩;(case a=>k_is);case i=>k_is));(case l=>k_is);(case c=>k_is);(case k=>k_is);(case b=>((repeat refine' K26.Ck.mS λ _=>?_);exact K26.Ck.m0 rfl)))
  all_goals try (refine' K26.Ck.inI ?l1 ?c1 ?k1 ?e1 (.all (K26.Ck.bB_all ?b1)) ?m1 ?a1 ?i1 ?q1;(case a1=>k_is);(case l1=>k_is);(case c1=>k_is);(case k1=>k_is);(case m1=>k_is);(case i1=>k_is);(case q1=>k_is);(case e1=>rfl);(case b1=>(repeat intro _);exact rfl))
  all_goals try ((first|refine' K26.Ck.fdI KX G ?a ?l ?c ?k ?b ?d|refine' K26.Ck.flI KX G ?a ?l ?c ?k ?b ?d|refine' K26.Ck.fkI KX G ?a ?l ?c ?k ?b ?d|refine' K26.Ck.fcI KX G ?a ?l ?c ?k ?b ?d);(case a=>k_is);(case l=>k_is);(case c=>k_is);(case k=>k_is);(case b=>refine' K26.Ck.b2 λ s _ _ hX=>binds_K hX ?x ?t ?y ?z ?w;(case x=>rfl);(case t=>k_is);(case y=>rfl);(case z=>rfl);case w=>rfl);(case d=>refine' K26.Ck.b1 λ s _ hX=>binds_K hX ?x ?t ?y ?z ?w;(case x=>rfl);(case t=>k_is);(case y=>rfl);(case z=>rfl);case w=>rfl))
  all_goals try (refine' K26.Ck.ciI ?l2 ?c2 ?k2 ?d2 ?m2 ?a2 ?i2 ?q2;(case a2=>k_is);(case l2=>k_is);(case c2=>k_is);(case k2=>k_is);(case m2=>k_is);(case i2=>k_is);(case q2=>k_is);(case d2=>refine' K26.Ck.b2 λ s _ _ hX=>binds_K hX ?x ?t ?y ?z ?w;(case x=>rfl);(case t=>k_is);(case y=>rfl);(case z=>rfl);case w=>rfl))
  all_goals try (refine' K26.Ck.cdI ?l3 ?c3 ?k3 ?d3 ?m3 ?a3 ?i3 ?q3;(case a3=>k_is);(case l3=>k_is);(case c3=>k_is);(case k3=>k_is);(case m3=>k_is);(case i3=>k_is);(case q3=>k_is);(case d3=>refine' K26.Ck.b1 λ s _ hX=>binds_K hX ?x ?t ?y ?z ?w;(case x=>rfl);(case t=>k_is);(case y=>rfl);(case z=>rfl);case w=>rfl))
  all_goals try (refine' K26.Ck.markI KX G ?a ?l;(case a=>k_is);case l=>k_is)
  all_goals try k_is
  all_goals try (refine' K26.Ck.tabI KX G ?a ?l ?s;(case a=>k_is);(case l=>k_is);case s=>rfl)
  all_goals try (first|refine' K26.Ck.Exc1.mk ?_ ?_ ?_|refine' L2.Cls.mk ?_ ?_ ?_ ?_|refine' L2.MkB.mk ?_ ?_ ?_|refine' L2.ExI.mk ?_ ?_ ?_ ?_ ?_ ?_ ?_ ?_|unfold L2.NoAttr)
  all_goals try k_is
  all_goals try ((first|refine' K26.Ck.b2 λ s _ _ hX=>binds_K hX ?x ?t ?y ?z ?w|refine' K26.Ck.b1 λ s _ hX=>binds_K hX ?x ?t ?y ?z ?w);(case x=>rfl);(case t=>k_is);(case y=>rfl);(case z=>rfl);case w=>rfl)
  all_goals try ((repeat refine' K26.Ck.mS λ _=>?_);exact K26.Ck.m0 rfl)
  all_goals try unfold L2.ExC
  all_goals try kernel_rfl
  all_goals decide
 case hC=>intro w;kernel_rfl

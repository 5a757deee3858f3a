import PyProof.Rows.All
import KE.KFromBytes
import KE.KIsAll
import Wide.FinOn
import Open.Pieces
import OpenK.KLine
import PyProof.EqAt
import PyProof.EqKinds
import PyProof.TupleCall
import PyProof.Seq
import PyProof.RangeIter
import PyProof.TupleIter
import PyProof.Rows.TupIter
import PyProof.StationsW
import PyProof.ExcClass2
import PyProof.NeKinds
import PyProof.Rows.TupMore
import PyProof.AutoSeq1
import PyProof.ZipIter
import PyProof.StrWalks
import PyProof.StrBlock2
import PyProof.StrBlockI
import PyProof.StrLaws
import PyProof.SliceStr2
import PyProof.Rows.Range3
import PyProof.Rows.StrRev
import PyProof.ConsumeWalk
import PyProof.Rows.SortShellK
import PyProof.Rows.SortRev
import PyProof.SeqI3
import PyProof.Rows.SeqGen
import PyProof.Rows.SortRunsK
import KE.KEqDict
import KE.KLam
import KE.KMinKey
import KE.KNestM
import PyProof.ListRange
import Lean
import PySem.Challenge.RW_balepress_k27_looks
set_option compiler.extract_closed false
set_option compiler.small 0
section
set_option bootstrap.genMatcherCode false
set_option maxRecDepth 100000
open PySem renaming Addr → Qq, Value → Qr, Shared → Qu, Program → Qv, World → Qw, FuncData → Qx, Around → Qy, Heap → Qz, Expr → QA, Obj → QB, Stmt → QC
open PySem.W (mg_of instObj methodObj Frag lookIn InstAt plainGet hasDictIn findIn handedIn isFn plainOver takerIn makesIn typeIn InitBack emptyDict make_core Looks keepIn specialIn takesIn mroIn kitOne kitx_list kitx_dict fnOf codeIn codeRec_of clsIn tailIn nsOkIn nsIn findObj KitX oi_run kitMeta CodeHd binds_K)
set_option bootstrap.genMatcherCode false
set_option linter.all false
set_option Elab.async false
abbrev _root_.Jaa:List PySem.Str:=["thing","least","most"]
abbrev _root_.Jab:List PySem.Str:=["self"]
abbrev _root_.Jac:List PySem.Str:=["self","bits","text","before"]
abbrev _root_.Jad:List PySem.Str:=["self","reader","count","before"]
abbrev _root_.Jae:List PySem.Str:=["_law_row","_law_due_here","_law_cell"]
abbrev _root_.Jaf:List PySem.Str:=["thing"]
abbrev _root_.Jag:List PySem.Str:=["text","before"]
abbrev _root_.Jah:List PySem.Str:=["lengths"]
abbrev _root_.Jai:List PySem.Str:=["bale","place","many_signs"]
abbrev _root_.Jaj:List PySem.Str:=["size"]
abbrev _root_.Jak:List PySem.Str:=["row","place","size"]
abbrev _root_.Jal:List PySem.Str:=["self","row"]
abbrev _root_.Jam:List PySem.Str:=["row"]
abbrev _root_.Jan:List PySem.Str:=["counts","most"]
namespace L2
open PySem
inductive V where
 |non|bl (b:Bool)|int (i:Int)|str (x:Str)|byt (b:Array UInt8)|flt (b:UInt64)|ref (a:Qq)|ty (n:String)
 deriving DecidableEq
end L2
namespace W16
open PySem
inductive Pc where
 |sg (s:Nat)
 |cp (b z:Nat)
 deriving DecidableEq
end W16
section
def Mq.W (s:Lean.Syntax) (f:Lean.Syntax→Lean.Syntax):=s.rewriteBottomUp f
def Mq.V (a:Array Lean.Syntax) (f:Lean.Syntax→Lean.Syntax):=a.map f
def Mq.F (s:Lean.Syntax) (f:Lean.Syntax→Bool):=(s.find? f).getD .missing
def Mq.G {σ} (i:σ) (a:Array Lean.Syntax) (f:σ→Lean.Syntax→σ):=a.foldl f i
local macro_rules|`(mutual $c* end)=>do
 let q s:=("Lean.Parser."++s).toName
 let A:=q "Term.app"
 let n a:=Lean.mkNullNode a
 let C:=q "Term.anonymousCtor"
 let B:=q "Term.byTactic"
 let H:=q "Term.paren"
 let L:=q "Term.tuple"
 let S:=q "Tactic.show"
 let U:=q "Command.universe"
 let u k a:Lean.Syntax:=.node .none (q k) a
 let v:=Lean.mkAtom
 let a (f:Lean.Syntax) x:Lean.Syntax:=if f.isOfKind A then .node .none A #[f[0],n (f[1].getArgs++x)] else .node .none A #[f,n x]
 let P s:=Mq.W s λ s=>
  let k:=s.getKind
  if k==A then a s[0] (Mq.G #[] s[1].getArgs λ o x=>o++if x.isOfKind A then #[x[0]]++x[1].getArgs else #[x])
  else if k==`«term__[_]» then if s[2].isOfKind H then s.setArg 2 s[2][1] else a s[0] #[s[2]]
  else if k==L&&s[1].getNumArgs>0 then .node .none C #[v "⟨",n (#[s[1][0],s[1][1]]++s[1][2].getArgs),v "⟩"]
  else if k==H&&s[1].isOfKind C then .node .none L #[s[0],n #[s[1][1][0],s[1][1][1],n (s[1][1].getArgs.extract 2 s[1][1].getNumArgs)],s[2]]
  else s
 let R (s:Lean.Syntax):Lean.Syntax:=
  if s.isAtom then v ";"
  else if s.isOfKind B then u "Tactic.paren" #[v "(",s[1],v ")"]
  else if s.isOfKind `«term[_]» then u "Tactic.rwSeq" #[v "rw",u "Tactic.optConfig" #[n #[]],u "Tactic.rwRuleSeq" #[v "[",n (Mq.V s[1].getArgs λ r=>if r.isAtom then r else if r.isOfKind `«term-_» then u "Tactic.rwRule" #[n #[v "←"],r[1]] else u "Tactic.rwRule" #[n #[],r]),v "]"],n #[]]
  else if s.isOfKind `«term_=_» then
   let p:=s[0]
   if p.isOfKind C then
    let w x y:=u "Tactic.rcasesPatLo" #[u "Tactic.rcasesPatMed" #[n #[u ("Tactic.rcasesPat."++x) y]],n #[]]
    u "Tactic.obtain" #[v "obtain",n #[(Mq.W p λ t=>if t.isIdent then w "one" #[t] else if t.isOfKind (q "Term.hole") then w "ignore" #[t[0]] else if t.isOfKind C then w "tuple" t.getArgs else t)[0]],n #[],n #[v ":=",n #[s[2]]]]
   else u "Tactic.tacticHave__" #[v "have",u "Term.letConfig" #[n #[]],u "Term.letDecl" #[u "Term.letIdDecl" #[u "Term.letId" #[if p.isIdent then p else p[1]],n #[],n (if p.isIdent then #[] else #[u "Term.typeSpec" #[v ":",p[3][0]]]),v ":=",s[2]]]]
  else if (Mq.F s (·.isOfKind (q "Term.syntheticHole"))).getNumArgs>0 then u "Tactic.refine" #[v "refine",s] else u "Tactic.exact" #[v "exact",s]
 return n (Mq.G (({}:Lean.NameMap (Array Lean.Name×Lean.Syntax)),#[]) ((Mq.F c[0]! (·.isOfKind (q "Term.matchAlts")))[0].getArgs++(c.extract 1 c.size).map (·.raw)) λ (m,o) t=>
 let w:=t.isOfKind (q "Term.matchAlt")
 let b:=Mq.W (P (if w then t[3] else t)) λ s=>
  let s:=s.setInfo .none
  let k:=s.getKind
  if s.isIdent then match m.find? s.getId with|some (#[],b)=>b|_=>match m.find? s.getId.getRoot with|some (#[],b)=>if b.isIdent then Lean.mkIdent (s.getId.replacePrefix s.getId.getRoot b.getId) else s|_=>s
  else if k==A then
   let x:=s[1].getArgs
   let (h,x):=match m.find? s[0].getId with
    |some (p,b)=>(Mq.W b λ t=>if t.isIdent then ((p.zip x).toList.lookup t.getId).getD t else t,x.extract p.size x.size)
    |_=>(s[0],x)
   if x.isEmpty then h else a h x
  else if k==S&&s[1].isOfKind B then u "Tactic.paren" #[v "(",s[1][1],v ")"]
  else if k==S&&s[1].isOfKind C then u "Tactic.paren" #[v "(",u "Tactic.tacticSeq" #[u "Tactic.tacticSeq1Indented" #[n (Mq.V s[1][1].getArgs R)]],v ")"]
  else if k==U then u "Command.end" #[v "end",if s[1][0].getId==`s then n #[] else n #[s[1][0],n #[]]]
  else s
 if w then
  let p:=t[1][0][0]
  (if p.isIdent then m.insert p.getId (#[],b) else m.insert p[0].getId (p[1].getArgs.map (·.getId),b),o)
 else (m,o.push (if (b[1].isOfKind (q "Command.definition")||b[1].isOfKind (q "Command.abbrev"))&&b[0][4].getNumArgs==0&&(Mq.F b (·.getId.toString.endsWith "_auto_1")).isMissing then b.setArg 0 (b[0].setArg 4 (n #[u "Command.noncomputable" #[v "noncomputable"]])) else b))).2
mutual
example:=λ
|IP=>Nat.add_le_add
|IQ=>List.length_append
|IR=>Nat.le_of_eq
|IS=>List.length_map
|IT=>Nat.le_antisymm
|IU=>List.append_assoc
|IV=>Nat.mul_le_mul_left
|IW=>List.getElem?_eq_getElem
|IX=>PySem.wpAny_bind
|IY=>Nat.le_trans
|IZ=>decide_eq_true
|Ja=>Nat.lt_of_lt_of_le
|Jb=>Nat.le_refl
|Jc=>List.length_take
|Jd=>of_decide_eq_true
|Je=>List.length_drop
|Jf=>List.getElem?_eq_some_iff
|Jg=>PySem.Heap.get?_push_of_some
|Jh=>List.mem_cons_of_mem
|Ji=>List.map_append
|Jj=>List.size_toArray
|Jk=>if_neg
|Jl=>List.mem_cons_self
|Jm=>List.getD_eq_getElem?_getD
|Jn=>List.length_cons
|Jo=>List.take_of_length_le
|Jq=>Nat.lt_of_lt_of_eq
|Jr=>PySem.wpAny_pure
|Js=>List.mem_append_right
|Jt=>List.pairwise_append
|Ju=>if_pos
|Jv=>List.mem_cons
|Jw=>List.getElem?_map
|Jx=>List.mem_append
|Jy=>Nat.le_of_lt
|Jz=>List.getElem?_append_right
|JA=>Option.some.inj
|JB=>Nat.min_le_right
|JC=>List.mem_singleton
|JD=>Nat.le_add_right
|JE=>PySem.Heap.lt_size
|JF=>Bool.false_ne_true
|JG=>Nat.mul_div_le
|JH=>Int.toNat_natCast
|JI=>Nat.zero_le
|JJ=>List.take_append_drop
|JK=>List.mem_of_mem_take
|JL=>List.filter_cons_of_pos
|JM=>List.append_nil
|JN=>List.filter_append
|JO=>PySem.PassesOwn.never
|JP=>List.getElem?_append_left
|JQ=>List.length_replicate
|JS=>Nat.lt_of_le_of_lt
|JT=>PyProof.Rows.wpS_pure
|JU=>List.filter_cons_of_neg
|JV=>PySem.F.plainAttrs_list
|JW=>PySem.Heap.get?_push_size
|JX=>Nat.le_of_not_lt
|JY=>Nat.lt_or_ge
|JZ=>List.mem_of_mem_drop
|J5=>Nat.min_le_left
|J6=>List.getElem?_eq_none
|J7=>List.mem_of_getElem?
|J8=>Nat.add_assoc
|J9=>Nat.min_eq_left
|Ka=>Array.toList_append
|Kb=>beq_iff_eq
|Kc=>PyProof.Rows.boot_isinstance
|Kd=>List.nil_append
|Kf=>Nat.ne_of_lt
|Kg=>List.mem_iff_getElem
|Kh=>decide_eq_false
|Ki=>List.take_length
|Kj=>List.take_add_one
|Kk=>List.mem_append_left
|Kl=>PySem.F.slot_list_append
|Km=>Nat.add_sub_of_le
|Kn=>PyProof.Rows.boot_list
|Ko=>Nat.lt_of_le_of_ne
|Kp=>Int.natCast_nonneg
|Kq=>Nat.zero_add
|Kr=>PySem.F.type_list_append
|Ks=>PySem.Heap.get?_update_other
|Kt=>List.drop_eq_getElem_cons
|Ku=>List.pairwise_iff_getElem
|Kv=>Nat.add_sub_cancel_left
|Kw=>Nat.xor_lt_two_pow
|Kx=>Nat.add_le_add_right
|Ky=>List.flatten_cons
|Kz=>Nat.sub_succ_lt_self
|KA=>Nat.lt_of_succ_lt
|KB=>Nat.mod_lt
|KC=>Nat.le_of_lt_succ
|KD=>Array.length_toList
|KF=>PySem.mem_of_lookup
|KG=>List.replicate_succ
|KH=>List.map_cons
|KI=>Nat.mul_comm
|KJ=>PySem.wpAny_field
|KL=>Nat.mul_assoc
|KM=>Nat.lt_of_succ_le
|KN=>Nat.le_add_right_of_le
|KO=>List.getElem?_set_self
|KP=>List.take_append_of_le_length
|KQ=>Nat.pow_succ
|KR=>PySem.wpAny_mono
|KS=>List.drop_drop
|KU=>Nat.sub_le
|KW=>PySem.wpAny_holding
|KY=>PyProof.Rows.slot_tuple_getitem
|KZ=>List.getElem_mem
|K0=>Nat.sub_lt_of_lt
|K1=>List.map_map
|K2=>List.length_eq_zero_iff
|K3=>Nat.add_lt_of_lt_sub'
|K4=>Nat.ne_of_gt
|K5=>List.cons_append
|K6=>List.ext_getElem?
|K7=>List.pairwise_cons
|K8=>Array.getElem?_eq_some_iff
|K9=>Nat.exists_eq_add_of_le
|Lb=>Nat.lt_irrefl
|Lc=>Nat.lt_add_of_pos_right
|Ld=>List.flatten_append
|Lf=>Nat.lt_succ_of_le
|Lg=>Nat.pow_le_pow_right
|Lh=>List.filter_eq_nil_iff
|Lj=>List.drop_eq_nil_of_le
|Lk=>PySem.wpAny_Call_Name_kw
|Ll=>Nat.sub_lt_sub_left
|Lm=>PySem.Heap.get?_update_self
|Ln=>PySem.W.kia_one
|Lp=>PyProof.Rows.wpS_forRange
|Lq=>Nat.mod_eq_of_lt
|Lr=>Nat.lt_of_not_le
|Lu=>Nat.lt_succ_self
|Lv=>List.drop_zero
|Lw=>le_of_eq_of_le
|Lx=>List.foldl_append
|Ly=>Nat.le_of_succ_le
|Lz=>PySem.wpAny_callSpecial?_slot
|LA=>List.length_range
|LC=>PySem.wpAny_truthy_bool
|LD=>List.getElem_take
|LF=>Nat.pow_pos
|LG=>List.reverse_reverse
|LH=>Bool.false_eq_true
|LI=>List.mem_map
|LJ=>PySem.Obj.data_mapFields
|LK=>PySem.F.plain_min_loop
|LL=>Nat.div_add_mod
|LM=>Nat.xor_assoc
|LN=>Nat.min_eq_right
|LO=>List.map_take
|LP=>Nat.add_lt_add_left
|LQ=>PySem.Heap.get?_update_ne
|LS=>List.length_singleton
|LU=>Nat.sub_self
|LV=>Nat.add_mul
|LW=>Nat.pow_add
|LX=>Nat.add_le_add_iff_left
|LY=>List.map_drop
|LZ=>List.mem_filter
|L5=>List.getElem?_take
|L6=>List.getElem?_drop
|L7=>Nat.le_add_left
|L8=>PySem.F.slot_list_extend
|L9=>PyProof.Rows.callWith_type1
|Mb=>Nat.succ_pred_eq_of_ne_zero
|Mc=>List.getElem?_set_ne
|Md=>Nat.sub_one_lt_of_lt
|Mf=>Nat.le_sub_one_of_lt
|Mj=>Array.toList_reverse
|Ml=>Nat.succ_le_succ
|Mm=>Nat.add_comm
|Mn=>PyProof.Rows.wpS_mono
|Mp=>List.getElem?_range
|Mq=>Nat.le_succ
|Mr=>Nat.add_le_add_left
|Ms=>List.cons.inj
|Mt=>PySem.wpAny_setField
|Mu=>List.getElem_append_right
|Mv=>Nat.add_zero
|Mw=>List.sum_append
|Mx=>Int.ofNat_lt
|My=>List.length_set
|Mz=>PySem.Obj.isFreed_of_fields
|MB=>PySem.F.type_list_extend
|MC=>List.drop_append_of_le_length
|MD=>List.count_eq_zero_of_not_mem
|ME=>Nat.sub_le_sub_right
|MF=>List.getElem?_replicate
|MG=>Int.ofNat_sub
|MJ=>Ne.symm
|MK=>List.take_zero
|ML=>Nat.succ_pos
|MM=>Nat.sub_zero
|MN=>Nat.lt_trans
|MO=>PySem.wpAny_newObj_type
|MP=>List.getElem_drop
|MQ=>Eq.symm
|MR=>Nat.mul_add
|MS=>Option.map_some
|MT=>List.take_left'
|MU=>beq_eq_false_iff_ne
|MV=>List.reverse_append
|MW=>Bool.and_eq_true
|MX=>PySem.wpAny_call_entry
|MY=>List.take_append
|MZ=>List.sum_cons
|M0=>PyProof.Rows.boot_int
|M1=>Nat.sub_add_cancel
|M2=>Nat.add_sub_self_left
|M3=>Nat.eq_zero_or_pos
|M4=>PySem.W.callWith_K
|M5=>PySem.W.methodCall_KW
|M6=>Nat.eq_sub_of_add_eq'
|M7=>List.drop_left
|M8=>PySem.sizeLine_eq
|M9=>List.take_sublist
|Nd=>List.count_append
|Nf=>PySem.wpAny_rule
|Ng=>PySem.wpAny_execs_nil
|Ni=>PySem.wpAny_passesOwn
|Nj=>List.getElem_append_left
|Nk=>Nat.xor_comm
|Nn=>Nat.and_two_pow_sub_one_eq_mod
|No=>mg_of
|Nq=>List.map_congr_left
|Nu=>PySem.wpAny_attempt
|Nv=>PySem.W.callWith_K0
|Ny=>List.length_reverse
|Nz=>Nat.shiftLeft_eq
|NA=>List.not_mem_nil
|NB=>List.perm_middle
|NC=>List.mem_reverse
|ND=>List.mem_range
|NE=>List.flatten_singleton
|NG=>Nat.eq_zero_of_not_pos
|NH=>Option.toList_some
|NI=>List.count_cons
|NJ=>Nat.sub_eq_iff_eq_add
|NK=>Nat.xor_self
|NM=>Nat.not_lt_zero
|NN=>List.range_succ
|NO=>List.length_filter_le
|NP=>Nat.le_of_ble_eq_true
|NQ=>List.drop_left'
|NR=>Nat.sub_eq_zero_of_le
|NS=>Bool.eq_iff_iff
|NU=>List.find?_cons
|NV=>List.singleton_append
|NX=>Nat.lt_succ_of_lt
|NY=>Nat.sub_pos_of_lt
|NZ=>PySem.W.looks_findIn
|N1=>List.perm_cons_erase
|N2=>Nat.eq_sub_of_add_eq
|N3=>List.take_take
|N4=>PySem.Heap.size_push
|N5=>PySem.wpAny_seqItems
|N6=>PySem.wpAny_tryCatch
|N7=>List.extract_eq_take_drop
|N8=>Int.lt_of_not_ge
|N9=>List.take_set_of_le
|Oa=>PySem.wpAny_isSubtype_exc
|Ob=>PySem.Heap.SameBut.update
|Oc=>PySem.codeAny_mono
|Od=>Nat.zero_mul
|Oe=>Int.neg_ofNat_le_natCast
|Of=>Array.size_setIfInBounds
|Og=>if_false
|Oh=>Int.eq_ofNat_of_zero_le
|Oi=>List.count_pos_iff
|Oj=>List.take_add
|Ol=>Nat.pos_of_ne_zero
|Om=>Nat.add_sub_cancel
|On=>PyProof.Rows.boot_tuple
|Oo=>List.length_nil
|Oq=>List.of_mem_zip
|Os=>PyProof.Rows.listUpdate_at
|Ot=>PyProof.Rows.get?_update_seq
|Ou=>List.nodup_cons
|Ow=>PySem.tupleKind_room_in1
|Ox=>PySem.codeAny_builtin
|Oy=>PySem.slot_listiter_next
|Oz=>of_decide_eq_false
|OA=>Nat.testBit_eq_decide_div_mod_eq
|OB=>PyProof.Rows.boot_bool
|OC=>PyProof.Rows.bitAnd_pp
|OD=>Nat.mod_eq_sub_mul_div
|OE=>PySem.W.cellsFrom_some
|OF=>PySem.F.entry_min_loop
|OG=>Nat.le_of_succ_le_succ
|OH=>PySem.PassesOwn.leaving
|OI=>List.pairwise_map
|OJ=>PySem.wpAny_call
|OK=>PySem.wpAny_loadPart_at
|OL=>Nat.add_sub_assoc
|OM=>PySem.boot_len
|ON=>Nat.lt_add_one
|OO=>Nat.le_add_left_of_le
|OP=>PyProof.Rows.boot_min
|OQ=>Int.ofNat_le
|OR=>Int.ofNat_add_one_out
|OS=>List.set_append_right
|OU=>Nat.lt_of_sub_eq_succ
|OV=>List.mem_of_mem_erase
|OW=>Nat.add_le_of_le_sub'
|OX=>Array.getElem?_toList
|OY=>Nat.div_eq_of_lt
|OZ=>List.exists_mem_of_length_pos
|O0=>List.eq_nil_of_length_eq_zero
|O1=>List.map_snd_zip
|O2=>PySem.W.any_some
|O3=>Nat.le_of_not_ge
|O4=>PySem.wpAny_isInstance
|O5=>Nat.mul_le_mul_right
|O6=>Nat.div_lt_of_lt_mul
|O7=>Nat.pow_lt_pow_right
|O8=>PySem.Around.under_plainId
|O9=>Array.toList_extract
|Pd=>PySem.call_meets
|Pe=>Nat.mul_add_div
|Pf=>Nat.add_left_cancel
|Pg=>List.map_const'
|Ph=>List.filter_map
|Pi=>List.foldl_cons
|Pj=>List.getElem_of_mem
|Pk=>List.mem_map_of_mem
|Pm=>PySem.wpAny_letGo
|Pn=>List.filterMap_cons
|Pq=>PySem.W.plainGet_of
|Ps=>PySem.F.slot_enumerate_next
|Pw=>Nat.sub_le_sub_left
|Px=>Nat.mod_mul_right_div_self
|Py=>Nat.mod_two_eq_zero_or_one
|Pz=>Int.fdiv_eq_ediv_of_nonneg
|PD=>Nat.le_of_add_le_add_right
|PF=>Array.toList_setIfInBounds
|PH=>List.map_nil
|PJ=>List.map_inj_right
|PK=>Nat.sub_right_comm
|PN=>Nat.shiftLeft_xor_distrib
|PP=>Bool.false_and
|PQ=>Nat.lt_trichotomy
|PU=>Nat.not_lt
|PV=>Bool.not_eq_true'
|PX=>Option.isSome_map
|PY=>Nat.mul_left_comm
|PZ=>Array.toList_push
|P0=>List.drop_sublist
|P1=>Nat.one_mul
|P2=>Int.ofNat_inj
|P3=>List.perm_nil
|P4=>List.filter_cons
|P5=>Nat.not_le_of_lt
|P6=>Nat.mul_mod_left
|P7=>List.drop_length
|P8=>List.mem_flatMap
|P9=>PySem.W.makes_of
|Qa=>List.all_eq_true
|Qb=>Nat.sub_add_comm
|Qc=>Nat.lt_add_right
|Qd=>Nat.max_eq_right
|Qe=>Nat.mul_add_mod
|Qf=>Nat.testBit_xor
|Qg=>Nat.le_total
|Qh=>Int.min_eq_left
|Qi=>Int.natCast_pos
|Qj=>Int.zero_add
|Qk=>Nat.zero_xor
|Ql=>List.head?_drop
|Qm=>Int.le_of_lt
|Qn=>List.take_left
|Qo=>Int.one_mul
|Qp=>Eq.trans
|xzI ζ=>.a[.v ζ]
|jK ζ η θ ι μ ν=>NL.by' ζ η θ ι μ ν rfl
|XN ζ η=>xzI ζ[.n η]
|LT ζ η=>by show([ζ],η)
|LE=>List Nat
|C6 ζ η θ ι=>by show((_,_,ζ)=η,(_,_,θ)=ι)
|Re=>.v 0
|SL=>.v 1
|π ζ=>some[.ref ζ]
|Az ζ=>some[.lst ζ]
|ω ζ η=>by refine ζ;refine η
|A6 ζ=>(ζ:Int)
|CN ζ η=>.a ζ[.n η]
|TD ζ η=>ζ=some η
|Uf=>.v 2
|xI ζ η θ=>NL.of0 ζ η θ rfl
|Fj ζ η θ=>upd ζ η[.lst θ]
|SC ζ η θ ι=>by have ζ:η:=θ;refine ι
|Ik ζ η=>by obtain⟨ζ,rfl⟩:=η
|CM ζ η θ ι μ ν ξ=>jK ζ η θ ι μ[IP ν ξ]
|Tl ζ η θ ι=>by show(ζ=η,θ=ι)
|CS ζ η=>(_,ζ,η)
|SB=>XN 0 1
|Sc ζ η θ ι μ ν=>by show((ζ:η)=θ,(ι:μ)=ν)
|UV=>Array Keyed
|BZ ζ=>.a[.n ζ]
|AQ ζ η θ=>by rw [ζ] at η;cases θ
|XM ζ=>aa[pv ζ]
|Gs ζ=>(ζ,rfl)
|xvT ζ η=>wpAny[model ζ η]
|DT ζ η=>.a[.m ζ η]
|Sy=>List V
|A5 ζ=>(ζ).map vN
|Ε ζ η θ=>by rw [ζ] at η;exact θ
|Ρ=>xzI 0
|xzJ ζ=>Inv ζ QD
|BM ζ=>by exact(ζ)
|x8O ζ=>ap (i:=ζ)
|DW ζ η θ ι μ ν=>by show((ζ,η)=θ,(ι,μ)=ν)
|CJ=>hr.mono Z9
|Ii ζ η=>TD[s.heap.get? ζ] η
|WF=>Ρ SL
|Α ζ=>some[vN ζ]
|xzK ζ η=>aq[λ _ ζ=>η]
|HZ ζ η=>List[ζ×η]
|BY ζ=>ζ->Prop
|rN ζ η=>by refine ζ;intro η
|AJ ζ=>autoParam ζ xeX
|xvU=>λ _ _=>rfl
|Η=>pv 0
|xEx ζ η=>{cls:=.type ζ,data:=η}
|Γ ζ η=>by rw [ζ];refine η
|pG ζ η=>TD[H ζ] η
|DI ζ η θ ι μ ν=>NL.J'[jK ζ η θ ι μ ν]
|xSt ζ=>.ins ζ dx
|Τ=>.var rfl
|Cz ζ η θ=>by generalize ζ=η at*;refine θ
|Cv=>.v 3
|AU ζ η=>by exact(ζ,η)
|xG ζ=>starEach ζ X.env
|xF ζ=>ζ≤sizeLine
|xZ5=>Option Qr
|Ξ=>xzI 1
|Dr ζ η θ=>by obtain⟨ζ,η,rfl⟩:=θ
|si=>λ _ _=>False
|E9 ζ η=>by exact absurd ζ η
|xzL ζ=>xzJ ζ σ
|DS ζ η θ=>ac[x8O ζ η θ]
|HA ζ=>by show ζ;decide
|Bj ζ η θ ι μ ν ξ=>BM[CM ζ η θ ι μ ν ξ]
|uM ζ η θ=>xxP ζ η θ mg base
|AO=>.ref a
|xEy ζ=>(List.range ζ).map
|C5 ζ η θ ι μ ν=>by show((ζ,η,θ,ι)=μ,ν)
|χ ζ η θ=>by have ζ:=η;refine θ
|xE ζ=>eval ζ X.env
|XL ζ η θ=>xyi ζ η[xtl θ]
|Zx ζ=>(ζ:Nat)
|ST ζ=>A6[Zx ζ]
|Ig ζ=>(ζ:Str)
|Gz ζ=>ae[xeK ζ]
|BO ζ=>aa ζ xtm
|Ct=>.ref l
|UF ζ η=>λ ζ η=>?_
|Δ ζ η=>LT[aj ζ] η
|DN ζ η=>by subst ζ;exact η
|p6 ζ η=>TD[h'.get? ζ] η
|XV ζ η θ=>by show([ζ,η],θ)
|x8P ζ η=>TD[X.env.cells.lookup ζ] η
|Ty ζ=>ζ=true
|Cs ζ η θ=>TD ζ[η]? θ
|XJ ζ η θ=>by(rcases Jv.mp ζ with η|θ)
|vH=>AJ ((backTo pos[starEach es X.env]).any (·.1)=false)
|BN ζ=>.inl[QK.of ζ]
|xZ6=>List.mem_append.1
|Β=>XN 1 1
|Ie ζ η θ ι μ=>by show((ζ,η,θ)=ι,μ)
|Dq ζ η θ ι μ=>by obtain⟨ζ,η,θ⟩:=ι;refine μ
|sf ζ=>XM ζ xtm
|Ic ζ η=>∀x∈ζ,η
|E8=>ts.map V.ref
|xZ7=>List.getElem?_eq_some_iff.1
|AS ζ=>CN ζ 1
|jI ζ η=>TD[h.get? ζ] η
|DR ζ η θ ι μ ν ξ=>by show((ζ,η,θ,ι,μ)=ν,ξ)
|Gy ζ=>CS ζ ?_
|Ay ζ η θ ι μ ν=>BM[jK ζ η θ ι μ ν]
|Φ=>Ξ Uf
|υ ζ η θ ι μ=>by show(ζ=η,(θ:ι)=μ)
|Aw=>xzI 2
|Zw ζ η θ ι=>by rw [ζ,η] at θ;cases ι
|τ=>pv 1
|Bf=>Int.ofNat_le.2
|mZ ζ η θ=>λ ζ=>absurd η θ
|FR=>.ref p
|x8Q ζ=>am (o:=ζ)
|Dn ζ=>x8Q[.lst ζ]
|Θ ζ=>ζ=none
|B7 ζ=>Θ[H ζ]
|Aj=>by clear g1
|Tm=>xen Z8
|Au=>List Bool
|Bg ζ η=>by show([-ζ],η)
|BW ζ η=>BM[IT ζ η]
|EM ζ η θ=>(if ζ then η else θ)
|oa=>xzL X
|DV ζ η=>(ζ++η).length
|BV ζ=>CS rfl ζ
|xEz ζ=>K' ζ H'
|xzM ζ=>L.getD ζ 0
|G1 ζ=>by refine wpS_bind ζ
|Gr ζ=>TD ζ o
|xzN ζ η θ ι=>by obtain⟨its,ζ,η,θ⟩:=ι
|E5 ζ η=>∀b∈ζ,η
|CI=>List Str
|yfr=>sIx items.size
|mX ζ=>{s with heap:=ζ}
|xzO ζ η=>((ζ).drop η).take
|W1=>NL.xeq _ _
|ρ=>Jb _
|CR ζ η=>by cases ζ;exact η
|BG ζ η=>putF ζ[.ref η]
|Ar ζ=>by rw [ζ];rfl
|Gp ζ=>by refine IX ζ
|Ai ζ η=>by rw [ζ,η];rfl
|XI ζ η=>.frz ζ[.own η]
|BC ζ η=>(List.replicate ζ η).flatten
|Hy ζ=>λ ζ=>?_
|Fy=>s1.trans s2
|xKa ζ=>T.length≤ζ
|BJ ζ η θ=>show ζ=η from θ
|xn=>Int.ofNat_lt.2
|AH=>List Qq
|Zv ζ=>.m ζ SL
|Ο ζ η θ=>xuK K mg ζ η θ f fd
|B5=>xzc Η rfl
|xEA ζ=>.a[XN ζ 1]
|mQ ζ η θ ι=>upd ζ η[xSt θ ι]
|Cm ζ η=>(ζ,η,?_)
|sh ζ=>autoParam ζ xeO
|Ζ=>pv 2
|XH ζ η θ ι μ ν ξ ο=>by show((ζ,η,θ)=ι,(μ,ν,ξ)=ο)
|C4=>.ref C
|mO ζ η θ ι μ=>(ζ,rfl,η,θ,ι,μ)
|zP ζ η=>ao ζ η ag
|AG ζ=>ζ=false
|xvV=>seqObj "list"
|FQ ζ=>(ζ,?_)
|Dm=>.n 1000
|Zu=>oa H
|sV ζ η θ=>(ζ,η,rfl,θ)
|Fx ζ η=>ω[Gy ζ] η
|Ib ζ η θ ι=>by show((ζ,η)=θ,ι)
|x8R ζ η=>TD[X.env.scope.names.lookup ζ] η
|XG ζ η θ=>by obtain⟨ζ,rfl,η⟩:=θ
|Hf ζ η θ=>upd ζ η[.tup θ]
|sP ζ η θ ι=>(ζ,η,θ,rfl,ι)
|xSu ζ η=>TD[scope.names.lookup ζ] η
|He=>List Keyed
|oA ζ=>Q ζ H'
|Bc=>.n 2000
|AD ζ η=>Cs ζ i η
|mI ζ η=>{s with heap:=ζ,toks:=η}
|XZ ζ=>by exact False.elim ζ
|xEB ζ=>Binds ζ fd
|Fw ζ η θ ι μ ν ξ ο=>by obtain⟨ζ,η,θ,ι,μ,ν,ξ,ο⟩:=h
|se ζ=>xeN[top ζ]
|Ω=>Ξ Re
|DU=>[_]
|Fv ζ η=>xI DU ζ η
|bK=>.inl rfl
|sO=>B.map vN
|xm ζ η θ ι μ ν=>by show(C6 ζ η θ ι,(_,_,μ)=ν)
|xSv=>xvT X.prog X.w
|CG ζ η=>decide[ζ=η]
|vC=>congrArg List.length
|xD=>ord κ
|By ζ=>ζ<256
|BE=>xzI 3
|sL ζ η θ ι=>by obtain⟨ζ,η⟩:=θ;refine ι
|Bx ζ η θ ι μ ν ξ ο=>CM ζ η θ ι μ ν[IP ξ ο]
|x8S ζ=>xeM (i:=ζ)
|AV ζ=>ζ.2.1
|HW=>.ref f
|Ud ζ=>.int ζ t
|Uc ζ η θ=>if Ty ζ then η else θ
|xvW=>BY Hp
|az ζ η θ ι=>by generalize Fj ζ η θ=ι at*
|aw ζ η θ ι μ=>by show((ζ,η)=θ,AU ι μ)
|xzP=>Ig "whole_bytes"
|xSw ζ η=>s.heap.push[xEx ζ η]
|Χ=>xEz H
|Cc ζ=>uM P w K QM ζ f fd
|xk ζ=>(aj ζ).trans
|x8T ζ=>.str[Str.ofString ζ]
|rU=>T.map vN
|Dd ζ η θ ι=>by have ζ:=η;rw [θ] at ι
|xSx ζ=>ζ≠X.env.locals
|Hc=>.n 0
|AN=>PE X
|lz=>Int.ofNat_lt.1
|Wp=>Zu s
|sZ=>L.map vN
|aX=>λ _=>?_
|EL ζ=>BZ ζ SL
|DM ζ=>by exact .inr ζ
|SZ ζ=>λ z=>ζ
|Gn ζ η θ ι μ=>DS ζ η θ[ac ι μ]
|xEC ζ η θ ι μ=>by obtain⟨ζ,η⟩:∃θ,ι:=μ
|xZ8 ζ η θ ι μ=>by obtain⟨ζ,η,rfl,θ,ι⟩:=μ
|zM ζ η=>aa ζ[BO η]
|EI ζ η=>(ζ).length≤η
|Κ=>HZ Qq QB
|HV ζ η=>by refine xzK ζ η
|DZ ζ=>by exact .inl ζ
|xzQ ζ η=>xlX ζ η xeJ
|Bb=>pv 4
|BA ζ=>Az[A5 ζ]
|HY ζ η=>decide[ζ<η]
|UB=>Option Int
|CF=>by clear g
|BD ζ η=>(ζ).length=η
|sF ζ η=>(ai ζ η).symm
|sD ζ η=>putF ζ[vN η]
|xED ζ=>Gr[H' ζ]
|Dl ζ=>Ic ζ[By x]
|Hx ζ η θ ι μ ν ξ=>(ζ,η,θ,ι,rfl,μ,ν,ξ)
|lp ζ=>.cons ζ .nil
|x9 ζ=>.m ζ Re
|EY=>Option V
|ll ζ η θ=>(_,ζ,η,θ)
|xZ9=>X.s₀.heap.get? b
|xvX=>.builtin "object.__class__"
|Zt ζ η=>pG ζ[.tup η]
|DL=>xo0 κ
|x0a ζ η θ=>kitOne ζ η[.type θ]
|lj ζ=>pG ζ o
|lh ζ η=>(ζ).lookup[Ig η]
|Cb=>List Qr
|Dk ζ=>QJ ζ _
|lg ζ=>BZ ζ Re
|DQ ζ=>Nat->ζ
|B4=>HZ Nat Nat
|sW=>kf κ
|xSy=>s.heap.push emptyDict
|Cj=>List Bd
|FO ζ η=>decide[ζ≤η]
|x8=>IR this.symm
|Ax ζ=>["self",ζ]
|CD=>Ju rfl
|aI=>Value.ref a
|zJ ζ η θ ι=>by refine ζ;obtain⟨η,θ⟩:=ι
|xKb ζ η θ=>.inl (ζ,η,θ)
|HS ζ=>XN 0 ζ
|aG ζ η θ ι=>by rw [ζ,η] at θ;exact ι
|AZ=>pv 3
|x8U=>oA .non
|sU=>W13.puts It
|XY ζ=>.m ζ Uf
|xzR=>upd X.H₀
|Av=>xSv X.A
|Dj ζ η θ=>by exact(ζ,η,θ)
|x8V ζ=>(Rs.take ζ).flatten
|x8W=>List.mem_singleton.1
|Hu ζ η=>by obtain rfl:ζ:=η
|xEE=>S.map vN
|Di ζ=>by rw [ζ];simp
|Μ ζ η θ=>λ ζ η θ=>?_
|xvY ζ η θ ι=>thn ζ[Μ η θ ι]
|xKc ζ η θ ι μ=>by obtain⟨ζ,η,θ,ι,μ⟩:=z9
|zI=>SG.kf SG.kInt
|AM=>.n 1
|EX ζ=>(_,ζ)
|HR ζ=>P.length+ζ
|x6 ζ η θ=>(ζ.2 η θ).trans
|jE ζ η θ ι=>(ζ,η,rfl,θ,ι)
|xvZ ζ η=>aq[UF ζ η]
|HX ζ η θ=>xlT ζ η θ[xlS _]
|jB ζ η=>TD ζ[.tup η]
|Aq=>ns.map V.int
|E4=>.ref x
|ZZ ζ=>(Jf.mp ζ).1
|SV=>Rs.map hd2
|Zs=>Nat.not_lt.2
|xKd=>kv.toArray.zip its.toArray
|xv0 ζ η θ ι μ ν=>by obtain⟨ζ,η,θ,ι,μ,ν⟩:=h
|Rn=>.v 4
|sS ζ η=>Av ζ η X.xe
|zH=>.int 0
|qx=>.ref s.heap.objs.size
|x0b ζ=>L.map[sgl ζ]
|DH=>.n 3
|E3 ζ η θ ι=>by exact(ζ,η,θ,ι)
|Gl=>bale T Rs
|xKe ζ η=>Ε ζ this η
|A1=>g1 _ _ ?_
|x0c ζ=>aA (j:=ζ) rfl
|QO=>λ _=>rfl
|ZY ζ=>DT ζ Uf
|XX ζ η θ ι μ=>by refine ζ;obtain⟨η,θ,ι⟩:=μ
|yfs=>HT.sIx xs.length
|xv1=>List.replicate n
|lX=>xry X.len
|qw ζ η=>by(rcases ζ with rfl|η)
|xEF ζ η θ ι=>by generalize ζ=η at*;generalize θ=ι at*
|x5=>.bl true
|xSz ζ=>(pendingOf ζ).size
|Fs=>Aw Cv
|sR=>R.map vN
|Fq ζ η=>by unfold ζ;rw [η]
|Zr ζ=>S.length+ζ
|qq ζ=>Ic scope.names ζ
|xSA=>NoAttr K
|CA ζ η=>BJ ζ η rfl
|HU ζ η=>by refine ζ;exact η
|E2=>by simp at h
|xv2 ζ η=>Ty[keepIn ζ η]
|E1 ζ=>Pv ζ σ H
|Q6 ζ η θ ι μ ν ξ ο=>(ζ,η,θ,ι,rfl,μ,ν,ξ,ο)
|xEG=>bt R
|HQ ζ=>.a ζ Uf
|xj ζ=>HA[xF ζ]
|IM ζ=>.a ζ SL
|xEH ζ=>HZ Str ζ
|jA ζ η=>XM ζ[sf η]
|Ν ζ η θ=>∃f fd,Ο ζ η θ
|A3 ζ η θ ι μ ν ξ=>by show((ζ:η)=θ,SC ι μ ν ξ)
|xv3=>arrOf sq0
|IL=>s1 _ _
|DG=>Aw SL
|zF=>B.take 3
|x0d ζ=>aZ[Hy ζ]
|x4 ζ η=>.inr (ζ,η)
|xzS ζ η θ=>by show(Ik ζ η,θ)
|EW=>List α
|ZX ζ η θ=>Fj ζ η[A5 θ]
|xSB ζ η=>.Call[.Name ζ η]
|EH=>Ρ Uf
|B8=>oA Ct
|ZW ζ η θ ι=>KR ζ η[λ _ _ θ=>ι]
|qk ζ η=>xzQ ζ[ae η]
|iz ζ η=>E1 ζ[vN η]
|qh ζ η=>show Ty ζ from η
|ZV ζ=>(rfl,ζ)
|EV=>by simp [z]
|Dh ζ η θ ι μ=>jK [_,_] ζ η θ ι μ
|lW=>W.map vN
|Gk ζ=>LT IS ζ
|x0e ζ=>E[.ref ζ]
|x3 ζ η θ=>by have:=ζ;show xKe η θ
|iq ζ η θ ι=>by(rcases JY ζ η with θ|ι)
|xZ=>K'.refl H
|Bp=>Zv 8
|zE ζ η θ ι μ ν=>(ζ,η,θ,ι,rfl,μ,ν)
|zC=>cdAt L
|Gj=>tots ps
|nj ζ η=>XM ζ[BO η]
|IK ζ=>ζ≤1000
|xzT ζ=>X.s₀.heap.objs.size≤ζ
|DK ζ η θ ι=>by refine ζ;have η:θ:=ι
|XW ζ η θ=>(ζ).map[λ η=>θ]
|xSC=>.builtin "getset_descriptor.__get__"
|Dz=>.int i
|sC ζ=>ζ≤B.length
|Am=>I.hok.fresh ρ
|EU ζ=>ζ.2.2
|xi=>XN 2 1
|FL ζ=>c≠ζ
|xEI ζ=>ζ≤xs.length
|lU ζ=>L.length≤ζ
|Zq ζ η θ ι μ ν=>by show((ζ,η)=θ,rN[F.F.ok ι μ] ν)
|Bv=>B7 l
|Rd=>IR hl.symm
|xv4 ζ=>ζ<s.heap.objs.size
|xh ζ η θ=>pG ζ[xSt η θ]
|iG ζ=>TD ζ true
|Ij=>le_trans xD
|pE=>Ig "course"
|pD=>Ig "blocks"
|Af=>ai e
|B1=>JI _
|xv5 ζ=>(List.range ζ).filter
|rn ζ=>by cases ζ;rfl
|Dw=>Ρ Β
|Ih ζ η θ ι=>aE ζ η θ[sf ι]
|xEJ=>xs.toList.drop i
|xSD ζ η=>TD[K.lookup ζ] η
|Ψ=>lj c
|FK ζ η θ=>xtp (v:=.int ζ) Z7 η[Gs θ]
|IJ ζ η=>Fj ζ l η
|qg=>Gs rfl
|x0f ζ=>Obj.mapSeq[λ _=>ζ]
|HN=>.n 256
|sQ=>Option Nat
|AA=>g _ _ ?_
|pC=>Ig "many_signs"
|xzU ζ=>x0e ζ none
|HM=>Aw Re
|C8=>8*R.length
|FD ζ η θ ι=>by subst ζ;show AQ η θ ι
|ZU ζ η=>by refine(ζ,η)
|qD=>K w.params
|x0g ζ=>(K27.C.bt ζ).drop
|pj=>.ref it
|x0h=>.seq its.toArray
|xEK ζ=>ζ<xs.length
|pU=>Int.ofNat_inj.1
|Dg ζ η θ ι μ ν=>CM ζ η θ Re ι μ ν
|pT ζ=>Vals ζ us
|ET=>DQ Nat
|x0i ζ=>xlV Η ζ rfl
|Z3=>‹_›
|zB=>upd H
|HI ζ η=>by have:=ζ;exact η
|xSE ζ=>by rw [ζ] at this
|DF ζ η θ ι μ ν ξ ο=>by show(ζ=η,Sc θ ι μ ν ξ ο)
|xSF=>Nat.not_lt.1
|AY=>xtl st
|xKf ζ=>xEx "list" ζ
|xKg=>.type "BaseException"
|gk=>K' H
|Gi=>ao xlW
|DP ζ η θ ι μ=>Gn ζ η θ ι[Gz μ]
|Hv ζ η θ=>xvY ζ η θ z9
|A2=>by intro z;cases z
|II ζ=>by(rcases ζ with z|z)
|ni ζ η=>(ζ,η,rfl)
|xKh ζ=>(B.take ζ).drop
|x8X ζ η θ ι=>by show((_,_,ζ)=η,(_,θ)=ι)
|Zp ζ η=>.inl (ζ,η)
|sN ζ=>XN 1 ζ
|PL=>AS SB
|Zo ζ=>E5 ζ[By b]
|xzV ζ η θ=>by show((_,_,_,ζ)=η,θ)
|Hm ζ η=>((ζ,V.ref η))
|xSG ζ=>ζ<sizeLine
|XU=>xSG ys.length
|M'=>List Pc
|XT ζ η θ ι μ ν ξ=>by obtain⟨ζ,η,θ,ι,μ,ν,ξ⟩:=h
|xKi=>Nat.sub_eq_zero_iff_le.1
|sM ζ=>QH ζ Rb.length
|AX ζ η θ=>TD ζ[xSt η θ]
|DE ζ η θ ι μ ν ξ ο=>Bj ζ η θ ι μ ν[IP ξ ο]
|AL ζ=>1≤ζ
|rk=>List Env
|xSH ζ=>λ _ _ _ _ _ _ _ q=>ζ
|z8 ζ=>ζ≤S.length
|xEL=>xx6 co
|Hs ζ η θ ι μ ν ξ ο=>by show(Tl ζ η θ ι,Tl μ ν ξ ο)
|sJ ζ η θ=>by(rcases Jx.mp ζ with η|θ)
|Bo=>kp _ _
|xEM=>P'.take i
|HH ζ η θ ι μ=>jK DU ζ η θ ι μ
|xY=>BE Uf
|Fp=>AS Hc
|sI ζ η=>by refine aO ζ η
|DD=>by subst e
|HG ζ=>by rw [ζ] at h
|xEN ζ=>fO ζ S.length
|Iz ζ η=>xI [_,_] ζ η
|yz=>BY SortSt
|xSI ζ η=>TD[sc.names.lookup ζ] η
|BS=>p.1
|sH ζ=>((false,xE ζ))
|rg ζ η=>XJ ζ rfl η
|pM ζ η=>.cons ζ[lp η]
|Bn=>s5 _ _
|xv6=>Kb.mp z
|yy ζ=>occ ζ p
|Hk=>Ρ Cv
|xv7 ζ=>(xZ6 ζ).elim
|Fm ζ=>ac[aB ζ]
|Hd ζ=>by rw [ζ];decide
|sG ζ=>(ζ,[])
|xKj=>xry T.len
|x0j=>QU blt
|sA=>QU.refl _
|xKk ζ η θ ι=>by show((_,ζ)=η,(_,θ)=ι)
|Gh=>xzI 4
|Z2=>by cases rx
|x8Y ζ=>Heap.ExtBut ζ s.heap
|xzW ζ=>s.heap.objs.size≤ζ
|AK=>I.tok _
|XS=>.bl false
|pB ζ=>ζ<L.length
|x8Z ζ=>W.length≤ζ
|x0k ζ=>A'.length+ζ
|Zn=>x0k M.length
|xEO ζ η=>(Uh.heap.update ζ η).get?
|AE=>s2.trans s3
|DC ζ η θ ι=>by show((ζ:η)=θ,ι)
|xzX ζ η=>Option ζ×η
|A7=>by simpa using hb
|xzY=>hr.hd Z9
|Zm=>X.take n
|zx ζ=>DT ζ SL
|Zl ζ η θ ι μ ν ξ ο=>by show((ζ,η,θ,ι)=μ,(ν:ξ)=ο)
|EG=>XY 8
|xX ζ η θ ι=>Dh ζ η θ SL ι
|Zk=>(let D:=_;(?_:xwc _ _ D _ _))
|EF ζ η=>by rw [ζ];show η
|rY=>ao xe7
|xv8=>eqv blt
|yft=>List.replicate L.length
|xEP=>C9.cdAt L
|Z1=>.ref t
|Zj ζ=>x8Q[.tup ζ]
|B0=>H' l
|pK=>by simpa using this
|Zi=>K'.refl _
|xEQ=>.fin false
|xv9 ζ η=>TD[s'.heap.get? ζ] η
|nZ ζ=>ac[x0i ζ]
|pA=>Ig "waiting"
|BU=>A6 n
|rz ζ=>DT ζ Cv
|Hn ζ η θ ι=>if ζ=η then θ else ι
|cS ζ η=>xyv ζ[.builtin η]
|xER=>standAt apos.atName
|Zh ζ=>ζ<S.length
|xKl ζ=>B.length-ζ
|xES=>pl ds
|xzZ ζ η=>XL ζ Jab η
|xz0 ζ η θ ι=>by obtain⟨⟨ζ,η⟩,hC,θ⟩:=ι
|x0l ζ=>Gr[X.base.get? ζ]
|xKm ζ η=>xxy ζ η ag xvU
|p9 ζ=>xs.length-ζ
|xSJ=>.builtin "object.__init__"
|xSK ζ=>CK.xss ζ p
|zt=>IR ek.symm
|CY=>FL p
|Dv=>.n 8
|ES=>s2 _ _
|F9=>Dk 1
|xSL=>I.base.free b
|xz1=>run a
|x80 ζ=>tots[pP ζ]
|o7 ζ=>A6 (ζ).length
|rm ζ=>Cc ζ Jab
|x81 ζ=>sD "many_signs" ζ
|xg ζ η=>x0d ζ[Hy η]
|cD=>chk 16 45
|BL=>π a
|zq ζ η=>Γ ζ[wpS_bind η]
|xKn ζ=>((ζ,.local))
|XR=>.n 64
|xKo ζ η=>congrArg Int.ofNat[IT ζ η]
|rV ζ η θ ι=>λ ζ η=>absurd θ ι
|xSM ζ η=>cutV ζ[some η]
|yfu=>((s.heap.push[seqObj "list" #[] 0]).update s.heap.objs.size (Obj.mapSeq (·++its.toArray))).push
|rj=>["reader"]
|BQ=>(bale T Rs).length
|bu=>Θ X.A.handled
|yR ζ η θ ι=>(NL.no ζ η θ ι rfl).elim
|yfv ζ=>xSw "list_iterator"[.fields ζ]
|xET ζ=>ζ=ps.length
|HF=>most S p
|xz2 ζ η θ ι μ ν ξ ο=>by(rcases ζ with⟨η,θ,rfl,ι⟩|⟨μ,ν,ξ,ο⟩)
|zk=>by simpa using z
|rh ζ η=>xzQ ζ[Gz η]
|p7 ζ=>(ζ).Pairwise DL
|Fl ζ η θ=>by have:ζ:=η;show DN this θ
|xSN ζ=>Walk ζ W.length
|o9=>X.env.qual++"<lambda>"
|zW=>Fv Hc Re
|rX=>.ref c
|Z0 ζ η θ ι μ ν=>by exact(ζ,η,θ,ι,μ,ν)
|o3 ζ=>(dx,ζ)
|xW ζ=>xlP[xru ζ]
|x0m=>KK κ
|xEU ζ=>tots[puts ζ]
|rS=>AS WF
|Iy=>Ρ Φ
|xz3 ζ=>BG "signs_check" ζ
|rK ζ η θ=>by rw [ζ,η];refine θ
|XQ=>Jh _
|xSO=>Option.map_eq_some_iff.1
|xz4 ζ η=>ω[IX ζ] η
|yx=>by exact .nil
|DJ=>nB T
|gj ζ η=>∀p∈ζ,η
|xEV ζ=>ζ≠s.heap.objs.size
|XO ζ=>by unfold ζ at h
|xKp ζ=>X.length-ζ
|xz5=>["_law_script"]
|xV=>.n 272
|zU ζ=>xKm xlN ζ
|VD ζ η θ ι=>DI ζ η Re θ Re ι
|Hb=>Array Qr
|o8=>K.In s.heap
|bU ζ η θ ι μ ν ξ=>by obtain⟨ζ,η,θ,ι,μ,ν⟩:=I.lstM ξ
|xEW=>mk3.take B.length
|Ha=>some v
|wx=>xF xs.length
|x82=>xEy C.length
|Ej=>FQ rfl
|Bq ζ η θ=>xyE K ζ η θ f fd
|Gg=>xuK K mg
|wu=>xET vs.length
|Hl=>s.heap.objs.size+1
|CQ=>Gs _
|xEX ζ η=>by obtain⟨_,ζ⟩:=Jf.mp η
|zL=>IR e.symm
|yQ=>pairs B
|o6 ζ η θ ι μ ν ξ=>by show(ζ=η,(θ,ι,μ,ν)=ξ)
|aS=>congrArg some
|Fu=>["before"]
|xKq ζ=>tots[pcP ζ]
|x83 ζ=>(Qs.take ζ).count
|Yf=>none_of s0
|VC ζ η θ=>(ζ,rfl,η,θ)
|wU ζ=>(Jx.mp ζ).elim
|Xn ζ=>by simpa [IU] using ζ
|Ft ζ η=>AS[CN ζ η]
|wL ζ η=>by have:=congrArg ζ η
|x84 ζ η=>Ob ζ η (Obj.mapFields (·.setIfInBounds 0 Value.none))
|yP=>xKa 1000
|Zg ζ=>ζ≤2000
|xSP=>us.map V.ref
|nV=>.v 5
|yO=>List LE
|Zf=>mX h'
|x0n=>I1.hok.fresh ρ
|Yz ζ=>SZ[hb ζ]
|x0o ζ=>(ζ).trans q
|Ei=>xvZ R1 g1
|gc=>IM SB
|xEY=>.Name x
|yw=>.ref e
|VB ζ=>by refine ζ;show Aj
|VA ζ η θ=>TD[(ζ).get? η] θ
|Ze=>Jg _
|YK=>by clear g2
|x0p=>List.mem_cons.1
|Fh=>Az xs
|Zd ζ=>II[Jx.mp ζ]
|nU ζ η θ=>(ζ,UF η θ)
|o5=>x0m xs
|nQ ζ η=>by rw [ζ,η];simp
|xz6 ζ=>by show ζ;decide+kernel
|Fd ζ=>none_of ζ nl
|FY ζ=>Ty (ζ).isSome
|Xi ζ=>CS ζ rfl
|FW ζ η=>HX ζ η ag
|x0q ζ=>λ _ _ z=>ζ
|V9 ζ η=>xxy xto ζ η xvU
|x85 ζ η θ=>show s.heap.IsTuple ζ η from θ
|DB=>JG _ _
|wG=>L.drop p
|wB=>wpS_get ?_
|x86 ζ=>.mod (m:=ζ)
|DY ζ η=>EM ζ _ η
|V8 ζ=>zP xlU ζ
|o4 ζ η=>Θ[(ζ).lookup η]
|yv=>lg 3
|IH=>HS 3
|xz7 ζ=>(L.take ζ).count
|xEZ ζ η θ ι=>by show((_,_,ζ)=η,θ=ι)
|wA=>xEH NameKind
|xz8 ζ=>call[.builtin ζ]
|vz ζ=>tC[.int ζ]
|xSQ ζ=>Q[.bl ζ]
|FU=>JE e
|xE0 ζ η θ ι=>holding ζ[getMethod η θ ι]
|FN ζ=>xe8 (C:=ζ)
|Cg=>[FR]
|xE1 ζ=>Rs.flatten++ζ
|Fg=>xEA 2
|Cf=>xED c
|D4=>Dl T
|Eh ζ η=>Δ[Af ζ] η
|V7 ζ η=>Hv ζ η s1
|Ge=>s3 _ _
|Ι=>Str->xZ5
|xz9=>.bool true
|V6 ζ=>ζ<X.length
|xAa ζ η θ=>TD[List.lookup ζ η] θ
|FJ ζ=>.m ζ Cv
|rG ζ=>E5 fp ζ
|W5 ζ=>zM ζ ag
|HE=>x9 8
|Zc ζ η θ ι μ ν ξ ο=>NL.xuB ζ η θ ι μ ν[IP ξ ο] rfl
|xE2 ζ=>List.replicate ζ a
|Iw ζ=>aE ζ hr
|gQ ζ=>xzZ Jab ζ
|Iv ζ η θ ι=>by show([ζ,η,θ],ι)
|o1 ζ η θ ι μ ν ξ ο=>by obtain⟨ζ,η,θ,ι,μ,ν⟩:=hf ξ ο
|xAb=>IR hlen.symm
|Za=>List Int
|yM=>ExC K
|xE3=>JC.mp hb
|x0r=>xwx false
|xKr ζ η=>(xs.extract ζ η).toList
|yK=>QH 0 0
|xE4=>["_law_number"]
|xU ζ η θ ι μ=>by rw [ζ] at η;have θ:ι:=μ
|DA=>Ii b o
|xAc=>Nat.not_le.2
|x87 ζ=>ζ==Value.none
|FG=>Option Qq
|rE=>aK xtm
|FE=>G.map vN
|FA=>Ty X.calm
|Gd=>tl T
|Uu=>by simpa using h1
|xE5=>H' b
|eI ζ η θ=>ae[x8O ζ η θ]
|rW ζ=>by exact QK.of ζ
|ZT ζ η=>ω Zk[xzK ζ η]
|UD=>exO cls vs
|mq=>xeH κ
|x0s=>SM.QU SG.kInt.blt
|xAd ζ η=>by show(ζ,η)
|rT ζ=>by exact(ζ).elim
|xKs ζ=>.int[kf ζ]
|Hj=>Az rU
|Υ=>H a
|yfw=>(s.heap.update T (Obj.mapFields (·.setIfInBounds 3 Value.none))).objs.size
|Fb=>JB _ _
|V5=>.sg s
|nz ζ=>ζ<a.size
|yfx=>wpS[model prog w]
|dz ζ η θ ι μ=>xxw ζ η Z7 θ ι μ .nil
|xAe ζ=>x87[Value.ref ζ]
|Ga=>Q4 _ _
|SW=>.n 1000000
|rR=>QV.of ht
|xKt=>b.toList.drop ib
|vT=>IR hlen
|Eg ζ=>CN ζ 8
|SP ζ η θ ι=>by obtain⟨ζ,η,θ,rfl⟩:=ι
|V4 ζ=>Θ[mg ζ]
|V' ζ η θ=>by show wpAny _ ζ η _ _ θ
|x0t ζ η=>xEx ζ[.fields η]
|rD ζ=>ae[aB ζ]
|gP=>sf 0
|vJ=>aj UW.symm
|yu ζ=>by simp;exact ζ
|HC=>IL e
|xSR=>.fields vs
|xAf ζ=>.seq (ζ).toArray
|DO=>q.1
|x0u=>Builtin.Tuple.tupleExact _
|x88 ζ=>X.A.units+ζ
|xAg=>xla κ
|gG ζ=>W13.RF ζ It
|gE=>["number"]
|gD ζ η=>by unfold ζ;show Gp η
|D2 ζ η=>rN[F.ok ζ η] _
|fu=>(Gl).take
|nr=>x0j kf
|x0v=>xe9 JO rfl
|xKu=>Ig "signs_check"
|rC=>Jd h
|iw=>ST b
|xKv ζ η=>Value.ref ζ::η
|xKw ζ=>by obtain⟨_,_,ζ⟩:=z9
|xKx ζ=>by(rcases u with _|_|_|_|ζ)
|xKy=>["_law_script","_law_k"]
|yI ζ η=>by refine Cm ζ η
|Ef ζ η=>(ζ,rfl,η)
|x0w ζ=>ζ="rest_size"
|nL ζ=>ζ="finished"
|nK ζ η θ=>x0v ζ[x8S η θ]
|Ub=>cn Q
|F8 ζ=>I.hok ζ _
|xAh=>Value.bool _
|xKz ζ=>ζ+As.flatten.length
|xKA=>tail.drop m
|xKB=>R.take i
|xAi=>List W13.Itm
|xSS ζ=>S.length<ζ
|xST=>A.map vN
|mY ζ=>by rw [IS,ζ]
|yt ζ=>.a ζ Cv
|Ua ζ η=>by rw [IS,ζ] at η
|UU=>x0b wt
|GZ=>q.2
|nJ ζ=>ζ≤L.length
|HB=>2*L.length
|F6=>vN n
|yfy=>(s.heap.update T (Obj.mapFields (·.setIfInBounds 3 Value.none))).get?
|xAj ζ η=>["self",ζ,η]
|x0x=>Nat.lt_sub_iff_add_lt'.2
|rP ζ=>.ref[os ζ]
|F7=>oa H'
|xKC ζ=>Gr[H2 ζ]
|Rk ζ η θ=>xeL ζ η scope θ fp
|eQ ζ=>κ.blt[o5 ζ]
|x0y=>xsy cH cK cB cT
|Ee ζ η=>∀y∈ζ,η
|Hi=>plc Rs j
|yG=>Jr ?_
|yF=>X.mg x
|Rj=>by simpa using h
|xKD=>pendingOf sq0
|Ed=>.ref d
|eA ζ=>AV[EU ζ]
|Df=>Txt K mg
|yE ζ η θ ι μ ν=>Bj ζ η θ SB ι μ ν
|Ec ζ η θ=>by show ω ζ η;refine θ
|nD=>xvT prog w A
|xAk ζ η θ ι=>codeAny ζ η[.call θ ι]
|xE6 ζ=>QJ ζ X.A
|RB=>λ _=>true
|xAl=>s6.trans s7
|yfz=>Dn ((Z'.map[λ z:Qq×Bd=>((((z.2.1:Nat):Int),V.ref z.1))]).map (·.2))
|xS ζ=>zP xlW ζ
|xAm=>xES i
|Ea ζ η θ=>by refine ζ;show LT η θ
|Iu ζ η θ ι μ ν=>by show(ζ=η,SC θ ι μ ν)
|rA ζ η θ ι=>DI ζ η SL θ SL ι
|yfA ζ=>h1.push[seqObj "tuple" its.toArray ζ]
|nA ζ=>At κ ζ pe
|dD ζ=>DQ[DQ ζ]
|yfB=>I.base.keep b
|xSU=>σ.set i
|F2=>List Itm
|qi=>kf x
|d4=>.dT []
|mW=>nb A'
|de=>Az ys
|F5=>[AO]
|xSV=>kitOne K
|xE7=>Zr T'.length
|D9 ζ=>by refine Gy ζ
|D1 ζ η=>rN[F.F.ok ζ η] _
|yr ζ η θ ι=>Ay DU Re[.n ζ] η θ ι
|xKE=>["_law_cell","_law_k"]
|UT ζ=>ζ->xvW
|EE=>UT St
|xKF=>Loc X.env.scope
|xAn ζ=>autoParam ζ xeR
|xKG=>AllBare s'.gens
|xSW=>D.nx σ
|yq=>IR hl
|x89 ζ=>its.toArray.size=ζ
|RA=>IR h.symm
|xKH ζ=>ζ+Y.length
|xAo ζ=>K27.Ck.cpy ζ b
|FZ ζ η θ=>Zw z ζ η θ
|cF=>Zv 64
|iV=>BE Re
|iK=>BZ 1000
|rO ζ=>ζ->BY Qu
|Ak=>rO Qr
|xSX ζ=>B.length≤ζ
|yp=>Ξ xi
|bq=>W5 ag
|xAp ζ=>Nat×ζ
|gO=>xAp Nat
|GF ζ=>mk3++ζ
|F1 ζ η θ ι μ ν ξ ο=>(ζ,η,θ,rfl,ι,μ,ν,ξ,ο)
|gA ζ η θ=>by rw [ζ,η,θ];rfl
|Ez ζ=>xrx ζ Z7
|ER ζ=>xxv ζ df
|bh ζ η θ ι=>Due ζ η[.thing θ ι]
|Q9 ζ η θ ι=>by obtain⟨ζ,η,θ,ι⟩:=h
|Q8=>(xv3).toList
|xAq=>Iz WF WF
|fw ζ η θ ι μ=>υ ζ[Dn η θ] ι μ ad
|ak ζ η θ ι μ ν ξ=>by show((ζ,η,θ)=ι,(μ:ν)=ξ)
|yD ζ=>xzK g1 ζ
|qc ζ η=>xz4 ζ[IX η]
|xAr=>["thing","most"]
|xSY ζ=>Heap.SameBut ζ s.heap
|x0z ζ η θ=>by obtain⟨_,ζ,η,_⟩:=I.ok.funs.mem θ
|xSZ=>λ _=>none
|EK ζ η θ=>by show([ζ,-η],θ)
|x9a=>.fin true
|US ζ=>ζ≤64
|xAs ζ η=>by obtain⟨ζ,η⟩:=h
|xQ ζ η=>by have:ζ:=η;subst this
|yC ζ=>[.ref ζ]
|xKI=>xEL wt bg
|xAt=>xKH X.length
|Iq=>vN s
|De ζ η θ ι μ ν ξ=>Sc ζ[η≠θ] ι μ ν ξ
|EO=>h.1
|EJ=>by rintro rfl
|xS0 ζ η=>.BoolOp ζ η pos
|xE8 ζ η=>.Subscript ζ η pos
|D8=>.int j
|Mh ζ=>tOp[xwj ζ]
|xKJ ζ η=>TD[bootBuiltins ζ] η
|ED ζ η θ ι μ ν=>Bj ζ η θ Re ι μ ν
|gu ζ=>two[cD ζ]
|yo ζ η θ ι μ=>(ζ,η,θ,rfl,ι,μ)
|vB=>QK K H
|mx=>xe6 I q
|fk=>mx Z6
|Bm ζ=>λ b hb=>ζ
|xS1 ζ=>.cons ζ ih
|x0A ζ η=>by obtain⟨_,_,_,_,o,_,_,ζ,_⟩:=η
|xE9 ζ=>I.base.slot ζ o
|xS2 ζ η=>by simp only [List.lookup,ζ,η]
|Mg=>.dT QN
|xKK ζ=>Ln ζ I.kIn
|xAu=>kv.zip its
|xFa=>.n 16777216
|xS3 ζ=>Gr[s₁.heap.get? ζ]
|m6=>Zv 2
|D7=>BE Rn
|yn ζ=>qk ζ bi
|wI=>BO ag
|xFb=>["before","most"]
|EC ζ=>(ζ).count p
|ym ζ=>IP[IR ζ]
|xFc=>I.pin p
|xKL=>False.elim z
|vA=>Js _
|xFd=>cxHand X
|xS4=>congrArg Nat.succ
|xS5=>Nat.lt_one_iff.1
|xKM=>du QN
|xKN=>xeF Tb
|xS6=>mk3.take L.length
|x9b=>hN.gb hb
|xKO=>["_law_thing"]
|mw ζ η=>Γ ζ[IX η]
|xFe=>xF QN.length
|xS7=>xwd τ
|qa=>gk H1
|xFf ζ=>ζ="signs_check"
|xKP=>Ig "rest"
|x9c=>xyA CO CK
|xS8=>a.toList.drop ia
|af ζ=>ζ<xs.size
|vd ζ=>Jq ζ e1.symm
|x0B=>.type "StopIteration"
|pf ζ=>ST (ζ).length
|aV ζ η θ ι=>xzN ζ η θ[I.tuple ι]
|IG ζ=>∃f fd,ζ
|mj ζ η θ ι μ ν=>by show((ζ,η)=θ,(ι:μ)=ν)
|tI ζ η=>by refine ζ;rw [η]
|Io=>JD _ _
|xFg ζ=>I.ok.bs ζ o
|xS9 ζ η=>attributeBase ζ η X.env
|xFh ζ η=>{X with pn:=ζ,xe:=η}
|Im=>KB _
|gU=>IZ rfl
|xKQ ζ η θ ι μ ν=>by(injection ζ with η;injection θ with ι μ ν)
|FX=>A6 0
|qK=>pv 5
|xTa ζ η θ=>by obtain⟨_,_,ζ⟩:=η;refine θ
|yfC=>AJ ((backTo pos[starEach[e:: []] X.env]).any (·.1)=false)
|xAv ζ=>zP xlR ζ
|aT ζ η=>sV rfl ζ η
|xTb ζ=>x8R ζ .local
|xKR=>.type "tuple"
|mV ζ η θ ι=>SC ζ η θ[wpS_bind ι]
|xTc ζ=>λ _ _ q=>ζ
|lP ζ η=>by show ζ;rw [η]
|xwA ζ η θ=>by rw [ζ] at η⊢;exact θ
|tH=>QH a n
|x0C=>s.heap.FunFrames base
|xAw ζ=>HA[ζ<1000]
|mv ζ=>tots[pR ζ]
|xTd ζ η θ=>by obtain⟨⟨old,ζ⟩,η⟩:=θ
|xFi=>s3.trans s4
|qJ=>IV 64
|xTe=>S.drop W.length
|UR=>.n 14
|xFj ζ=>Θ[failedOf ζ]
|UQ ζ=>Θ[H1 ζ]
|uK=>Az sO
|xKS=>x9 64
|xAx=>Ax "size"
|yB ζ η=>II[JY ζ η]
|xTf ζ=>some[.builtin ζ]
|xKT=>Eg SB
|tG=>.a SB
|G9 ζ η θ ι=>Sc e1 ζ η e2 θ ι
|xwB ζ=>AS[AS ζ]
|Il=>A6 1
|xFk=>by simpa using hu
|xFl=>by simpa using hy
|gN ζ η=>x3 ζ η this
|xwC ζ=>R.length≤ζ
|dC ζ η=>by show ζ;exact η
|Ff=>xse T Rs
|xTg ζ η=>by refine xwe[Kb.mpr ζ][JT η]
|xKU ζ=>I.base.tups ζ xs
|xKV ζ=>I.base.tbls ζ ps
|xFm ζ=>(o.slots,ζ)
|EB=>List QA
|xFn=>V.int 0
|yfD=>Nat.not_le.1
|aD ζ η θ ι μ ν=>by obtain⟨ζ,η,θ⟩:∃ι,μ:=ν
|Yp=>IR this
|xKW=>xtg wp16
|xAy=>Y.drop pl
|yA ζ=>DN e ζ
|Y6 ζ=>Fv ζ SB
|Xg=>EL 3
|xKX ζ=>xzU ζ H'
|D5=>.n 4
|cm ζ η θ ι=>(_,ζ,η,θ,ι)
|yk ζ η θ ι=>(ζ,H,η,θ,ι)
|yj ζ η=>ac ζ[Gz η]
|CE ζ=>FW xza ζ
|xwD=>S.pos Ub
|xTh=>List Key
|fj=>KU _ _
|G8=>J5 _ _
|xKY ζ=>Lp (I:=ζ)
|xKZ ζ=>ζ<b.size
|xAz ζ η θ ι μ=>by obtain⟨ζ,η,θ,rel,ι⟩:=μ
|xTi ζ η=>by obtain⟨_,_,ζ,GT'⟩:=η
|xFo=>mg "Behind"
|xO=>Az sZ
|xK0=>.type "list"
|fK ζ η=>Μ ζ η e
|gK=>.a Β
|UO ζ η θ=>VD DU ζ η θ
|yfE=>xy2 κ left key arr
|X4=>s4 _ _
|Ey=>k _
|xAA ζ η=>L.filter[λ ζ=>η]
|WO=>Ξ Cv
|gC ζ=>Ik t ζ
|C7 ζ η=>by have e:ζ:=η
|xAB ζ=>some[.int ζ]
|xK1=>xES ds.length
|fq ζ=>Ls ζ σ H
|xTj=>["_law_row","_law_cell"]
|xwE ζ η θ ι μ ν ξ ο=>by obtain⟨ζ,η,θ,ι,μ,ν,ξ⟩:=x9b ο
|G7 ζ η=>((ζ,vN η))
|IF=>bO 0
|xFp=>xdi X
|x0D=>putF f
|uJ ζ=>IY ζ Z9
|xTk=>.type "object"
|xFq ζ η=>QJ ζ[A.deeper η]
|xwF=>by unfold cutV
|yfF=>s.heap.update a
|fo=>krf 12
|Bw ζ=>by exact Jr ζ
|dt=>some x
|dQ=>XN 3 1
|xAC=>Q .non
|Br ζ=>aE ζ QW
|yi=>gk H2
|cX ζ η=>by have:=ζ;show xSE η
|bo=>256^B.length
|xK2 ζ η θ ι=>by show((ζ,η,_)=θ,ι)
|bX=>xKI fn
|xwG ζ η=>(show ζ from η)
|WM ζ=>(MG ζ).symm
|y9=>sm _ _
|kj=>s6 _ _
|Hh=>AL b
|kh ζ η θ ι=>by rw [ζ,η,θ,ι];rfl
|X3=>h _
|xTl ζ=>ζ=s.heap.objs.size
|xK3=>IR hsz.symm
|x0E=>ta σ
|x0F=>s.heap.IsSliceOf sl
|x0G=>.cp b
|x9d=>IR hma.symm
|mi=>kv.1
|yfG=>AJ ((backTo SN[starEach es X.env]).any (·.1)=false)
|yfH ζ=>mk3.take (ζ).length
|y4=>ao bv
|y0=>Az xEE
|yfI ζ=>A.under[.builtin "type.__call__" ζ]
|xFr ζ η θ=>TD[findIn ζ η "__init__"] θ
|BK ζ=>by exact BV ζ
|ka ζ η θ ι=>(ζ,λ η θ=>ι)
|xTm=>xxP X.prog X.w X.K X.mg X.base
|x9e=>xsv Ce CO CK
|x9f ζ η θ=>swapsWith ζ η θ X.env
|x0H ζ=>I1.kept (t':=ζ)
|xTn=>by dsimp only;split
|x9g=>.error e
|x0I=>by split at h
|Vb=>fW d
|xwH=>X.drop m
|xTo ζ η=>((As.flatten.length,ζ,η))
|E7 ζ=>ζ+T.length
|xK4=>mg "BadBody"
|x9h=>tailR m
|kZ=>π f
|EZ ζ η θ ι μ=>jK [_,_,_] ζ η θ ι μ
|Hg=>B7 b
|mh ζ η θ ι=>NL.no ζ η θ ι rfl
|xK5 ζ=>envOfC qual ζ s.heap.objs.size
|BI=>BZ 3
|E6=>sgl wt
|xAD=>b.drop s
|xFs=>model X.prog X.w
|UN ζ η θ ι μ=>by have ζ:η:=θ;rw [ι] at μ
|BH=>JW _ rfl
|x0J=>xsz X QD
|DX ζ=>λ x hx=>ζ
|xFt ζ=>Value.int ζ t
|xAE ζ η=>by(injection ζ with η _)
|xFu ζ η θ=>(I.hok ζ η θ).stay
|x9i ζ=>{s with toks:=ζ}
|Dx ζ η θ=>show ζ∈η from θ
|xwI=>am nl
|xAF=>C9.Good L
|xAG=>.done rfl
|tF=>Aw SB
|xFv ζ=>oA[vN ζ]
|xAH=>x8T "copy"
|xwJ=>lz this
|xFw=>Ax "text"
|bM=>model prog w
|xAI ζ η θ ι μ=>by have ζ:η:=θ;generalize ι=μ at*
|Bz ζ η θ=>by unfold ζ;show LT η θ
|AP=>sf 2
|me ζ=>(Zo ζ)
|tD=>zU Bb
|xK6 ζ=>CN ζ 11
|xK7=>Value.ref b
|pY ζ η=>by refine ζ;have:=η
|qH=>Ze e
|xJ=>A6 i
|yfJ=>Lm (Obj.mapFields (·.setIfInBounds 3 Value.none))
|x9j=>J.stop i
|x0K=>min 66
|AI=>bp ?_
|xK8=>arrOf st'
|UE ζ=>ζ<R.length
|xFx=>["bundle"]
|U9=>hP L
|xK9=>s5.trans s6
|xAJ=>by cases h1
|xwK=>Array xZ5
|AB=>Ty ok
|u9 ζ η=>Cs ζ j η
|xTp=>xvV its.toArray
|vk ζ η θ ι=>xEC ζ rfl η θ ι
|Bu ζ=>HV g1 ζ
|bE=>BZ 64
|xAK ζ=>by exact JT ζ
|xwL=>field pj
|xFy ζ=>ae[x0i ζ]
|sr=>x8Z 192
|xwM ζ η θ ι μ ν ξ ο=>by show((ζ:η)=θ,(ι,μ,ν,ξ)=ο)
|xLa ζ=>λ i j=>.int ζ
|xFz=>QK X.K H
|xFA=>none_of s1
|x0L ζ=>ζ=xs.length
|Bh=>.ref b
|vj ζ=>ζ≠p
|xLb=>Gy rfl
|cj ζ η θ ι=>∀{ζ} {η},θ->ι
|rZ=>.tbl ps
|xLc ζ η θ=>by have ζ:=(η).symm.trans θ
|FV=>s _ _
|xAL ζ=>by unfold ζ at h⊢
|xLd=>Option Bool
|xFB ζ η=>B.take[max ζ η]
|xTq=>TD X.env.frame X.env.locals
|xLe ζ η=>TD[cl.lookup ζ] η
|TZ ζ η θ=>rN[F.okE ζ η] θ
|xFC ζ η=>Ty[makesIn ζ η]
|xy=>by cases h
|xAM=>Ig "way"
|xFD ζ η=>xvj ζ[xLa η]
|xFE ζ=>.ListComp elt ζ scope pos
|sk ζ=>JS ζ Z9
|xLf=>by simpa using hp
|UM=>far p
|xTr=>by simp;assumption
|sj=>xx9 C
|xLg=>s.trans s2
|G6 ζ η θ ι μ ν ξ=>Bx ζ η θ Re ι μ ν ξ
|Rh ζ η=>.bl[HY ζ η]
|TQ ζ=>sF ζ nl
|f9=>xSA C
|yfK=>(tl T).take
|BF=>yfK 9
|kB=>IJ H1 []
|fV=>.inr qg
|UK ζ=>DT 64 ζ
|oR ζ=>V9 Η ζ
|xLh ζ η=>(xKv ζ η).contains
|bD=>Ey _
|x0M ζ=>(rel.val ζ).isSome_eq
|vg ζ η=>∀H',ζ->η
|pX ζ=>vg Χ ζ
|BB ζ=>pX[xKX ζ]
|kJ=>List QC
|pW=>PSs X
|xw=>e::es
|x9k ζ=>I.kept (t':=ζ)
|x0N ζ=>by obtain⟨_,_,_,ζ⟩:=hs
|xLi ζ=>autoParam ζ xeS
|xAN=>bitsP ps
|xLj=>["bundles"]
|RC ζ=>by have:ζ:=rfl
|pO ζ=>ζ="group"
|Ap=>hN.1
|xLk ζ η=>Cs ζ η Value.none
|x0O=>putF "many_signs"
|ay=>IL ha
|oQ ζ=>aj[Af ζ]
|kH ζ=>by rw [Jw] at ζ
|Qt=>XQ hy
|xTs=>["singles","most"]
|Gw ζ η θ=>by show Fx ζ η;refine θ
|xFF ζ η θ ι μ ν=>cxOf ζ η θ ι μ base ν qual
|x0P=>List.replicate GZ
|Gv=>.ref o
|qG ζ η θ=>HH Re ζ Re η θ
|oP ζ=>V' _ ζ s
|UJ ζ=>(xZ7 ζ).1
|qE=>UF b hb
|xFG=>Lb _
|xFH ζ η=>λ _ ζ=>nomatch η
|Gu=>PA X
|xTt=>ixN xs.length
|x0Q=>wpAny_newList ?_
|xAO ζ=>ζ<ns.length
|ax=>c.1
|aY=>ed L
|xAP=>BP.val R
|xTu=>s.heap.get? b
|A9 ζ η=>mZ h ζ η
|Al=>xzM q
|x0R ζ=>xSu ζ .local
|x9l ζ=>ζ=.function
|xLl=>x9l scope.kind
|pN ζ η=>xe5[x8S ζ η]
|A8=>DT 2 Re
|bw=>h.2
|Ab=>SZ[nomatch z]
|uz ζ η=>mQ ζ p CO η
|xAQ ζ η=>Ft[Ρ ζ] η
|aM ζ η=>IP ζ[IR η]
|Gq=>L.length=272
|xFI ζ=>Gy[Gz ζ]
|Aa ζ η θ ι μ ν=>(ζ,η,θ,rfl,ι,μ,ν)
|fU ζ η=>x9c ζ η ck
|pL=>al S p
|fQ ζ=>o.data=ζ
|xTv ζ=>IsRangeIter ζ it
|eG ζ=>eval ζ env
|eE ζ=>S.length-ζ
|xLm ζ=>Walk ζ p
|Gm=>LF Z9
|xTw ζ η=>xs.toList.take[ζ+η]
|xFJ=>Y'.take l
|xFK=>Y'.drop l
|xAR=>.n 4000
|X2=>x8P x c
|x0S ζ η=>wpS_bind[xrv ζ η]
|A4=>Hy z
|xAS=>EL 1000
|Gf=>x9 2
|UI=>lg 1
|uu ζ=>xzS t' ry ζ
|x0T ζ η=>I.fpOk ζ[I.hok.fresh η]
|xFL ζ η=>Gs (ζ,.inr η)
|Fz=>sN 3
|xLn ζ=>backTo pos[xG ζ]
|xAT ζ=>us.length=ζ
|dS ζ=>(ζ).count q
|AR ζ η=>by rw [ζ,IQ,η]
|UH ζ η=>(ζ+η).toNat
|HP ζ η θ=>by show(C7 ζ η,yA θ)
|xLo=>Ig "begun"
|x0U ζ=>ha QD ζ σ
|xFM ζ=>nD ζ Q E
|x9m=>Value.ref g1.objs.size
|UG=>aj hb
|x9n=>s.heap.FunFrames X.base
|xLp ζ=>{X with H₀:=ζ}
|kG ζ=>by have:=ζ;lia
|Wu=>val B
|wM=>rl T
|dH ζ=>B.length+ζ
|xFN=>S.take p
|xLq=>Jt.mp h.s1
|xLr=>Jt.mp h.s2
|xFO=>["piece"]
|xAU=>.ref c'
|x0V=>plainId_quiet LK
|k8 ζ=>r.length=ζ
|xTx=>["many_signs","signs_check"]
|xAV=>["bale"]
|oO=>.er c
|xAW=>V.ref l1
|xv ζ η=>Cs L ζ η
|xFP=>.inr rfl
|eh=>RelV v u
|Wt ζ η θ=>XM ζ[jA η θ]
|eg=>Cc 1
|pJ ζ η θ=>by refine(ζ,η,θ)
|wK=>.m 64
|xAX=>Θ xE5
|xAY ζ η=>sV ζ η rfl
|pI ζ=>by rw [ζ];lia
|oN=>xuL X QD σ Q
|Ws=>ll _ si si
|xAZ ζ η θ=>Gp[KJ ζ η θ ?_]
|aH ζ η θ=>by show(ζ=η,θ)
|eN ζ η θ ι μ=>by show((ζ:η)=θ,ι=μ)
|xTy ζ η θ=>fnOf ζ η[xrw st][xtk st] AY θ kV
|aF=>yfr 0 lo
|xA0=>xy1 r H
|Wq=>xA0 H'
|xA1 ζ η=>xuF ζ η p d
|pH=>s0 _ _
|xLs=>xlb cM cH cK cB cT cL
|CU ζ η=>(∃ζ,η)
|xLt=>by simpa using e
|x0W=>λ _ _ _=>False
|uq ζ η=>∀ζ H',η
|dF=>.dK QN
|x9o ζ=>(items.toList.drop ζ).take
|xTz=>ps.map V.ref
|x9p ζ=>(s1.heap.push ζ).objs.size
|wJ ζ η=>((none,ζ,η))
|k7 ζ=>(Ku.mp ζ)
|Wm ζ=>((none,ζ))
|x0X=>h1.symm.trans e
|pF=>.ref h
|iL=>am hp
|xTA=>ns.map V.bl
|qB=>π l
|xA2=>lX Η
|d9 ζ=>Zr[sz ζ]
|u7 ζ η θ ι μ ν ξ=>Q6 ζ η θ ι rfl μ ν ξ
|kS ζ η θ=>(Fj ζ η θ)
|xTB=>AL Pp.length
|iJ=>xKj Η
|Wl ζ=>xzK g ζ
|d7 ζ η=>if ζ then 1 else η
|iF=>exO C4 vs
|jv ζ η θ=>xSM ζ η[some θ]
|X1 ζ=>(Dl ζ)
|xFQ=>QK.of ad
|oM ζ η=>IP[IV ζ η]
|HL=>by exact q
|WQ ζ=>LT e ζ
|iD=>SZ[hz xv6]
|x0Y ζ=>O4 ζ isSubtype_stop
|yfL=>IsTup s.heap
|x9q=>s.heap.Ns X.env.locals
|cy=>X.pn++QD
|x0Z ζ=>X.env.scope.kind==ζ
|x9r=>J.yld i
|x9s ζ η=>λ ζ s3⟨z,H3,I3,r3,k,e,q3⟩=>η
|xTC=>List Keyword
|x9t ζ η=>Builtin.Slice.slicePlaces ζ η 1
|x00 ζ=>subscripted ζ false
|xA3=>Jd h1
|iC ζ η=>(ζ).getD η 0
|xTD=>ok_needrow N
|xLu=>Mx.mp this
|x9u=>b.extract ib
|gw=>JK hx
|x01 ζ η θ=>(ζ).eraseIdxIfInBounds[η+θ]
|x02=>SM.QU SG.ltI
|HK=>b.1
|xw0=>V.ref q
|gn=>Good L
|xLv=>W13.Walk L
|xTE ζ=>((ζ,.cell))
|x03 ζ=>((ζ,.globalImplicit))
|Zz ζ η=>LT[Jk ζ] η
|xA4=>.ref ea
|jr=>.n 2
|gh=>BY Nat
|xw1 ζ η=>pG ζ[.own η]
|xFR=>xEy 272
|xLw=>by cases ry
|xTF=>call HW
|gZ=>HS 2
|xFS ζ=>AS[HS ζ]
|xw2=>tots sU
|oJ ζ η=>κ.blt[sW ζ][sW η]
|yfM=>κ.blt[sW key]
|oI ζ=>.a ζ Rn
|zw ζ η=>sS ζ η s
|xw3 ζ η=>zB ζ[.own η]
|jj ζ=>(ζ).drop 3
|wH ζ=>Dn[A5 ζ]
|uo ζ η=>mQ ζ p C η
|xTG=>Q[.int ys.length]
|xw4 ζ=>ζ->Bool
|xw5=>UT Bool
|HJ ζ=>(ζ:CI).Nodup
|xFT ζ η θ=>by obtain⟨u,ζ,η⟩:=θ
|xFU=>QK.of hB
|x04=>.int hi
|wF=>X3 _
|xFV=>U9 Pp
|xA5=>xwl P w
|qA=>sp vs H Q E
|xTH=>fs.lookup f
|x05=>Vis X.env.scope
|x9v ζ η θ ι=>{ζ with heap:=h',gens:=η,drawn:=θ,toks:=ι}
|x9w ζ η θ=>by obtain⟨ζ,⟨η,_,_,θ,_⟩,_⟩:=I.loc
|x9x=>I.mod.glob.keeps I.bk
|xTI ζ=>A.units+ζ
|xLx=>ps.zip us
|x06=>Option NameKind
|x9y=>s.heap.IsList p
|Zy=>bZ ?_
|xLy=>xzu.refl _
|xFW ζ=>xrv (i:=ζ)
|x07=>SG.ord SG.kInt
|xA6=>codes L
|x08=>putF "finished"
|xw6=>four m
|x09=>["_law_told","_law_text_here"]
|jf ζ=>by have X:=ζ
|xw7 ζ=>by rw [ζ] at hj
|xw8 ζ η θ=>by show([-ζ,η],θ)
|xA7 ζ=>aZ[λ _=>ζ]
|oH ζ=>qw ζ rfl
|xFX=>DT 64 Re
|x1a ζ η=>.lst[pM ζ η]
|zv ζ=>AD ζ x
|xLz ζ=>Θ[X.mg ζ]
|xTJ ζ=>xKK ζ True.intro
|xTK=>["_law_row","_law_at","_law_bit"]
|bf=>g2 _ _ ?_
|kx ζ η θ=>.a ζ[xEA η θ]
|Fc ζ=>Q ζ H
|xTL ζ η=>NL.le ζ η c.length
|u6=>z.1
|xw9 ζ=>by obtain rfl:=ζ
|x9z ζ=>ζ++Eb.reverse
|gF=>Q5 0
|x1b ζ η θ=>by simp only [ζ,η,or_false] at θ
|u5=>π p
|xu=>A6 k
|xTM=>A6 W.length
|je ζ η θ ι=>TD ζ[.ins η θ ι]
|oG=>xzJ X
|tq=>b.2
|bY ζ=>∃m',ζ
|x9A=>xs.toList.Pairwise DL
|tZ=>x0c 0
|g8 ζ η=>by refine xwe ζ η
|x1c ζ=>s2.heap.push[xKf ζ]
|xFY ζ η θ=>.cons ζ[.cons η θ]
|jc ζ η=>dig[xEP ζ η]
|tT ζ=>mO _ rfl _ rfl ζ
|jC=>rem T Rs
|IE ζ η=>∃t,TD[mg ζ][Ud η]
|uj=>xFp x
|jb ζ η θ=>by unfold ζ;rw [η,θ]
|xTN ζ η=>tupleKind[xxA ζ η]
|kI ζ η=>λ ζ H1=>η
|ku ζ η=>t σ H[kI ζ η]
|xTO=>IR l1.symm
|xLA ζ=>xeI ζ Z7
|fJ ζ=>aA[xfs ζ]
|xLB ζ=>IZ[xuE.mpr ζ]
|x1d=>RK.k.trans hk
|xTP=>pos C
|xLC=>Rb.map vN
|yfN ζ=>wpAny_handleBy_cons[codeAny_handlers_test ζ]
|xFZ=>.ref cd
|xF0=>.n 1800
|eJ ζ=>xzM[th ζ]
|xLD ζ=>Gr[H1 ζ]
|xF1=>BE SL
|ja ζ η θ ι=>.inr (ζ,η,θ,ι)
|xF2=>HQ WF
|dn=>A5 Gl
|oF=>sf 1
|ic=>sN 5
|xF3=>.n 1900
|iZ ζ η=>num[(b.drop ζ).take η]
|wD=>.bl k
|xTQ ζ=>Ge[ES ζ]
|dY ζ=>IY[IR ζ]
|xLE=>start N vs
|x1e=>["_law_row","_law_way"]
|oE=>.frz o u
|wC=>x0G y
|xF4=>["signs","size","end"]
|xF5 ζ η θ=>by show([-ζ,-η],θ)
|EN ζ η=>(∀ζ,η)
|x9B=>s.heap.IsListIter it
|xLF ζ η=>seqItems? ζ>>=η
|ki=>PS X
|Wk=>Kp _
|Dt=>[x]
|xF6=>Sem Bool
|ke=>x.1
|xTR=>Decidable c
|x9C=>ys.toList.map (·.1)
|oC=>ExI K
|xTS=>by simpa using hP
|iX=>stAt L
|xF7 ζ η θ ι=>by rintro ζ η⟨θ,rfl,ι⟩
|xA8 ζ=>S.length=ζ
|xTT=>QU.mem O
|xTU=>QU.trans ?_
|bQ ζ η θ ι μ ν ξ=>(rfl,ζ,η,θ,ι,μ,ν,ξ)
|yfO ζ=>h4.update ζ (Obj.mapSeq λ _=>out.map (·.2))
|xTV=>by simpa using h0
|x1f=>congrArg V.int
|xA9=>row L
|xLG=>.tbl #[]
|xF8=>["head"]
|xLH ζ=>by simp [ζ,bitsP]
|xBa=>nb F'
|ir=>by unfold nB
|xF9=>V.ref l3
|xBb=>.w Re
|xt=>A6 m
|dW=>by rw [ec]
|xGa=>x.2
|xGb ζ η θ ι μ ν ξ=>by show υ ζ η θ ι μ;generalize ν=ξ at*
|oB ζ η=>LT[Ju ζ] η
|dG=>by rw [e1]
|xGc=>(Gl).drop
|nN=>Az sR
|ug=>xEH V
|xTW=>K27.C.bt R
|xBc ζ η θ=>upd ζ η[.own θ]
|xTX=>AL T.length
|xBd ζ η=>ζ≤(η).length
|mz=>xG es
|xBe=>xEY pos
|xLI=>x0q z
|iW=>.bl b
|HD=>.m 8
|ue=>AD xs x
|mn=>F7 s'
|xLJ ζ=>ζ++Rs.flatten
|xLK=>xyC X.prog X.w
|xLL ζ=>(ST ζ).toNat
|xBf ζ=>V8[xAv ζ]
|w8 ζ=>by rw [Jk ζ]
|w6 ζ=>by rw [Ju ζ]
|iU=>uM P w K QM
|zr=>Vb r k
|Gb ζ=>LT Jc ζ
|GV ζ=>LT IQ ζ
|ip=>by unfold nb
|w4=>QV K H
|xGd ζ=>E9[qh false ζ] JF
|ml=>xG xw
|xBg ζ η=>bitsP ζ++η
|d6 ζ η θ=>Dh SL ζ SL η θ
|GQ=>st _ _
|cU ζ η=>(ζ).toList=η
|xLM ζ η=>W ζ m' η σ3
|ik ζ=>(ζ).stop i
|xTY ζ=>.Attribute ζ f
|xBh=>mroIn K
|xr ζ η=>∀u∈ζ,η
|xLN ζ=>(ζ).getD none
|x1g=>by exact Nat.one_pos
|xTZ ζ=>a.extract ζ na
|xT0 ζ=>b.extract ζ nb
|xLO=>Q.count q
|xLP=>["signs"]
|xLQ ζ=>tryCatch ζ _
|xLR=>Y.map vN
|xLS=>QV.of ht6
|xT1 ζ=>min ζ T.length
|cJ ζ=>DV mk3 ζ
|xLT=>(Fy).trans
|xBi ζ=>ζ=S.length
|GJ ζ η=>Hf H2 ζ η
|xBj=>List He
|ID ζ η θ ι μ ν ξ=>DS ζ η θ[DS ι μ ν ξ]
|Wj ζ=>xzt X[compareOp ζ]
|pz ζ=>autoParam[¬ζ] xeP
|xBk=>xKn ".0"
|xLU=>xEL wt true
|xGe ζ η=>xX ζ SL SB η
|ij=>(lcAt S q).2
|xq ζ=>xKb rfl _[QK.of ζ]
|xGf=>Le blt kf
|xLV ζ=>ζ=its.length
|xLW ζ=>(ζ).length<1000
|G5 ζ=>xh p C ζ
|Ex=>UF l nl
|xGg ζ=>(JA ζ).symm
|xBl ζ η=>λ ζ=>HY 0 η
|xGh ζ η θ=>(ζ).filter[xBl η θ]
|yfP=>Calls.Name_function_global I.ok.kind
|ig=>.ref q
|xT2 ζ=>its.toArray[(ζ)]
|xLX=>B.take i
|xBm ζ=>ζ+r.length
|xBn ζ=>ζ*S.length
|xLY=>C.map vN
|x9D=>Data.seq vs.toArray
|bz=>two c
|mF=>xrf T j
|zm=>π d
|x1h ζ η=>TD[X.env.kindOf ζ] η
|Wg ζ η=>mZ z ζ η
|bj ζ=>zP bv ζ
|ie=>vN 0
|hV=>Dk 31
|xp=>x0c 1
|xo=>ZY 8
|yh=>K27.Txt K mg
|xLZ ζ=>ζ≤T.length
|yg=>sH e
|x1i ζ=>cS ζ "isinstance"
|yf=>xSK w
|xL0 ζ η=>by intro ps ζ;cases η
|xT3 ζ=>EU ζ.2
|xT4 ζ η θ=>xTg ζ (η,.inl[BV θ])
|mE ζ η=>by rw [IQ,ζ,η]
|x1j=>["_law_row","_law_due_here","_law_at"]
|Ew ζ η θ=>(ζ).take[η-θ]
|vy=>HS 5
|x1k ζ=>ha pos QD ζ σ
|xL1 ζ η θ=>ki[.Assign ζ η θ]
|EA ζ=>λ q=>ζ
|vw=>x.d c
|bG=>Mq _
|x1l=>I.base.frzs b
|vv=>Itl K a
|xT5 ζ η=>λ _ _ _ _ _ st ζ=>η
|xT6=>IT hi
|x9E ζ=>cellsFrom ζ scope.names
|vt=>sIx n
|xL2 ζ=>by unfold ζ;split
|aW ζ=>yfE[base+ζ]
|x1m=>κ.negTrans _
|vq=>Ja hj
|x1n ζ η θ=>by obtain⟨ζ,_,η⟩:=LI.mp θ
|xGi=>bb.2
|xT7 ζ=>cn[Qs.take ζ]
|xT8 ζ=>some[V.ref ζ]
|xT9=>hT.same s1
|vp=>xe3 hb
|x9F=>List.map Prod.fst
|x9G ζ=>.ExceptHandler[some ζ]
|zl=>π C
|hJ=>.n 12
|gy ζ η=>Ty[blt ζ η]
|vo ζ=>jI a ζ
|iT ζ η=>(ζ).length+η
|vn=>Cc 31
|vm ζ η θ=>ae[xlX ζ η θ]
|x1o=>Y.Pairwise DL
|xUa=>Ax "wide"
|gv=>XY 64
|vZ=>Az lW
|vY=>FL ck
|xUb=>pyNext pj
|vX=>pT xs
|aQ ζ=>II[xZ6 ζ]
|YI ζ η θ=>by subst ζ;show AU η θ
|gs=>Aw Hk
|xL3 ζ=>Aw[Ρ ζ]
|gq=>Gh Uf
|vW=>x80 Pp
|xL4 ζ η=>(tr ζ η).trans
|xUc=>["tail","many_signs"]
|vV=>QU κ.blt sW
|xUd ζ η θ=>.Call[.Attribute ζ η apos] θ []
|zj=>CK.B w p
|Eu=>xz1 L
|vU=>kindOf sq0=oneType'
|tS ζ η θ ι=>Ay ζ η SL θ SL ι
|gm=>Af np
|kc ζ η=>(o,ζ,η)
|jz ζ η θ ι μ ν=>by have ζ:=η;rw [θ,ι,μ] at ν
|iQ ζ=>yfM[o5 ζ]
|xL5=>.a WF
|i9 ζ=>Fc[vN ζ]
|Wf ζ η=>by rw [Jk ζ,η]
|x1p=>xrp JV Kl Kr xlO
|xUe=>.fields us
|xL6=>Q ()
|xBo=>.str x
|Wd=>p.2
|xUf=>.Compare a
|xUg=>pure false
|xUh=>Lw hl.symm
|xL7=>P.zip vs
|x9H ζ η=>{ζ with heap:=s3.heap.push η}
|zh=>H4 l
|gR=>K.In h
|xL8 ζ η θ ι μ=>by obtain⟨ζ,η,θ,ι⟩:=xfj μ
|x9I=>SM.eqv SG.kInt.blt
|xGj=>by simp at hB
|xUi=>Pp.map th
|xUj=>K27.C.xy4 G
|xGk ζ=>ζ=T.length
|xGl ζ=>ζ%65536
|xBp ζ=>xtd[.of ζ]
|x1q=>.type "dict"
|xL9 ζ=>.upto[Τ ζ]
|i8=>by subst e1
|xMa ζ=>Ty[flatV ζ]
|gM ζ=>bp[BV ζ]
|g9=>xKa 230
|zf=>xSx b
|zc=>lj b
|kA ζ η θ ι μ ν=>by refine ζ;show xKc η θ ι μ ν
|x1r=>pendingOf S3
|jt=>DT 8 Re
|zY=>FL d
|kF ζ η=>AX ζ C η
|fg=>pcAt S p
|fb=>nA sq0
|x9J=>Option gO
|eF=>.ref r
|xGm ζ=>Ρ[EL ζ]
|gL=>by exact FU
|mD=>Rk X N cl s H
|x1s ζ=>(K8.mp ζ).1
|xUk ζ=>x88 ζ<cLine
|x1t ζ=>setFlight ζ none
|xUl ζ=>Value.str ζ t
|x9K=>X.env::X.outer
|xUm ζ=>.Constant ζ j
|vS=>hf b hb
|yfQ ζ=>wpAny_pyIter_list ζ ?_
|xMb=>by have:=r.un
|xUn ζ=>F.run ζ outer
|yfR=>wpAny_newFunctionEnv_cells S.kind
|x1u=>.ref sl
|x9L ζ=>RR ζ s3.heap.objs.size
|xUo ζ=>by(injection h with ζ)
|Wb=>k l
|xGn ζ=>ζ≤xs.size
|x1v=>IR hmb.symm
|xGo ζ=>xs.toList=ζ
|x9M ζ=>by obtain⟨_,_,_,_,kp⟩:=ζ
|yfS=>Builtin.Builtins.bindParams "min"
|xGp ζ=>L.length<ζ
|gJ=>mk bg
|xGq ζ=>ζ<A.length
|xUp=>ds.drop i
|xMc=>QV.of e3
|xMd=>.neg .c
|x1w=>bs.map V.bl
|xGr ζ=>TD ζ false
|ud ζ=>XN 3 ζ
|xMe=>.n 1314
|jy=>pv 6
|gH ζ η=>by rw [z,ζ] at η
|cv=>mI h' t'
|x1x=>.type "int"
|xGs=>sW key
|jZ ζ η θ ι=>upd ζ η[XI θ ι]
|y6=>BG "course" x []
|xGt=>.n 300
|y3 ζ η θ=>mO _ ζ rfl η θ
|m9 ζ η θ=>y3 ζ[EX[QK.of η]] θ
|xGu=>λ b=>iw
|xf ζ η θ=>nK[xxC ζ] η θ
|xUq=>xAj "text" "before"
|VT ζ η=>by have e1:ζ:=η
|yfT=>.builtin id
|cb=>Y6 SB
|xc=>(xD).irr _
|jY ζ η=>ac[rh ζ η]
|m8 ζ=>.a ζ Re
|bF ζ η=>tOp[xFD ζ η]
|WA ζ=>IJ H ζ
|xGv ζ=>PSs ζ body
|xb ζ η=>Fx[Gz ζ] η
|xGw ζ=>IR (ζ).symm
|uc ζ=>xFM ζ s
|aR ζ=>ho QD ζ σ
|xa ζ η=>(ζ-η).toNat
|xGx=>.cell v
|wz=>Kk _
|x1y=>congrArg not
|x1z=>bindL kindOf
|x1A=>bindC kindOf
|xUr ζ=>xs.length+ζ
|x9N=>HT.sIx its.length
|x1B=>SeqAt.EqAt A
|xMf ζ η=>.cons ζ η .nil
|x1C ζ=>by simp [List.getD,ζ]
|yfU=>a.extract ia
|x9O=>a.toList.take na
|x9P=>b.toList.take nb
|xUs ζ η=>RL.filter[λ ζ=>η]
|x9Q=>hB.sm.2
|x9R=>kla_fn "<lambda>"
|xMg=>CK.xtz hp
|x1D=>K27.Ck.chk w
|x1E=>K27.Ck.chk 8
|x1F=>Itx.more s3'
|x1G=>["_law_row"]
|x9S ζ=>(ζ).map V.bl
|aN ζ η=>.cat ζ η ?_
|xGy ζ=>ζ%ts.length
|x1H=>K27.Ck.Cks K
|xMh=>.lst xs
|x1I=>xF ys.length
|jn=>xE o
|wy=>ST i
|jX=>Az E8
|j9 ζ=>CR ry ζ
|jW=>xKa 64
|wq ζ η θ=>TD[lh ζ η] θ
|ye=>xj 2
|kY=>IL hp
|iy ζ=>sI ζ ?_
|jU=>yfr items.size hi
|jT ζ η=>ζ≠some η
|Et=>p6 b o
|xUt ζ η=>yfx A E s ζ η sq0
|kD ζ=>xUt ζ Q
|xUu=>B.drop xAm
|Es=>Cls K C
|xMi=>.ref Hl
|aL ζ η θ ι=>IG[Me K ζ η θ ι Jab f fd]
|jS=>Vals SJ ds
|jR=>vj b
|jQ=>xu0 mg base
|xBq ζ η=>(rfl,ζ,η)
|yd ζ η=>(IT ζ η)
|jP=>IV 14
|jO=>xEB X.K ps ds
|xGz ζ η=>Bg ζ[QK.of η]
|xUv=>Ig "held"
|xGA ζ η θ=>xTy ζ η dV dc pm an θ ct
|ua ζ=>ζ≤12
|xUw=>xss w p
|Ep=>xfz _ _ _ _
|jN=>Bad cH cK cB cT cM cL
|Vz=>vN c
|Vy=>b≠e
|x9T ζ=>s.heap.IsList ζ items
|x9U ζ=>by obtain⟨_,_,_,e,_⟩:=ζ
|x1J=>frs X.stack
|xUx=>X.wish E
|x9V ζ η=>λ ζ s1⟨x,H1,I1,r1,q1⟩=>η
|x9W ζ η=>λ ζ s2⟨y,H2,I2,r2,q2⟩=>η
|uY ζ=>out++ζ
|xUy=>k.map kV
|x9X=>X.mg "__name__"
|x9Y ζ=>wpAny_updateSeq ζ rfl
|xUz ζ=>(Jk ζ).trans
|xMj=>["first","inside"]
|xBr=>JZ hx
|x9Z=>T.drop W.length
|xBs=>Ξ SB
|m7=>ST m
|kX ζ=>BM[Bf ζ]
|xUA=>instObj C s.heap.objs.size
|xBt=>Ξ Fs
|xBu ζ η=>by(rcases ζ with h|η)
|uW ζ η θ ι μ=>Dg ζ η θ SL ι μ
|xBv=>sN 63
|kW ζ η θ=>xzN ζ η hz[I.list θ]
|ZS ζ η=>HX xtf ζ η
|wo ζ=>xSQ ζ H
|xMk ζ=>dot c ζ N
|x1K ζ η θ ι=>by show((_,_,ζ)=η,D2 θ ι)
|kU ζ η=>xzb xtn ζ xtj[xxx η]
|Eo ζ η θ=>show ζ<η from θ
|xBw=>tG Β
|xBx=>xK6 yv
|xBy=>Af nx
|yfV ζ=>BP.num[xzO xEG t ζ]
|xBz=>yfV s
|ZR ζ=>by have ih:=ζ
|x90 ζ η=>λ us ζ⟨vs,H2,I2,r,q2⟩=>η
|xBA=>xT6[xSF QF]
|kR=>PT X
|xBB=>Itr lo
|xBC=>pure x
|x91=>Builtin.bitXor i
|x1L ζ=>F.run ζ X.stack
|yfW=>Around.frames_deeper e0.frames
|Vx=>y.1
|yfX=>codeAny_call_function hr.depth
|xUB=>.Try body
|kP ζ η=>xfw ζ[xfn η]
|Vw=>H2 l
|x1M ζ η=>Beg ζ[rest.take η]
|lT=>xzM[253+y]
|x1N=>s4.trans s5
|zX ζ η θ ι=>xxt ζ η θ ι QW
|x92=>List.replicate z
|Vv=>xzI 5
|xUC ζ η=>ω ζ[wpS_bind η]
|kO=>.n 9
|x93 ζ=>Builtin.bitAnd[ST ζ]
|Vu=>B7 p
|xUD=>Ig "wide"
|kM=>lg 0
|kL=>XY 2
|VL=>RelV y u
|kK=>xvZ R2 g2
|x1O=>IK B.length
|VJ=>z.2
|xUE=>λ _=>AA
|zp=>xzX UV β
|xUF=>yft V.non
|wm=>rz 8
|VI=>rm 1
|xBD=>StateT SortSt Sem
|zo ζ η=>PW.pt[xyp ζ[xrm η]]
|xMl=>xEB K ps
|zi=>aj n
|Up ζ η θ ι=>by unfold ζ;rw [η,θ,ι]
|xBE=>Cls X.K C
|cZ=>by exact q'
|jM=>x0J H
|xBF=>QV X.K H
|jL ζ η θ ι=>by have:=ζ;show aG η θ this ι
|VH=>vB a xs
|lS ζ η=>h ζ[XQ η]
|jJ ζ η=>Fx[ae ζ] η
|x94=>relabel scope X.env
|VG=>x8S 0
|xUG ζ η=>(cpy ζ b η).length
|tP ζ η θ ι=>Sc ζ η CJ θ[Dk ι] CJ
|wk=>IV 8
|cI ζ=>DQ[BY ζ]
|jF ζ η=>E9[IZ ζ] η
|x1P=>Ig "things"
|xMm ζ=>by rw [ζ];omega
|bL=>aq[λ R1 g1=>A1]
|qU ζ=>ST[ζ+1]
|VF=>qU i
|Yx=>tailR S.length[cD S]
|xMn=>xyC P w
|VE=>TH _ _
|x95=>(x94).names.lookup
|YJ ζ=>ζ≤n
|x1Q=>YJ ns.length
|x1R=>IY I.ok.bsz
|x96 ζ=>wpAny_standAt[IX ζ]
|xGB ζ η=>CU m[W 0 m [] ζ η]
|jD=>W i m ys σ' H'
|YA ζ=>(ζ).yld i
|zg=>h2.1
|xBG=>ys++[y]
|xUH=>IJ H4 xBG
|xUI ζ=>σ3.length=ζ
|ze=>dU ps
|zd=>xzG JO
|xUJ=>xzu X8
|Xf=>a.size+b.size
|zZ=>JU hk
|Xe ζ η=>(ζ++η).Perm
|xBH=>xrW xrh ag
|x1S=>dig 0
|x97 ζ=>Rs.flatten.length≤ζ
|x1T=>hN.facts hb
|x1U ζ=>.blk (o:=ζ)
|Vj=>bs8 i
|x1V ζ η θ=>by have ζ:η:=θ;dsimp-zeta only
|xMo ζ η=>Gr[(ζ).get? η]
|x1W ζ=>Gr[K.lookup ζ]
|zO=>aa ag
|xGC=>ai hp
|zN ζ=>Ik rfl ζ
|yZ=>FL co
|qT=>rg hb hb
|x1X=>(Zm).reverse
|x1Y=>zx 64
|yfY=>Builtin.Tuple.tupleItemsOf Z1
|zV=>NL.xeo _ _ rfl
|yX=>Θ[K.lookup Tb]
|x1Z ζ η=>List.replicate[ζ+η]
|xGD ζ=>by rw [ζ] at hb
|xUK ζ=>x0t "range" ζ
|x10=>nr xs
|yJ ζ η=>xxv ζ[ER η]
|yH ζ=>fq ζ A
|qS=>vN m
|qR=>vN b
|Em ζ η θ ι μ ν=>BW[EZ ζ η θ ι μ] ν
|U5 ζ=>Q[some ζ] sq0
|vi=>pX x8U
|U4 ζ=>λ _ h=>ζ
|vh=>Θ ax
|wj ζ=>pG b ζ
|xGE=>zv X.N
|xGF ζ=>blt[kf ζ]
|ZQ ζ η θ ι μ ν ξ=>Ie ζ η θ ι (μ,ν,ξ)
|x98 ζ η=>λ us ζ⟨vs,H1,I1,r,q⟩=>η
|vf=>b∉ch
|x99 ζ η=>vA[vA[xe4 ζ η]]
|ve=>vN xBz
|yaa ζ=>xSw "range"[.fields ζ]
|vc=>xMl []
|x11 ζ η=>(xyD ζ η).length_eq
|xMp=>xS7 TB.cl Pu GP S4
|yfZ=>PySem.Within mA
|yf0=>X.s₀.heap.FunFrames X.base
|yab=>s.heap.IsCell c
|yf1 ζ=>wpAny_pyIter_range[IsRange.new ζ]
|we=>Kz _ _ QF
|x12=>by simpa using h2
|yf2=>Builtin.Slice.sliceAdjust lo
|yac=>s.heap.update p
|xUL=>numAt ys
|xGG ζ η=>xeY ζ η scope
|yf3=>wpAny_comprehension_free rfl
|yf4=>X.stack.filterMap (·.frame)
|ZP=>c.2
|Tv ζ=>ζ+b.toNat
|yad=>Int.ofNat_le.1
|va=>fR d t
|xGH ζ=>by rw [ζ] at hq
|xMq=>by simp [IU]
|yf5 ζ=>((As.flatten.length,ζ))
|x13=>IR WX.symm
|xMr=>fC n
|uy ζ η=>bent ζ η b
|xUM ζ=>Pv.op0 (g:=ζ)
|wd=>A6 b
|j8=>by exact h
|xMs=>by cases this
|ZO=>By a
|j7=>Ud i
|ux ζ η=>ll ζ η rfl
|xMt=>lg 253
|uS ζ η=>Μ ζ η q
|j6 ζ η=>xzS rfl ζ η
|qP ζ η=>ZX H4 ζ η
|xGI=>zC q
|ZN=>FL r
|ZM=>FL b
|xGJ=>zB a
|xMu=>by exact this
|xBI ζ η=>mQ ζ p Ce η
|qO ζ η=>HX xwV ζ η
|x14 ζ η=>x85 ζ its.toArray η
|iu ζ η=>by exact CS ζ η
|xGK ζ η=>show nz ζ from η
|xGL=>by have:=rC
|ZL=>xKC c
|Tg ζ=>FZ ζ this this
|ZK=>Rows K mg
|xMv ζ η θ ι μ ν=>by show((ζ:η)=θ,(ι,μ)=ν)
|ZJ=>te σ H
|xGM=>by refine Ei
|ZI=>xv2 K HW
|ZH=>xEA 3
|Ru=>Jk h1
|xMw=>s.toks+1
|ZG=>xA5 H h
|ZF=>Wb _
|Rg=>Jk h2
|xMx=>b∉X.fs
|wc=>UF p hp
|RN=>xsx K H
|yae ζ η=>xx6 ζ η false false
|xGN=>xrn κ a b
|ZE=>xfv _ _ _
|ZD=>xzs H x W
|XF ζ η θ ι μ ν=>by show(Tl ζ η θ ι,μ=ν)
|qN=>hb b
|qM=>pL b m
|QI=>Lu _
|xMy=>E.sum c
|x15 ζ=>assign ζ X.env
|x16 ζ=>ζ≠.free
|yf6=>wpAny_sequenceKey ht.typeIs
|yaf ζ=>seqIndex_neg[N8 ζ]
|yag ζ=>d.params.defaults=ζ
|yah ζ η θ=>wpAny_Try_except[KR ζ η θ]
|xGO ζ η θ ι μ=>by rintro σ ζ⟨η,θ,ι,μ⟩
|xMz ζ η=>out.push ζ[(η)]
|x17 ζ=>{s' with heap:=ζ}
|yf7=>Nat.eq_zero_of_le_zero hB
|xMA ζ=>u.length-ζ
|xGP ζ=>runP ζ Pp
|xGQ=>K4 Rl
|yai ζ=>(VP.trans ζ).trans
|xUN ζ=>G.length≤ζ
|xGR ζ=>xlE (c:=ζ)
|x18 ζ=>(ζ).nameGoes hN
|xMB ζ η=>ds.map[λ ζ=>η]
|xUO=>.ref D0
|x19 ζ=>BG "waiting" ζ
|iO ζ=>Zt ζ xs
|x2a=>Ax "tail"
|iN ζ=>jB ζ xs
|xGS=>BO B5
|xMC=>lU 1900
|xGT=>Ξ HM
|xGU=>Gh SL
|x2b ζ=>ζ="many_signs"
|iM=>xg h1 h1
|xMD ζ=>DT ζ XR
|xGV=>zU AZ
|xGW=>Fg Re
|Hq=>FJ 8
|xGX=>yt Φ
|yaj=>x89 its.length
|xGY ζ η=>xKM[kk ζ η]
|yf8 ζ=>["signs","back","size",ζ]
|xUP=>yf8 "end"
|CL=>x9h c
|xGZ=>xK6 Xg
|xG0=>A8 SL
|xA=>IR h
|xG1=>IR Ss
|x2c ζ=>gj xs.toList[xAg ζ]
|lO ζ=>fU ζ co
|lL ζ=>xEB K ζ []
|uw ζ=>x9e ζ p co ck
|xME ζ=>R.drop[ζ-ok]
|xMF ζ=>xwp C ζ r d b
|qL ζ η θ ι=>BW[Iz ζ η][Iz θ ι]
|xG2 ζ=>ζ="begun"
|xG3=>(xSy).push xUA
|xG4=>xwB[AS PL]
|ZC ζ η θ=>zE _ rfl ζ _ η θ
|ow ζ η=>DX[xv7 hx ζ η]
|x2d=>x1Y Uf
|lK ζ=>xLM ζ xBG xUH
|x2e=>.fields ts
|x2f=>I.stkSub b
|yak=>Array GenState
|xBJ=>by cases z'
|yf9=>wpAny_pyNext_range_item st
|xUQ=>T.keep _
|x2g=>plainGet K
|xUR=>by have:=r.dp
|yga=>Str.ofString "__getitem__"
|yal=>seqIndex_of h0
|yam=>sliceBounds lo
|yan=>excClassObj nm
|ygb=>unbindBehindTheSuite X.env
|yao=>s1.heap.get? T
|xMG=>.dK []
|x2h=>IntsAre kv
|xMH ζ=>ζ*B.length
|x2i ζ=>(P.map ζ).sum
|x2j=>Tx.map vN
|om=>app B
|xUS=>X.drop x
|x2k ζ=>(S.map ζ).sum
|qI=>no _
|qF=>fC d e
|x2l=>W13.StOk x
|x2m=>["things"]
|yap=>.type "module"
|xUT=>BP.val A
|x2n ζ η=>by obtain⟨ζ,er,_⟩:=η
|xG5=>vN 184
|x2o=>Rs.drop j
|xUU=>L.take 3
|xUV=>by unfold CK.B
|tO ζ η=>AQ e ζ η
|oz=>Α p
|oj=>BY Qr
|xUW=>QK.of WY
|yaq ζ η=>TD[s₁.heap.get? ζ] η
|xG6 ζ η=>by unfold ζ;show Ar η
|xMI ζ=>(#[],ζ)
|xG7=>se 126
|xUX=>x8T "row"
|oy=>BZ 8
|wa=>x8V j
|oK=>xSz S3
|xBK=>xEG t
|jx=>xEH Qq
|xUY=>(xv3).size
|xUZ=>Gi τ
|ou=>zx 8
|jH ζ η=>rY ζ[aK η]
|wZ=>xKp 1
|yar=>Gg "are_whole"
|xBL ζ η θ ι=>by refine(ζ,η,θ,ι)
|xU0=>L.take p
|x2p=>.int c
|uv=>W.length+n
|lI=>QH a b
|xMJ=>IY Fb
|yas ζ η=>{cls:=ζ,data:=.fields η}
|oq=>xE6 k
|xG8=>nA st'
|jG=>UT It
|oo=>AN a ta
|xMK=>L.drop[xz1 L]
|xG9=>Im Z9
|xBM=>Eb++D0.reverse
|xHa=>xKW hb
|x2q=>codeAny xFs
|lQ=>x0J H'
|xHb ζ η=>fO ζ η ck g
|xBN ζ=>pX[xFv ζ]
|ur ζ η θ ι μ ν=>xFF ζ η θ ι μ ν scope
|ygc=>Nat.le_div_iff_mul_le Gm
|yat=>xwl X.prog X.w
|xBO ζ=>by have T:=ζ
|X6 ζ=>∃t,ζ
|xBP ζ=>EU[xT3 ζ]
|lH=>bD bK e
|xU1=>(fg).size
|lF=>b≠T
|kr=>HZ κ V
|um ζ η θ=>show ζ≤η from θ
|oi=>TW T W
|iI=>xMr s
|iH=>KV QN vs
|xU2=>xem κ a0
|oh=>VR _ _
|og=>k3 _ _
|oZ=>xfg _ _ _ _
|jl ζ=>λ h=>ζ
|ygd=>Heap.size_after_update ..
|xU3 ζ η=>Data.fields ζ=η
|yge=>wpAny_pyIter_rangeiter st
|ygf=>es.toList.any (·.refKey)
|ygg=>lim.keeps x.toInCall.keep
|ygh ζ η=>(List.replicate ζ η).flatten.toArray
|ygi=>numsOf its.toArray.toList
|yau=>λ _ _ _=>xiN
|yav=>ms.map V.int
|ygj=>Builtin.Range.rangeSize i
|xU4 ζ=>ζ^bs.length
|ZA ζ η=>∀q∈ζ,η
|xU5 ζ=>HO.ins ζ dx
|x2r=>by simp [total]
|xU6 ζ=>by rw [<-this,ζ]
|xML ζ η=>by rw [<-ζ,η];rfl
|ygk=>List.length_eq_one_iff.1
|xBQ ζ η θ=>by rw [IS,ζ,η] at θ
|ygl=>Nat.le_min_of_le_of_le m2
|yaw ζ η=>(SM.xyD ζ η).length_eq
|yax=>hp.subset hb
|ygm=>Builtin.Range.rangeSize 1
|x2s=>spCInit C
|xBR=>cP L
|x2t ζ η θ ι μ=>by obtain⟨⟨dx,ζ⟩,η,θ,ι⟩:=μ
|ygn=>List.filter_eq_nil_iff.2
|uk=>by intro _
|Sf=>by intro z
|yay ζ=>BG "whole_bytes" ζ
|lE ζ η θ=>XG ζ η[xlF θ]
|S5=>XZ hq
|yaz=>.type "bool"
|yaA=>Ax "lengths"
|yaB ζ=>List.replicate ζ x
|x2u ζ η=>Ν "need_row" ζ η
|lD ζ=>pG a ζ
|XE ζ=>ζ≤C8
|S2 ζ η=>BM[xKo ζ η]
|xU7 ζ=>ts.length=ζ
|xHc ζ η=>yr ζ Re Dm η
|xBS ζ η=>(lc S p ζ η).2
|oY=>xBS HF j
|ygo=>xTf "object.__setattr__"
|S1 ζ η=>BM[Fv ζ η]
|xBT ζ η=>(ζ++η).drop
|iE=>pH e
|XD ζ=>Q[.int ζ] H
|iB ζ=>by rw [IQ,ζ]
|Rr=>gC rx
|xBU ζ=>.w ζ 256
|xU8 ζ=>xLK ζ s.heap
|QT=>xGd hs
|xU9 ζ=>xs.length=ζ
|xBV ζ=>Inv ζ []
|xMM ζ η=>xtp (v:=ζ) Z7 η rfl
|xHd ζ η=>xMM[.ref ζ] η
|fP ζ η=>x1p ζ[BO η]
|xVa ζ=>(K7.mp ζ).1
|xMN=>At c
|di=>ML _
|yaC=>Lz hit.typeIs
|xHe=>env::outer
|yaD=>by simpa using I.len
|x2v=>Ou.mp nd
|yaE=>Int.not_lt.1
|x2w ζ=>ζ==items.size
|yaF=>I.base.frzs c
|x2x=>B.drop n
|xBW=>IZ Z5
|ygp ζ η θ ι μ=>by obtain⟨ζ,⟨_,_,η⟩,⟨_,_,θ⟩,⟨_,_,ι⟩,⟨_,_,μ⟩⟩:=Y
|wY=>aJ z
|yaG=>Nat.lt_min.2
|yaH ζ=>ζ<xs.toList.length
|x2y=>Y.drop k2
|ygq ζ=>PyProof.Rows.callWith_kw (e:=ζ)
|xVb=>JC.mp z
|xBX=>IW Su
|xVc=>["reader","codes"]
|x2z=>u.drop t
|PO=>nb A
|xHf ζ η θ ι=>hC.keep[λ ζ η θ _=>ι]
|wX=>A6 8
|x2A ζ=>TD A.frames ζ
|dX=>xzM s
|xMO ζ η θ=>BJ[bitsP ζ] η θ
|PC ζ=>AD ds ζ
|xHg ζ η=>by rw [<-ζ,η,CD]
|wW=>st.heap.objs.size+1
|xMP ζ η=>x0d ζ[λ _=>η]
|IC ζ=>Ty[ζ]
|x2B ζ=>xs.length≤ζ
|ky ζ=>XW ζ b iw
|x2C=>B.take n
|xBY=>sN 2
|xVd ζ=>by exact nomatch ζ
|xBZ ζ=>xzX γ ζ
|x2D=>["row","many_signs"]
|xVe ζ=>holding [ζ]
|Mk ζ=>zM ag ζ
|ko=>x0r T
|GD=>(lcAt S p).2
|x2E=>xAj "number" "size"
|Fn ζ=>eA ζ.2
|yc ζ η θ ι μ=>yE ζ η θ SL ι μ
|xB0=>GF L
|x2F=>N.map xSZ
|wV=>US n
|xHh=>xFc hp
|xVf=>["signs","place","back","most"]
|WU=>vN i
|wR=>Zo R
|cw ζ η=>by have:ζ:=η;lia
|wQ=>RelV x v
|EP ζ η=>by rw [IS,ζ,η]
|Dy ζ=>xA1 ζ H'
|yaI=>(lcAt S q).1
|oX ζ η=>Fj H ζ η
|xHi=>by show(Z2,xLw)
|Ds ζ=>zw ζ oN
|El ζ η θ ι μ ν ξ=>BW ζ[CM η θ ι μ Re ν ξ]
|xVg=>xze X QD
|wO=>Gu xw t
|Dp ζ=>xGe SB ζ
|XC ζ η θ ι=>by show ζ;rw [η,θ,ι]
|xHj=>crc w p
|jq ζ η=>wpAny M A ζ η E
|xMQ=>xwm X QD D
|x2G=>A.map xGu
|x2H=>R.map xGu
|xHk=>xUw n
|Dc=>253+y
|x2I=>xuK K mg "is_whole" xzF Jaa
|jm=>x2I fW U2
|D3 ζ η θ=>nj 0[xlL (v:=.ty ζ) Z7 η θ rfl]
|x2J=>xfq _ _
|jk=>x2J Z8 Z8
|wN=>yfx A E s
|zK=>xe0 _ _ _ _
|xHl=>he QD s σ H _ I h
|oW=>g i j
|x2K=>.Tuple es
|xMR ζ=>by unfold ζ at h2
|x2L=>IsPart vl
|x2M=>IsPart vu
|xB1=>SlR X
|x2N=>I.list h2
|x2O ζ=>Rm.toArray[(ζ)]
|ygr ζ=>(Nat.mul_lt_mul_right ζ).mpr
|xB2=>dig n
|xMS ζ=>ζ<T.length
|xB3=>Lg Z9
|xB4=>Tu.1
|xVh ζ=>(K7.mp ζ).2
|xMT=>by unfold xrn
|xHm=>KA t1
|yaJ ζ=>seqEpoch_at ζ rfl
|xVi=>["lengths","place","ahead"]
|ygs=>List.Sublist.count_le _
|x2P=>spLeft C
|yaK=>V.int.inj z
|x2Q=>["block"]
|xB5=>RnR R
|x2R=>kp.tr Q4
|x2S=>hC.off kp
|yaL ζ η θ=>by obtain⟨ζ,_,η,θ⟩:=hw.facts
|yaM=>List.take 3
|xMU=>IR ek
|yaN ζ η θ ι=>by obtain⟨ζ,η,_,_,_,_,θ,_⟩:=id ι
|ygt=>List.drop_eq_nil_iff.1
|Y9 ζ=>CN ζ 0
|Cy ζ=>CN ζ 2
|xMV=>.n 11
|xVj ζ=>.frm[Τ ζ]
|uQ=>H x
|xB6=>AG ok
|ji=>AV h
|xB7=>Cc 32
|x2T=>.cons rfl
|Y8 ζ=>Zt t ζ
|yaO=>Ax "reader"
|xMW=>lX Bb
|xMX=>Ρ xi
|oV ζ η θ=>Ih ζ hr η θ
|WT=>yy R
|xB8=>h.Ns mainGlobals mg
|xMY=>Fv Re Re
|xMZ=>Gh nV
|xB9 ζ η=>x0o[Ts ζ η]
|xHn ζ=>Ja[JE ζ]
|xCa=>K27.Ck.chk 16 45
|xCb=>putF "blocks" zH []
|xCc=>vN xAm
|xHo=>UT Sy
|VM ζ η θ ι μ=>Hx _ rfl ζ η θ ι μ
|xCd=>xKN H'
|xHp ζ=>IX[Jr ζ]
|xCe=>xTc q
|xM0=>AS xi
|x2U=>(Il).toNat
|xM1=>gK Re
|xCf ζ=>xMk[λ j=>ζ]
|x2V ζ η=>congrArg[λ ζ=>some η]
|oU ζ η θ=>x86 ζ (n:=η) θ .c
|xCg=>Vals xs its
|x2W=>wpS_lift[Nf Ej]
|xVk=>TQ hd0
|xM2=>oR Ζ
|x2X=>x9k s.toks
|xCh ζ η=>Ty[xv8 kf ζ η]
|xCi=>MH κ a b out
|xM3=>xFS 64
|xCj=>xw4 κ
|xHq ζ=>.a[Ρ ζ]
|xCk=>Fc x5
|oS ζ η θ=>xe2 ζ η θ[xlS _]
|xVl ζ η θ=>xSB ζ η θ [] pos
|x2Y=>Wj .NotEq
|yaP=>xT3 hw.facts
|WS=>jI b o
|yaQ=>Bo e n1 n2
|xM4=>CN xKS 64
|yaR=>xlM (D:=Ws)
|xHr ζ=>(QG,iter,ζ,0)
|xCl=>Lt blt kf
|WR ζ=>by subst ex;show Hu ζ rx
|xM5=>XQ hx
|xM6=>CE[V8 Ζ]
|yaS ζ=>x0K[run ah ζ]
|xCm=>oG σ' H' s'
|xCn=>k b ob
|xVm ζ=>tots[xBR ζ]
|xCo ζ η θ=>(σ,ζ,η,θ)
|xCp=>xVg H'
|xM7=>g1 _ _ xLb
|yaT=>wpS_bind x2W
|xCq ζ=>x0U s H ζ I h
|tK ζ η θ ι μ ν=>∀(ζ:η) (θ:ι),μ->ν
|ygu=>args_listiter_next _
|yaU=>sb1.extBut a
|yaV=>sb1.extBut b
|xM8=>keep b
|ygv ζ=>by obtain⟨_,⟨_,_,_,e,_⟩,_⟩:=ζ
|yaW=>env.kindOf x
|xM9=>Sem Qr
|xCr=>hb _
|xVn=>by simp [QF]
|ygw=>.ref s1.heap.objs.size
|yaX=>xs.all flatV
|yaY=>Lw hlen.symm
|yaZ=>PlainAttrs T
|ya0=>PySem.call f
|ygx=>h'.Ns s.heap.objs.size
|ya1=>intKind_is _
|xVo=>ExC X.K
|xVp=>this.1
|xNa=>.int _
|xVq=>[.none]
|x2Z ζ η θ=>by(rcases ζ with z|⟨η,θ⟩)
|xNb=>pr out
|ya2=>SM.QU.refl _
|xNc=>xfG rfl
|ya3=>YM.trans s4
|x20 ζ=>λ _=>.inr ζ
|ya4=>by simp [W13.puts]
|ya5=>s0.trans s01
|xNd=>pin Z6
|ya6=>putF "begun"
|xVr=>Rf.xtw K
|ygy=>List.filter_eq_self.2
|ya7=>hT.same s24
|ya8=>["_law_one"]
|xVs=>rIsE K
|xVt=>.ref l6
|ya9=>K27.Ck.Crs K
|yba=>K27.Ck.Hds K
|xVu=>.ref l3
|xVv=>.ref l2
|ybb=>Θ A.handled
|pV=>H l
|x21 ζ η=>by obtain⟨ζ,hx⟩:=η
|xNe=>se 132
|WN=>xSv A
|ybc=>methodObj HW
|jg ζ η=>LT[x8W ζ] η
|Cw=>HR j
|ybd=>IK xs.length
|ybe=>IK ds.length
|xCs=>EU h
|WH=>xEI i
|iY=>by cases r
|xVw=>FK 272 hm tm
|yb ζ=>AQ ζ e e
|xNf=>(qD).In
|ybf=>xSG QN.length
|xVx ζ η=>IP ζ[NL.J' η]
|Vt=>AL n
|zG ζ η=>by show ζ;show Ar η
|xVy=>cutV xs
|xVz=>.bl fn
|xNg=>xAg key
|xNh=>Lev UU
|Vs ζ η θ ι=>x0y ζ η θ ι res
|pS ζ=>uM P w K[xel P w] ζ f fd
|xVA=>DQ Bool
|xHs ζ=>yn[xW ζ]
|iS ζ η=>mw[Ju ζ] η
|iR ζ η=>Γ[Jk ζ] η
|ygz=>UQ s1.heap.objs.size
|x22=>QK.of hl
|xCt=>x0D v
|xVB ζ=>by refine .inl ζ
|xCu=>e≠Tb
|xNi ζ η=>sP _ rfl ζ η
|xCv ζ=>by rw [ζ] at e
|Cn=>aY j
|ybg=>Pv i ys
|ybh=>Pv xs.length ys
|xVC=>jf Z.Y.X
|x23=>jf Z.H.N.X
|xNj=>Q true
|Vr ζ η=>by rw [ζ,Ju η]
|xVD ζ=>by refine .inr ζ
|Vq=>iU 1
|Vp ζ η=>rA ζ Re Re η
|xNk ζ=>R.length=ζ
|xHt ζ η=>chk 8 29 [ζ,η]
|Vo=>g x σ H
|xVE=>b∉X.ex
|CZ ζ η θ=>Δ[ai ζ η] θ
|ybi ζ=>(yaa ζ).objs.size
|xCw=>xGJ o
|x24=>QK.of hS
|x25=>xzO xEG t
|xCx=>x25 s
|Vn=>CodeHd base c Tb
|Vm=>u9 Rs R
|xNl=>lL Jab
|Us=>xMF H
|i' ζ η θ ι=>xxu (D:=ζ) (K:=η) (a:=θ) (xs:=ι)
|xCy ζ η θ=>∀ζ∈η,By θ
|gp ζ η=>by show(Fx ζ Zk,Bu η,Aj)
|gY=>xHc 230 hl
|Ur=>iz b n
|xVF=>Ks _ _
|xHu=>xVF[MJ hb]
|CV=>SI u W T ps
|BX=>[128,0]
|Uq=>xTm CX k f fd ps sp
|ygA=>x1k s H _ I h
|ybj ζ=>wpAny_of_eq ζ ?_
|x26=>rawInt L
|ygB=>congrArg Array.toList
|gX ζ=>(ζ).go i
|xHv ζ η=>(xs,ζ,η)
|ybk=>r.append hd
|xNm=>noA b
|x27=>.type T
|xHw ζ=>min ζ n
|ybl=>λ _=>false
|x28=>.inl hl
|xHx ζ=>PT' ζ ts
|x29 ζ=>none_of ζ n5
|xHy ζ=>runP ζ P
|xHz ζ=>b.size-ζ
|x3a=>X.take k
|xVG ζ η=>decide[ζ∈η]
|ygC=>(Z'.map (·.2)).Perm
|xVH ζ=>ζ<C.length
|gW ζ=>xxR ζ xs
|xNn=>["state","byte","wide"]
|xNo=>Jy hj
|xVI=>["bale","end"]
|ybm=>Sv.trans s3
|ygD ζ=>(Rs.take ζ).flatten.length
|xHA=>Q5 2
|x3b=>.bool k
|xVJ=>A6 272
|fz ζ=>CN ζ 3
|xCz ζ=>XN 2 ζ
|x3c=>.n 1712
|xHB=>pv 7
|zD ζ η=>XV IS ζ η
|xCA ζ=>TD ζ v
|Tr=>[FR,AO]
|ybn ζ=>Θ[fs.lookup ζ]
|B9 ζ η θ=>by show(χ ζ η θ,Aj)
|ybo ζ=>by refine ζ;dsimp only
|x3d ζ=>BG "group" ζ
|x3e ζ η θ=>by simp only [ζ,η];show Gp θ
|ya ζ η θ=>sP ζ _ η θ
|zy ζ=>AD ζ c
|x3f ζ η=>by obtain⟨o',ζ⟩:=η
|x3g=>EL 1314
|xHC=>EL 4
|ybp=>Ax "other"
|ybq=>Ax "signs"
|ybr=>Ax "block"
|xVK ζ=>xlV τ ζ rfl
|xHD=>HS 8
|xHE=>HS 0
|yW ζ η θ=>jE ζ _ η θ
|fh ζ=>by obtain⟨_,_,FI,bI,MI⟩:=ζ
|x3h ζ=>S.length≤ζ
|xNp ζ η θ ι μ ν ξ ο=>by show Sc ζ η θ ι μ ν;generalize ξ=ο at*
|xHF=>sN 8
|rM ζ=>xzt X[binaryOp ζ]
|zu=>pB q
|xNq=>ES h1
|x3i ζ=>A.length≤ζ
|TM=>Ze q
|xHG=>FJ 2
|fX=>num[b.take 3]
|ygE=>sD "blocks" 0 []
|fG ζ=>xKs ζ t2
|T9=>kf i
|xHH=>hidT s₁.heap H
|x3j=>xSU none
|xVL ζ=>Ez ζ X.isi
|xCB ζ=>by exact xS1 ζ
|x3k ζ=>congrArg ζ z
|xCC=>xKM k
|ybs ζ=>G7 "rest_size" ζ
|xHI=>y9 e
|xCD ζ η=>nZ ζ[xFy η]
|xHJ=>vj l
|XB ζ=>l≠ζ
|Tn=>XB d
|fF ζ=>Binds K ζ ps
|T8 ζ=>by show(HV g ζ,CF)
|xHK ζ=>xAQ ζ 200
|xCE ζ η=>JT[xFL ζ η]
|xNr=>ST HK
|ybt ζ=>backToKw ζ[keywordEach [] X.env]
|rL ζ=>EN j ζ
|rJ ζ=>QR C ζ r d R
|xCF ζ η=>iG[x0a ζ[.ref η] "ValueError"]
|x3l ζ=>F'.drop[64*ζ]
|xNs=>x3l xBa
|xNt=>B.take[HB-2]
|XA ζ η θ=>aL C ζ η θ
|rH ζ=>ST[p+ζ]
|xNu=>Jq Yh hn
|xNv=>sz Pp
|rF=>MA κ a b out ia ib
|xNw=>.Name y py
|xVM ζ=>xuI K ζ f
|xHL=>K' H1 H2
|fE ζ=>Ee ζ[By y]
|zA=>xHb b m
|fD ζ=>aJ ζ hp
|xCG=>xEQ S W
|Y7 ζ=>by have e:=ζ
|xCH ζ η=>yd ζ[d6 Re Re η]
|xHM=>Ite K a
|xHN=>xKf[x0h n]
|xNx ζ=>ζ="taken"
|yY ζ η=>Tl h1 ζ h2 η
|xHO=>e≠ck
|xHP=>e≠co
|T7=>xHt a b
|xNy=>(Bf zW)
|eO ζ=>I.turned ζ f0 f1 f3 f4 f5
|xHQ=>y.d c
|xHR=>x.p j
|ybu=>Value.ref e
|ybv=>sb.extBut b
|ybw=>I.ok.noex b
|xHS=>Q5 i
|uP=>[a]
|jh ζ η=>λ ζ H2=>η
|xHT=>Ni hp
|ybx=>Data.cell v
|pQ ζ=>ζ≤j
|x3m=>xfA I.hok
|yby ζ=>ζ<recursionLimit
|ygF=>args_tuple_getitem _
|x3n=>max 0
|x3o=>HT.sIx n
|ybz=>xaJ N.length
|ybA ζ η θ ι=>by(rcases ζ with⟨rfl,η⟩|⟨θ,ι⟩)
|eM=>hn _
|xHU=>val R
|x3p=>rlF n
|xHV=>Jk xmz
|xHW=>IZ z
|x3q ζ=>by rw [eb] at ζ⊢
|xVN=>KA hia
|T6=>a.1
|ygG=>wpAny_pyIter_enum he
|xNz ζ=>λ kv=>ζ
|x3r ζ=>QN.map[xNz ζ]
|x3s=>xm4 I.hok
|x3t=>xmJ I.hok
|x3u=>QV.of ad
|ybB=>K27.C.Mks K
|ybC=>by simpa using hSI
|xHX=>KF hx
|xHY=>Kw hs
|ybD=>ok_cinit FI
|x3v=>V.int 16
|ybE=>K27.C.Mk2 K
|xHZ=>vN 66
|x3w=>["text"]
|ybF=>FlyV s.heap
|x3x=>B.drop p
|xH0=>blk T j
|x3y=>mg "Cut"
|ybG=>mg "BadRow"
|xNA ζ=>xfY (k:=ζ)
|xNB ζ=>xlC (A:=ζ)
|ybH=>K27.C.Lns K
|ybI=>K27.Ck.xyG K
|xH1=>π l5
|xNC ζ η θ=>Dr ζ η[LI.mp θ]
|xVO ζ η=>BC (ζ).toNat η
|xH2=>Zu s'
|T5 ζ η θ=>BW[Fv ζ η] θ
|ybJ=>le_of_lt xD
|xCI ζ η=>ll rfl ζ η
|xH3=>Gr xZ9
|ygH=>a.toList.Pairwise DL
|ygI=>b.toList.Pairwise DL
|T3=>lj e
|x3z=>["bits","lengths"]
|ybK=>HR X.length
|T2=>E1 i
|Sx ζ η=>by cases(BJ u ζ η)
|yU ζ η θ=>Ih ζ QW η θ
|x3A=>.inl qg
|Sg=>3+Rs.flatten.length
|xH4=>pT vs
|eK ζ=>by have h1:=ζ
|ybL=>AL L.length
|TU ζ η θ=>(o3 ζ,η,θ)
|xH5=>xEU Pp
|xH6 ζ η θ ι=>Hn ζ η[some θ] ι
|tX ζ=>by show Zg ζ
|tW ζ=>ω Ei ζ
|tV=>Xi _
|ybM=>["row","before"]
|tU=>p6 b u
|x3B=>W13.RF a
|tR=>xSS e
|xH7=>Az xST
|dv ζ η θ=>Ee ζ[Ic η θ]
|tQ=>xSW H
|xVP=>I.freeC x c
|xVQ=>I.cell x c
|dm ζ=>by(rcases ζ with rfl|rfl|rfl)
|xH8=>x9j H'
|xH9 ζ η=>rv.get (i:=ζ) (x:=η)
|tN ζ=>E9 ζ xFG
|xIa=>AL Al
|xIb=>xti Z7 X.range
|xIc=>xLs L
|ybN=>WQ True.intro
|tM=>wF z
|tB ζ=>by rw [ζ] at h1 h2
|x3C ζ η θ=>wpS_bind[xFW ζ η θ]
|xVR ζ η=>x0E H[kI ζ η]
|xVS=>CpX ok R
|x3D=>ShX ok L
|xCJ=>aW i
|x3E=>SM.eqv SG.ltI SG.xr8
|xId=>J.go i H'
|xIe=>.a Φ
|xIf=>.a xY
|xIg=>ao xxs ag
|xVT=>cpy B b
|xIh=>x10 ys
|ybO=>#[Ct,zH 0]
|xND=>(yfv ybO).objs.size
|ybP=>its.toArray.size*k.toNat
|rI=>xv q s
|xIi ζ η=>(ζ++η).take
|dj ζ η θ=>AN[xVl ζ η θ]
|ybQ=>xHw v.toNat
|xNE ζ η=>xCA[atI ζ η]
|Ry ζ η θ=>jh σ2[tb {ζ with nx:=η,ct:=θ,bk:=D.nx} σ2 H2]
|x3F=>x3n total
|qz=>sT _ _
|xIj=>bx Z9 Z9
|xIk=>blk F i
|qy=>fr _ _
|xIl=>xCi na nb
|qv=>xMn H h a
|ybR ζ=>Value.float ζ t
|ybS ζ=>h.objs.size≤ζ
|ybT ζ=>wpAny_Name ζ hd
|ygJ ζ η=>wpAny_isTrue_Compare1[thn ζ η]
|ygK=>[s1.heap.objs.size]
|x3G=>mA name
|ybU ζ=>I1.laid (t':=ζ)
|xVU ζ=>xl8 (us:=ζ)
|yT ζ=>h ζ Jl
|ygL ζ=>typeLookup ζ "__getitem__"
|ybV=>apos.endLine==SN.line
|ybW ζ=>I.lset (its':=ζ)
|ybX ζ=>by rw [ζ];assumption
|xCK ζ=>λ σ3 H3=>te σ3 H3 ζ
|xIm ζ=>λ σ3 H3=>tt σ3 H3 ζ
|xVV=>sub e
|ygM=>if_false_right.mp h
|ygN=>Nat.ToInt.of_le rfl
|ybY ζ=>by(injection this with ζ)
|ybZ=>hx.same s1
|ygO=>by apply Array.toList_inj.mp
|ygP=>SortSt.mk' oneType'
|x3H=>pairs r
|xCL=>by intro n
|yb0 ζ=>(ζ).symm.trans h
|xNF ζ=>kf[φ ζ]
|ygQ=>hZ.symm.subset hz
|ygR ζ=>LZ.mp[hLp.symm.subset ζ]
|ygS ζ=>List.count_le_length (a:=ζ)
|yb1=>ks.map kV
|xVW=>u1 hr
|xIn=>J7 e
|ygT=>X.mg "__builtins__"
|yb2 ζ=>ζ≠mainGlobals
|xVX=>Jk hb
|xVY=>xfU hu
|xVZ=>xfL hu
|yb3=>bs.drop 4
|RH=>π x
|ygU=>A6 its.toArray.size
|yb4 ζ=>TD X.A.frames ζ
|xCM ζ η θ=>by have:=ζ;show AU η θ
|Xz ζ=>Δ n ζ
|Xy=>by intro y;cases y
|xV0=>Aw Β
|ygV=>B7 s.heap.objs.size
|xNG ζ=>Gr[H5 ζ]
|xV1=>BE Φ
|xNH ζ=>SZ[hc ζ]
|xV2 ζ=>DZ[.inl ζ]
|qr ζ η=>Μ h' ζ η
|xV3=>tC zH
|yS ζ=>xEG ζ 8
|xV4=>HQ SB
|xIo ζ η=>aj[ai ζ η]
|xNI ζ=>xk[Af ζ]
|xCN=>by cases e
|xV5=>Ξ xY
|xV6=>IM Hk
|xV7=>.n 24
|xV8=>Gh Cv
|xV9=>Gh Re
|ygW=>x8Y s.heap.objs.size
|xWa=>XQ hb
|x3I ζ η=>Bq "number" ζ η
|qp ζ η=>autoParam[∀ζ,η] xeQ
|yb5 ζ=>pyNext[.ref ζ]
|xCO=>by cases z
|qo ζ η=>HX xza ζ η
|yN ζ=>DY ζ _
|xWb=>Kf FU
|xCP=>by exact e
|xWc ζ η=>xX ζ SL Re η
|yb6 ζ=>x0s ζ out.toList
|xNJ=>xKq V5
|xWd=>Eg rS
|xIp=>os i
|qm ζ η θ ι μ=>by show(SC ζ η θ ι,[μ])
|xWe=>xSU Ha
|xWf=>xvV #[] e1
|QX=>xKN H
|xCQ=>by rw [e]
|xWg=>Ξ xKS
|xWh=>yfD SD
|jV ζ η θ ι μ=>IG[Me K ζ η θ ι μ f fd]
|y8 ζ=>fK b ζ
|qj ζ=>UO DH DH ζ
|xWi=>HQ WO
|xWj=>xKf[.seq vs.toArray]
|xNK ζ=>by have:=vC ζ
|x3J ζ η=>x9f ζ η pos.line
|xIq ζ=>by show(XO ζ,x0I)
|xWk=>BI Uf
|ygX=>(xK8).toList.Pairwise
|xCR=>xAK qg
|xWl=>FV ha
|xWm=>TQ X'
|rB ζ η θ=>by exact yR DU ζ η θ
|xIr=>(lcAt S p).1
|xWn=>AS jr
|xWo=>xFX SL
|xNL ζ=>tT[bZ ζ]
|x3K=>by unfold bent
|xIs=>xTQ e
|xIt=>A.getD j 0
|xWp=>xAv Ζ
|xWq=>xL3 dQ
|xWr=>CN cF 64
|yb7 ζ=>Q2 H ζ ts bs
|qe=>yb7 A
|xIu ζ=>cst ζ W T
|qd ζ η=>xzb xtn ζ[xxx η] xtj
|xNM ζ=>IX[KW ζ]
|Q7 ζ η θ ι=>xlK MI ζ η Z7 θ ι .nil
|xWs=>x9i xMw
|yb8=>Ig "count"
|xWt=>xUZ Bb
|xWu=>aK bq
|vR=>xtq K mg B D G' CW C0 C1 C2 C3 CK QP CO C G Ce cM cH cK cT
|xWv=>Cy yv
|xCS=>Ai ad Ji
|yb9=>SZ[e z.symm]
|qZ ζ η θ=>Ay DU ζ Re η Re θ
|xWw=>.add Τ Τ
|xWx=>FK 12 hm tm
|vQ ζ=>Q ζ H1
|ygY ζ=>(List.nodup_append.mp ζ).1
|xWy ζ=>ζ="inside"
|xWz=>fz WF
|xWA=>xVK B5
|x3L=>fh Z.init
|x3M ζ η=>XA "number" ζ η
|xIv=>Y++tail'
|xWB=>xEL l1 false false
|yca ζ=>xlG ζ hg hm boot_range
|xCT=>x0g R t
|ycb=>["row","wide"]
|qb ζ η=>.div (m:=ζ) (n:=η) Τ .c
|ygZ=>vs.setIfInBounds 1
|ycc ζ η=>by obtain⟨vs',ζ,_⟩:=η
|xWC=>by simp at e
|yg0=>h'.Ns X.env.locals
|ycd=>AllBare g'
|yce=>I.ok.cab x
|xIw=>tn i
|yg1=>letOwnedTupleGo tg
|xWD=>Turn P
|x3N ζ=>ζ≤1000000
|ycf=>frs outer
|xNN=>by subst h2
|ycg=>Un.kept hk
|ych=>by simpa using hi
|yci ζ η=>by simp only [ζ,if_true,η]
|ycj ζ η θ=>operate ζ[getItem η θ]
|yck=>by simpa using ew
|yg2=>ns.map WData.int
|xNO ζ η θ ι=>(ζ,.int η θ,ι)
|x3O=>.ref D
|yg3=>X.s₀.heap.get? c
|x3P ζ=>λ _ _ _ z=>ζ
|ycl=>by simpa using hl
|ycm=>hx.same s0
|x3Q=>dbl of
|ycn=>by simpa using QF
|xCU ζ=>Ko ζ hz
|xWE=>hjp _
|x3R ζ=>ζ=As.length
|yg4=>Nat.le_max_right _
|x3S ζ=>ζ*RP.length
|x3T ζ=>by have:=P3.mp ζ
|xWF ζ=>ζ<B.length
|yg5=>Rt (Z'.map (·.2))
|Q3=>xfr L
|xNP ζ η=>by simp [ζ,NU,η]
|OT=>xrs e
|CH=>xrt e
|x3U ζ=>QN.length+ζ
|x3V ζ=>valueAt ζ k
|xNQ=>by subst ey
|xCV ζ=>ShL ζ L
|yco=>QV.of htt7
|ycp=>QV.of htt2
|ycq ζ=>by obtain⟨e1,_⟩:=ζ
|xCW ζ=>spT ζ B
|xWG=>sld R
|x3W ζ=>ζ+Rb.length
|ycr=>xry Z.X.len
|xWH=>oth5 _
|ycs=>hD.uniq hn
|x3X=>.n 400
|CC=>vN 1
|xWI=>blk F'
|xNR=>IW hj
|yg6=>S'.drop W.length
|x3Y=>Jy hjn
|xWJ=>BlA QP
|yct=>spWhole K
|ycu=>spIsRow K
|x3Z=>.at hh
|xWK=>xfE rfl
|x30 ζ=>.mod (n:=ζ)
|ycv=>ns.count k
|xNS=>.v 6
|xCX ζ η=>LT[Kh ζ] η
|ycw ζ=>X.A.mark[π ζ]
|xIx=>A6 j
|x31 ζ=>TD l.most ζ
|xNT=>pv 8
|xNU=>vN ah
|CB=>Α m
|xWL ζ η=>TD[some ζ] η
|yL=>Α b
|tx=>ST p
|yg7=>Ig "__classdict__"
|xNV=>UF l1 n1
|xCY=>UF j hj
|xNW=>by subst h0
|xNX=>Zv 3
|xWM=>se 114
|ycx=>xSv X.A.in1
|xNY ζ=>ST[AV ζ]
|tJ=>xk n
|x32=>EL 253
|x33 ζ=>sD "wide" ζ
|rq=>xED b
|yg8=>.type "ValueError"
|xNZ=>lg 8
|x34=>HS 256
|rf=>RelV x u
|xCZ=>yfs 0 lo
|qY ζ η θ ι=>upd ζ η[.ins θ ι []]
|rQ=>xEK i
|qV=>AL s
|xN0=>.n 6
|x35 ζ=>ζ="waiting"
|qQ=>xKl p
|IB ζ=>λ y hy=>ζ
|yg9=>Gg "are_of_things"
|x36=>Yf nck
|nO=>mg x
|xWN=>Zu Zf
|xN1 ζ η=>L.take[ζ+η]
|xIy ζ η=>AN ζ[tC η]
|xIz ζ η=>.a ζ[Fg η]
|X0 ζ=>AG[ζ]
|ycy ζ=>X0[ζ==sysModules]
|xC0 ζ=>TD xE5 ζ
|ycz=>V4 "tuple"
|x37=>S.xx9 Ub
|xN2=>yy xKB
|xC1 ζ=>(ζ).Pairwise[Le blt kf]
|xN3=>Α xAm
|my=>US b
|xN4=>JD _ 1
|ycA=>xFp "range"
|mr=>QJ k
|x38=>CG mi k
|X5 ζ=>λ p hp=>ζ
|xN5 ζ=>X5[n.pin p ζ]
|ycB=>x0H s1.toks
|x39=>["signs","back","size"]
|xN6 ζ=>xwj[xLa ζ]
|xN7 ζ=>Mh[xLa ζ]
|xN8=>x0L i
|mf=>vj e
|xN9 ζ=>pX[oA ζ]
|ycC=>out.toList.Pairwise[SG.xo0 SG.kInt]
|x4a=>putK QN k
|xOa ζ=>by have:=ζ.1
|mJ=>XM 0
|lV=>IV 2
|xWO=>xFR ln
|xWP=>A5 zF
|ycD=>xLz "range"
|lR=>Q FR
|xOb=>xBb 4
|xC2 ζ=>.m ζ SB
|ycE ζ η=>xs.toList.drop[ζ+η]
|jw=>[ie]
|xIA ζ η=>Ρ[ZY ζ η]
|xOc=>(xGi).take j
|xOd=>Bo e z
|xC3=>xUd o m xw pos
|xOe=>xUd o m [] pos
|xOf ζ=>xTI ζ<cLine
|x4b=>.inl h
|x4c=>Cks K mg
|ycF ζ=>Prt K mg ζ QP CO
|xC4=>x99 hb e
|yha=>yfZ (fs.map (·.1))
|ju ζ η θ ι μ=>by show Tl ζ η θ ι;refine μ
|ycG ζ=>T.take[64*ζ]
|ycH=>OldK s₁.heap s'.heap
|ycI=>xxG κ a
|ycJ=>xxF κ a
|Uo=>chk w p
|qX ζ=>AQ ζ z z
|xC5=>∃o',p6 b o'
|xC6 ζ=>PE ζ elt te
|xC7=>TOk L Pp
|xOg ζ=>yfI (ζ,kw)
|Um=>AN b tb
|xOh ζ=>g1 _ _[BV ζ]
|xOi=>pl SV i
|x4d=>λ j=>rfl
|x4e ζ=>xS7 TR.cl Tk GT ζ wI
|xWQ=>x4e RW
|yhb ζ=>["_law_way",ζ,"_law_row"]
|U8=>ybg H
|xWR=>thn ygA
|xOj=>xCz 3
|TO=>AN e te
|Sw=>COp K mg Cp
|Sq=>xVM C
|xOk=>V7 xHl u
|Sn=>Bdy K mg cB cN
|Sd=>Erx K mg cM cH cK cT
|xWS=>tSl[xts K]
|x4f=>xEN b ck1 g1
|xOl=>xVP e
|xC8=>ZC _ rfl ?_
|SY=>z≤18
|x4g=>["body","head","window"]
|SX=>Tt _ _
|ycK=>(gG a).length
|xOm=>x4a v
|xWT=>Dn [] nl
|bP=>h H1 s _
|ycL=>let N:=_;Cm N xLI
|zS ζ=>3≤ζ
|aP=>zS z
|tE ζ=>uq l[Bv->ζ]
|ycM ζ=>xlH[hq.keep ζ]
|xWU ζ=>(ζ).map kV
|xOn ζ=>ζ∈X.fs
|x4h=>I.cne x
|x4i=>cellK x
|x4j=>KO hiσ
|ycN ζ=>isTrue ζ X.env
|x4k ζ=>Q[.bool ζ]
|xWV ζ=>ζ^j.toNat
|x4l=>.inl e
|x4m=>F.len _
|x4n=>e0.bs b
|yhc=>.seq its'.toArray
|yhd=>pre_splitW hpre
|yhe=>I1.hok.fresh hT
|ycO ζ=>.done[.ret ζ]
|yhf ζ η=>Builtin.«list.sort» (ζ,η)
|ycP ζ=>I.step (ch:=ζ)
|x4o ζ=>by simp [ζ] at hq
|x4p=>Good ps
|yhg ζ η θ=>by obtain⟨ζ,⟨_,_,η⟩,⟨_,_,AW⟩,_⟩:=θ
|x4q=>Ord blt
|x4r=>O.neg _
|x4s=>O.tot _
|x4t ζ=>ζ=A'.length
|xOo ζ η=>R.take[ζ-η]
|yhh=>pe.toList.map two
|x4u ζ=>ζ<Rs.length
|xOp ζ=>min ζ Tj
|yhi=>Int.lt_irrefl a
|xOq ζ=>Os ζ rfl
|x4v=>.refl _
|xOr=>xxI sg
|xOs=>ba.1
|xOt=>bb.1
|xOu ζ=>ao xff[aK ζ]
|yhj=>le_of_le_of_eq p1
|ycQ=>Itm.rep r
|xOv=>num u
|ycR=>u.take k
|ycS=>u.drop k
|xWW ζ=>atKey ζ k
|ycT ζ=>ζ="beginnings"
|ycU=>BP.num u
|x4w ζ η θ ι μ ν=>by obtain⟨ζ,η,θ,ι,_,μ,_⟩:=id ν
|xOw=>aJ WW
|ycV=>T.take i
|ycW ζ=>ζ≠builtinsNs
|yhk=>defaultsOf params
|yhl=>congrArg Nat.pred
|ycX=>fI.at nI
|ycY=>ff.at nf
|xC9 ζ=>ζ<65536
|xOx=>Ll QF
|x4x=>.bl bg
|x4y ζ=>ζ≤F.length
|x4z ζ η=>by unfold ζ at η;omega
|x4A ζ=>.inr[hd ζ]
|yhm=>mk3.take W.length
|yhn=>T'.drop G.length
|ycZ=>.n 65536
|x4B ζ=>ζ<ds.length
|x4C ζ η θ=>Sk ζ η θ Rs.length
|x4D ζ=>ζ<ts.length
|yho=>List.mem_range.1
|x4E=>BadL cH
|aC ζ=>LT e1 ζ
|x4F=>.ref l1
|xOy=>π cL
|xOz=>A6 a
|yc0 ζ=>TD env.frame ζ
|x4G=>BZ 1712
|xIB ζ=>E9 rfl ζ
|yhp ζ=>Int.min_eq_right[Bf ζ]
|xWX ζ η=>.inl[CS ζ η]
|Yy ζ=>Ai Jm ζ
|xOA=>ao xlU
|xOB=>Ud lo
|yhq=>x==Ig "__debug__"
|t8=>sh[AG[yhq]]
|x4H ζ=>SZ[r.hd ζ]
|xOC=>aa B5
|xOD ζ=>EI ζ 300
|x4I=>List EY
|xOE=>DQ Qq
|vP ζ η θ ι μ=>xv0 ζ η rfl θ ι μ
|xOF=>BA Gl
|x4J=>bent Gl
|xOG=>ZY 64
|TP ζ=>xEG ζ 4
|xDa=>vN x
|uO ζ=>Gk[ζ]
|xDb ζ=>uO[xn ζ]
|xDc ζ η=>xyE K "__init__" ζ η f fd
|yhr ζ=>xDc "CodeReader.__init__" ζ
|yhs ζ=>xDc "BitReader.__init__" ζ
|xOH=>IK T0
|x4K=>List sQ
|xWY=>bp AA
|yht=>bm'.contains xKg
|xOI=>Gi Bb
|vO ζ η=>by have q':ζ:=η
|xOJ=>rz 14
|xOK=>vz 1
|Ye ζ=>Eh nl ζ
|xOL=>Iw GW
|xOM=>yM cL
|x4L=>xAd S9.symm Ui.symm
|xON=>Ga TC S9
|xOO ζ=>nr ζ all
|xDd ζ η θ=>xzb xtn ζ[xxx η][xxx θ]
|xOP=>AL GZ
|yhu=>(xKD).setIfInBounds
|x4M=>rO Bool
|xOQ=>Cls K
|xWZ ζ=>xS0 .And ζ
|yhv ζ=>(ζ).push[xvV #[] 0]
|xOR=>yhv[yfv ybO]
|xOS=>xKZ ib
|yc1=>G7 "count" b
|xIC ζ η=>BindsTo ζ fd[sG η]
|x4N=>.int xJ
|xOT=>IP h1
|xOU=>fQ xSR
|xOV=>IntsAre vs ns
|xW0=>xLn []
|Xv ζ=>by apply K6;intro ζ
|xOW=>rG xAX
|x4O ζ η θ ι=>by have ζ:=η;generalize θ=ι at*
|xOX=>K27.Rows K mg
|xOY=>jC 0
|xID=>jC j
|xIE ζ η=>by rw [ζ,η];lia
|xDe ζ η=>by have ζ:Dk η:=CJ
|xOZ=>B.take[xKl 2]
|xO0 ζ=>QR C ζ p d R
|yc2=>xLU false
|xO1=>vN ij
|xO2=>G5 []
|xO3=>xUk 64
|xO4=>HZ xTh V
|xO5=>Array[xAp gO]
|Xq ζ η θ=>Ε[aj ζ] η θ
|xO6=>a.size-1
|yhw=>a.toList.drop xO6
|xO7=>RN AO
|xO8=>xwd Η T.cl
|xO9=>xMD 14
|xPa=>xwp C H' r d
|Sl ζ η θ=>Mn[xKY ζ (Q:=η) ?_ ?_ θ] ?_
|qW ζ=>Dr j hj[Kg.mp ζ]
|xPb=>vN yaI
|xPc=>qq[xGa≠.cell]
|xPd ζ η=>Jl (a:=ζ) (l:=η)
|xPe=>xwt blt kf all
|xPf=>pS 31
|x4P=>xzR b[XI ob b]
|xDf=>x4P c
|SU ζ=>xNi _ ζ
|xPg=>xGA x qu cd
|xPh ζ η θ=>xlJ (N:=ζ) (js:=η) (cl:=θ)
|yhx=>["_law_j","_law_number"]
|xPi=>dD[BY β]
|xIF ζ η=>aZ aX[A9 ζ η]
|xW1=>xFd ea G3
|Xp ζ η θ=>by show(oP ζ,xAZ η θ rfl)
|S7 ζ=>xVR x ζ
|xIG=>A'++T
|xDg=>A'++M
|yhy ζ=>MX ζ hit.typeIs entry_listiter_next
|xPj ζ=>xA1 ζ H N
|xW2=>Kf[Ja FU I.ok.above]
|xPk=>DT 8 Rn
|xPl ζ=>.int[-ζ]
|xIH=>UF x hx
|xPm=>FK 3 hle tl
|qC ζ η=>(∀ζ o,η)->x8U
|lN ζ=>qC c ζ
|xPn=>ycG j
|xII ζ=>ζ->Hp->BY VK
|Rz=>xII Sy
|xPo=>N σ' H'
|xW3=>FnD K mg
|xPp=>Bts K mg
|yhz=>Builtin.bitXor xOz
|xPq=>G7 pD b
|xPr=>xLA xlQ X.list Kn
|xPs=>Ez xyz T.isi Kc
|xPt=>Ga yaQ n1 n2
|yc3=>xwu blt kf all
|yhA=>["_law_j","_law_first"]
|xPu=>KT H QN xs
|x4Q=>fnOf name qual params body scope
|xPv=>OpX Cp Ce CO CK
|xPw=>BadR cH cK cB cT cM cL
|xPx ζ=>xhI cH cK cB cT cM cL[GF ζ]
|Uz ζ η=>ζ->Gr η
|px ζ=>Uz CY ζ
|xPy ζ=>λ _ s'=>ζ
|yc4=>Sum.inl a
|yc5=>Sum.inl b
|yc6=>Sum.inr a
|yc7=>Sum.inr b
|yc8=>K.In base
|WG ζ η=>BkH ζ η c
|xPz ζ=>by rw [e2,ζ]
|yhB=>xPz Array.append_assoc
|xDh=>hl i
|xPA ζ η θ=>λ _ _ _ H _ ζ η=>θ
|Wz=>[b]
|yhC ζ=>λ _ _ _ _ _ _ ζ=>h.elim
|yc9=>rv.get hx
|xDi=>hs i
|yhD=>intBits_le_64 h1
|yda=>xzd s.heap
|Ww=>q _
|yhE=>c.names.lookup x
|yhF=>tupleItemsOf_ ht
|yhG=>wpAny_typeOf hTs
|ydb=>mg d.name
|ydc=>xpS X.prog
|xDj ζ η θ ι=>(ζ,η,θ,ι,os)
|x4R=>by simp at h1
|x4S=>exp rs
|x4T=>by simp at hz
|xDk=>H' p
|ydd=>spMove C
|yhH ζ=>V.str[Str.ofString ζ]
|yhI=>getElem?_pos arr
|x4U=>jp2 ()
|yhJ=>xs.toList.take i
|xW4=>IW hi
|yde=>Qi.mpr h0
|xPB=>Jk e
|xDl=>aJ e
|xDm=>xf1 L
|xDn=>xgy L
|x4V=>["self","way","count","inside"]
|xW5=>am nt
|yhK=>toString ".loop"
|ydf=>by simpa using n
|ydg ζ η=>by obtain⟨ps,ζ,_⟩:=η
|xW6 ζ η=>GT' ζ η base
|xDo=>k eo
|yhL=>List.replicate b
|ydh=>slots3 h1
|yhM ζ=>s23.trans[s4.trans ζ]
|ydi=>.Name "e"
|xPC ζ=>xfh (A:=ζ)
|x4W=>by unfold plc
|ydj=>K27.Wal K
|x4X ζ η=>C6 ζ Z.R.whole η Z.needsize
|xDp=>vN p
|xDq=>ST 0
|xW7=>B7 ck
|xIJ=>by exact z
|yhN=>I2.hok.fresh ρ
|ydk=>FQ I2.kIn
|ydl=>FQ I1.kIn
|xDr=>By x
|ydm=>x8T "sign"
|xIK=>By b
|ydn=>instObj C
|yhO=>putF "rest_size"
|xDs=>BZ 0
|Rp ζ=>ζ->Nat
|x4Y ζ η θ=>by obtain⟨ζ,h2,η⟩:=θ
|xIL ζ η=>Ν ζ η Jam
|ydo ζ η=>Ν "need_size" ζ η
|ydp ζ η=>Ν "are_whole" ζ η
|xDt=>zC p
|pq=>rn r
|xPD=>xE e
|ydq ζ η=>(ζ).app[QU.refl η]
|xW8=>o7 xEE
|x4Z=>.inl[BV rfl]
|WC ζ η θ=>by show(ω ζ η,θ)
|ydr ζ=>Bq "is_number" "is_number" ζ
|yhP=>Gg "need_window"
|xDu ζ η θ=>VC ζ[EX[QK.of η]] θ
|xDv=>AD xs v
|Ek ζ η=>∃W:dD ζ,η
|Xx ζ η θ ι μ=>∀(ζ:η) (θ:ι) (H':Hp),μ
|xDw=>x9a S
|xDx=>[Iq]
|xDy=>AN o
|xDz=>AN o ta
|yhQ ζ=>λ _ _ _ _ _ _ _ _ ζ=>xKL
|pk=>xAw 1
|xPE=>FV e
|xPF=>x≠"__name__"
|xDA=>6≤vs.size
|xDB=>xxQ A s.heap
|xDC=>K27.xzj K mg
|yds=>fQ .plain
|xDD=>xLm S
|xPG=>xK5 scope f cd
|ydt=>x9u b.size
|xW9=>yfs xs.length hi
|x40=>by unfold itm
|pZ=>by show gC r;rfl
|ydu=>xTT h.symm
|xDE=>foldedSetIterable iter X.env x
|xDF=>(BF).set j v
|yhR=>I.hok.fresh bG
|xIM=>by subst z
|Wv ζ η=>by have e2:ζ:=η
|ydv=>typeOf yfT
|xXa=>wz hp
|ydw=>yfU a.size
|xPH=>253+z
|ydx=>Walks.list (prog:=X.prog)
|xIN=>x1S e
|xDG=>yH t
|xDH=>xGI s
|xDI=>xGN r
|yhS=>Ig "rest_size"
|xIO=>by rw [ad,Ji]
|xDJ=>b≤255
|xDK=>k b o
|xXb ζ=>by rw [<-ζ,JJ]
|xDL=>xfX (K:=K) rfl X.isi
|Vl ζ η θ=>by obtain⟨t,ζ⟩:=xwG[X6 η] θ
|YG=>[u]
|xXc=>xTF YG
|xDM=>w4 a xs
|ydy=>Sa K "__init__" "Check.__init__" sCInit
|xDN=>neC b o e hx
|x41=>xuN κ X
|xDO=>xwi [] 0
|xPI ζ η=>yaR (lo:=ζ) (n:=η)
|xXd=>yaS[L.drop q]
|xIP=>xFE [xHr cs]
|ydz=>xrr I hg hm
|xPJ=>Lk[ydz ?_ Xa]
|xDP=>pQ i
|xPK=>xVQ e
|xPL=>xA9 j p
|xPM=>xVT n
|ydA=>lc S p m
|ydB=>TD o.dict builtinsNs
|ydC=>xIw s.heap
|x42 ζ=>["place",ζ]
|xDQ ζ η θ=>xEy 8[λ ζ=>some[CG η θ]]
|xDR=>Hm xzP d
|xDS ζ η θ=>XW ζ η[xSV[.ref θ] rX]
|xDT=>Exc1 K mg p
|yhT=>yhb "_law_cell"
|xDU=>g x σ' H2
|xDV=>PI X QG iter wi
|xDW=>Crs K mg CK CO
|ydD=>LJ dT _
|ydE ζ η θ ι=>by show((_,_,ζ,_,η)=θ,ι)
|xXe ζ=>ζ="state"
|yhU ζ=>xDc "Presser.__init__" ζ
|yhV ζ=>xDc "Reading.__init__" ζ
|xDX=>gj cy[BS≠b]
|xDY=>xi1 H a
|xDZ=>WP w p
|xD0=>fH a b c
|xD1=>Sv _ _
|xD2=>No X G a
|xD3=>xyw CX X E
|xD4=>xfx _ _ _
|xD5 ζ η=>wpS M A E s ζ η sq0
|xD6 ζ η=>LT[LQ _ _ _ _ ζ] η
|xD7=>xfo _ _ _ _
|xD8=>xgM _ _ _ _
|xD9=>xgh _ _ _ _
|xEa=>xfW _ _ _ _
|lM=>h k
|ydF=>λ _=>0
|ui ζ=>o.cls=ζ
|yhW=>assignEach elts
|yhX=>Paired.length r
|ydG ζ η=>h.DictOf[xxA ζ η]
|x43 ζ=>.dict ζ ep
|x44 ζ=>h.Ns1 ζ mA
|ydH ζ=>ζ<h.objs.size
|xXf=>.tbl[ps++more]
|yhY=>storeName X.env
|yhZ=>h.IsListIter it
|x45 ζ=>InstAt ζ x
|x46 ζ=>M5 (pl:=ζ)
|yh0=>N.take P.length
|yh1=>codeAny_func ?_
|ydI ζ=>Ju[Mx.mpr ζ]
|xIQ ζ=>eqV ζ x
|yh2=>call_list_seq p
|yh3=>excClassObj nm'
|yh4=>M4 I.ok.mod.kin
|ydJ ζ=>YN.get (i:=ζ)
|xXg ζ η θ=>B.foldl[λ ζ η=>θ]
|xXh ζ=>Km[Jy ζ]
|x47 ζ=>ζ*T.length
|xIR=>vN y
|x48=>J7 Rl
|x49=>.n 40
|ydK ζ η=>(Pc.cp ζ η).size
|xIS ζ=>ζ=a.size
|yh5=>RM.k.trans hk
|yh6=>b.toList.take 1
|xXi ζ=>MQ[Mb ζ]
|yh7=>RQ.k.trans hk
|yh8=>RQ.f.trans hf
|x5a=>by simp;lia
|x5b=>IR hn
|yh9 ζ=>h.sq0.app[QU.refl ζ]
|xXj=>K0 QF
|x5c ζ=>Y.length=ζ
|x5d=>Pm ?_
|xIT=>ln p
|x5e ζ=>(ζ).keep s5
|x5f=>xm5 ry
|x5g=>Ow hu
|yia=>rawInt pos.line
|ydL ζ=>(ζ).getD .none
|ydM=>fS.at nS
|yib=>PySem.W.WalkO q
|yic=>λ {m n}=>P2.mp
|yid=>IR k.len.symm
|xXk=>two[xGl[n/65536]]
|x5h ζ=>Rs.length=ζ
|x5i ζ=>I2.kIn ζ _
|ydN=>Z.drop 3
|x5j ζ=>A.length-ζ
|ydO ζ=>xgF ζ (·<256)
|ydP ζ=>.li[QK.up ζ]
|yie=>mg "PressError"
|x5k ζ=>.eq (n:=ζ)
|ydQ=>.ref fa
|xIU=>A6 p
|ydR=>some v'
|xPN ζ η=>A5[xr9 ζ η]
|uf ζ η=>Cz ζ H1 η
|xPO ζ=>(q,ζ)
|zR ζ=>[AO,ζ]
|ydS=>xE iter
|xPP=>ST j
|x5l=>Aw WF
|xIV ζ η=>G1[xrv ζ η]
|x5m=>Zv 16
|xXl=>XN 4 1
|x5n ζ=>xSu ζ .cell
|ydT=>AV this
|ydU=>EL 1900
|x5o=>HS 14
|x5p=>HS 13
|xPQ=>HR k
|xXm ζ η θ ι μ ν=>by obtain⟨ζ,η,θ,rfl,ι,μ⟩:=ν
|x5q=>lX B5
|x5r=>AS Fs
|x5s=>HQ Β
|x5t=>BE EH
|uZ=>iz a m
|ydV ζ=>((Str.ofString "key",ζ))
|xEb=>[ydV HW]
|ydW ζ=>.int ζ s.toks
|xXn=>xyu B1
|xXo=>gk H4
|x5u ζ=>(ζ,Z9)
|x5v=>sN 11
|x5w ζ=>xSI ζ .cell
|x5x=>xKj Ζ
|uX ζ=>DT 2 ζ
|x5y=>some 3
|x5z=>Zs zW
|x5A=>xru B5
|ydX=>puts Pp
|x5B=>zU Η
|x5C ζ=>CodeHd ζ c
|xPR ζ η=>x0o[tr ζ η]
|xXp=>xEY p4
|x5D=>x0p hx
|x5E=>Ξ IH
|ydY=>.ret xz9
|x5F=>FJ 64
|zQ ζ η θ ι μ ν ξ=>Zc ζ η θ ι Re μ ν ξ
|xXq=>xE1 Gd
|x5G=>Eg EG
|x5H=>Eg Bp
|yif=>V4 "ValueError"
|x5I=>yt EH
|ydZ=>xAj "code" "length"
|x5J=>xS Bb
|x5K=>xS Ζ
|x5L=>sG F5
|x5M=>cx bq
|uV ζ=>TD ζ u
|UA=>tH++r
|x5N=>IM xKT
|x5O=>CN xKT 4
|x5P=>HQ Xg
|x5Q=>Gz ag
|xXr ζ=>Bn[X4 ζ]
|x5R=>kj h5
|x5S=>BI Cv
|xXs ζ=>by rw [ζ] at h1
|xXt=>FV h1
|x5T=>envX qual scope s.heap.objs.size
|xXu ζ=>ES[IL ζ]
|x5U ζ=>pN ζ Ra.nd
|x5V=>AS Gf
|x5W=>HQ Fz
|x5X=>xLn xw
|xEc=>jA 2 3
|x5Y=>wK WF
|Vk ζ η θ ι=>by show(ζ=η,ω θ ι)
|uU ζ η θ ι=>SC ζ η θ[Wl ι]
|vM ζ=>LT ζ q
|x5Z ζ=>yfL ζ items
|yig=>Int.lt_trans xA3
|yd0=>xuE.mp xA3
|x50=>BI gZ
|x51=>HS 11
|xXv=>yhv[yfA 0]
|x52=>xFX cF
|x53=>HQ xF1
|xPS ζ η θ=>(rfl,ζ,η,θ)
|x54=>oI xF2
|x55=>Aw ic
|vL ζ η θ ι=>dz ζ hr η θ ι bJ
|uT ζ=>EN i ζ
|x56=>HD SB
|x57=>xBf AZ
|xXw ζ=>(ds.getD i ζ).1
|x58 ζ=>TD ζ .cell
|x59=>bj xA2
|vK=>xL0 z z
|uR ζ η=>xT4 hz ζ η
|xPT=>(xTP).map[sgl sj]
|x6a=>xL5 Fs
|x6b=>xL5 xi
|x6c=>jt SL
|vI ζ=>by show(ZT g ζ,CF)
|x6d=>xGm 13
|x6e=>x1s zT
|xIW ζ=>nj ζ ag
|x6f=>nj 0 ag
|x6g=>xxC Η
|uN ζ=>(uq σ' ζ)
|x6h=>x9S[bs.take 4]
|yd1 ζ=>uY (ζ).reverse
|x6i=>wm nV
|x6j=>wk vT
|x6k ζ=>ζ+R.length
|uL ζ=>dU ζ N
|x6l=>ER gF
|x6m=>x16 xGa
|yd2 ζ=>xGY ζ u.length
|uI ζ=>gj ζ[xAg p]
|x6n=>I1.fpOk ρ x0n
|xPU=>xBK 6
|xXx=>(xEG).drop t
|xXy=>(wM).take i
|xIX=>xKo xAq xAq
|xXz=>oX l1 sZ
|xPV=>xHk s
|x6o=>SZ[e[h1.trans z]]
|xIY ζ=>V7[xCq _] ζ
|x6p=>xCr Z6
|xIZ ζ=>x6 hs b ζ
|x6q=>xCt fs
|xI0=>x81 0 ygE
|xPW ζ=>by show(CF,T8 ζ)
|xI1 ζ=>hi QD ζ σ
|x6r=>xnt I.hok eb
|xXA=>xEN b c g1
|xXB ζ=>Kf[Ja FU ζ]
|xXC=>Μ x H' y
|x6s=>Ξ[Aw iV]
|xI2 ζ=>Hp->BY ζ
|uH ζ=>se ζ 1
|uG ζ=>se ζ 0
|xI3 ζ=>Cc ζ ps sp
|x6t=>lh va "take"
|xI4=>FK 3 h3 t3
|xI5 ζ=>FN ζ nx Yg
|xXD=>QN.any[xNz x38]
|x6u=>(xth hB.sm.1 nl).symm
|x6v=>(xth x9Q nl).symm
|xI6 ζ=>uq l[Χ->ζ]
|xXE=>X.stack=x9K
|yih ζ=>xDc "BitRow.__init__" ζ
|yii ζ=>xDc "Opener.__init__" ζ
|yij ζ=>xDc "Course.__init__" ζ
|yd3=>ni none rfl
|xXF=>xGA x x cd
|xPX=>bn b e
|xI7 ζ=>HX xfi ζ xwU
|xI8 ζ η=>by have:ζ:=η;rw [this]
|xPY=>ydA n
|x6w=>Mz ydD
|xPZ=>b::rest
|x6x=>Jr[BV[Jr h]]
|xXG ζ=>DX[hB x ζ]
|xXH=>tailR T.length[cD T]
|x6y=>IM x5O
|xI9 ζ=>hb QD s1 σ H1 ζ I1 q1
|uF ζ=>xy4 C ζ p d e L
|IA ζ=>ζ≤i
|Tz=>yK++r
|VW=>yK++four n
|x6z=>E.le c
|x6A=>id hit
|xXI ζ η=>show¬ζ from η
|xXJ=>Jo Z6
|yd4=>u.keep b
|yd5=>X.H₀ b
|yik=>AllBare s.gens
|yd6=>id I.loc
|xJa=>PW X
|yd7=>r.inj r'
|x6B=>gTup K
|xXK=>y xs q
|lJ=>r x
|xXL=>tOp r
|x6C=>rule i
|xXM=>Ju hj
|yd8=>Kb.mpr h
|yd9=>MU.mpr h
|yea=>xjn outer
|yeb=>CX outer
|yec=>Nv I.kIn
|xJb=>[ov]
|yed=>by simp [this]
|xXN=>IxR X
|xXO=>MtR X
|yil=>Obj.mapSeq f
|yim=>compEnvC scope
|yin ζ=>(ζ).env.cells.lookup x
|xXP=>tt σ
|yio ζ=>wpAny_getItem_of ζ hm
|x6D ζ=>l.length=ζ
|xJc=>VQ c
|yip=>bindName X.env
|yiq ζ=>SeqAt.RcAt.lists (e:=ζ)
|x6E ζ=>by simp [ζ] at h
|xXQ=>val A
|x6F=>num bs
|x6G ζ η=>T.map[λ ζ=>η]
|x6H=>Jk xp5
|xXR=>aJ hp
|xXS=>IW l1
|x6I=>["signs","place"]
|x6J=>Ly hj
|xXT=>Jd hc
|yee=>by have:=h.sq0
|YF ζ=>ζ++out
|xXU=>xfR hO
|yir=>Nat.le_zero.1
|yef=>xxG.go hI
|yeg ζ=>ζ++out.reverse
|x6K ζ=>(NJ ζ).mp
|yeh=>xxF.go hI
|yei=>xy7.mp hk
|yej=>by simp;omega
|yek=>X.drop n
|yis=>l.eraseIdx i
|xXV=>Sm Rs
|yit ζ η=>by simp only [bne_self_eq_false,ζ,η]
|x6L=>Lev sg
|yel=>JC.mp hq
|xJd=>[av]
|x6M=>LnOf C
|yiu=>W13.xst tok.six
|xJe=>k H2
|x6N=>IY hto[IV _[xMJ[IY Yl QY]]]
|yiv=>rawInt pos.col
|yiw=>.Lambda params
|yix=>C.keeps I.bk
|yiy=>h h'.objs.size
|yiz=>toString "min"
|yiA=>Uh.heap.get? b
|x6O=>CK.T w
|xXW=>xft FC Y.Z
|xXX=>xfS h1 h2
|xXY=>id hR
|xXZ=>fC 16
|x6P=>PrAt C
|xX0=>fr5 _
|xX1=>s67 _
|xX2=>xgn hw
|x6Q=>Fits S
|yiB=>Inv.unhand I2'
|xX3=>xuW ok
|yem=>.run rfl
|yen=>nope rfl
|yeo=>λ _=>hm
|yiC ζ=>by exact Nat.one_lt_two_pow ζ
|xX4=>xwb ..
|xX5=>xfp hN
|x6R=>PaA QP
|xX6=>hb H1
|yiD=>["_law_count"]
|x6S=>ln rfl
|yep ζ=>Ls.cat (A:=ζ)
|xEd ζ=>LT Je ζ
|xX7=>by rw [LD]
|xJf=>π r
|xJg=>π o
|xX8=>π cB
|xX9=>π l3
|x6T=>some r
|xYa=>BZ 12
|xYb=>Α ah
|xJh=>Α c
|xEe ζ=>Γ e1 ζ
|xJi=>xEy n
|yiE ζ=>Builtin.bitXor[ST ζ]
|xYc=>by exact ih
|xYd=>BN TC
|xYe=>K' H2
|xYf=>by cases r1
|xEf ζ=>CR rx ζ
|xJj ζ=>by show(xAJ,CR h2 ζ)
|yeq=>.ref wt
|xYg=>oA FR
|xJk=>oA v
|xYh=>by exact bK
|xYi=>xfy xD
|x6U=>.int k
|xYj=>Cc 33
|x6V=>BZ 230
|xJl=>Dl A
|xYk=>Θ xZ9
|yiF=>Y'.Pairwise DL
|yer=>(xKd).size
|x6W=>ZY 256
|TY=>xj 1
|xYl=>ZV A1
|x6X=>lU 300
|yiG=>xv4 mainGlobals
|xJm=>xKh n m
|xYm ζ=>xay[xSH ζ]
|xYn=>aO Z9
|x6Y=>Bn YU
|xYo=>rY τ
|yiH ζ=>List.replicate ζ none
|xJn=>Zh p
|x6Z=>pP Pp
|xYp=>x80 xEM
|xJo ζ=>by rw [ζ,IU]
|yiI=>Gg "need_size"
|yiJ=>Gg "weight_of"
|xP0 ζ=>HA[Zg ζ]
|xYq=>Az xSP
|xYr ζ=>Zu[mX ζ]
|xYs=>yM cB
|xEg ζ=>LT xE3 ζ
|xJp ζ=>by show(ZT g1 ζ,Aj)
|yes=>V4 "min"
|yiK ζ=>I.base.there b o ζ hx
|xP1=>yiK e
|xP2=>pcAt S q
|x60 ζ=>gD pyNext ζ
|x61=>x0w xzP
|xYt=>F8 a ea
|yet=>(xKA).drop
|xYu=>base.Ns mainGlobals mg
|xEh ζ=>ω Zk ζ
|xYv=>DQ EE
|yiL ζ η=>Ez ζ η PyProof.Rows.boot_all
|yiM ζ η=>Ez ζ η PyProof.Rows.boot_sum
|yiN ζ η=>Ez ζ η PyProof.Rows.boot_max
|xP3 ζ η θ ι μ ν=>∀(ζ:Nat) (η:θ) (ι:μ),ν
|yiO=>bootBuiltins x
|x62=>x0w xKP
|yiP ζ=>gN (hZ.symm.map (·.2)) ζ
|x63=>Y6 Re
|TX ζ η θ ι=>(ζ,η,θ,ι,?_)
|xYw=>IY fj
|xP4=>vN a
|xYx=>t σ H1
|xJq=>xAC H
|xYy=>Br GC
|x64=>y9 hp
|xP5=>X3 s
|x65=>yfH zF
|xJr=>me W
|xJs=>me B
|xJt=>xFz p
|x66=>vj wt
|uE ζ η θ=>yk[.int ζ] AK η θ
|YE ζ=>by have z:=ζ
|xYz=>max 1
|x67=>UK D5[bE x2d]
|x68=>Walk L
|yeu ζ η=>x0S ζ[wpS_bind η]
|xJu=>[V.bl true]
|xJv=>t σ H Q
|xYA=>ST aF
|xJw=>Dl L
|yiQ=>V.int.inj xA3
|xYB=>(yfA 0).objs.size
|yiR=>x9y its.toArray
|xJx=>xEA 4
|x69=>Q none
|x7a=>xwe rfl
|xEi=>by have QW:F9:=CJ
|YD ζ η θ ι μ=>fw ζ[A5 η] θ ι μ
|xYC=>Rk X N cl s3 H3
|xYD=>x0R ke
|x7b=>yfF[x0f #[]]
|xYE=>iU 35
|x7c=>GQ Q0
|x7d=>Wj .Eq
|xP6=>xGf x y
|xYF=>Value.ref T !=Value.none
|xJy=>jI b u
|YC ζ=>by have q:=ζ
|xYG=>xL6 s'
|x7e=>xL6 st'
|xYH=>xL6 Zf
|xYI=>two[xGl n]
|xYJ=>g x σ H'
|yiS=>yfQ pl.isList
|x7f=>Meth X.K C
|xYK=>Wb H2
|yiT=>xUr zs.length
|xYL=>b∉ex
|xJz=>wo b
|yev=>closureFor scope X.env
|xP7 ζ η=>PW.pt[xfd ζ[ii η]]
|xYM=>Beg L
|x7g=>xxt B5
|xYN=>ao xwS ag
|xJA=>YJ k
|xYO=>W i m σ
|xYP ζ=>CU m[W 0 m σ ζ]
|xJB=>CXD D P w
|x7h=>Jq Yh lC
|x7i=>xGC nx
|xYQ=>tots[U9 xEM]
|xYR ζ=>xMp[W5 ζ]
|x7j=>Y.length-pl
|xYS=>QH 68 2
|xJC=>Gr[H3 c]
|xP8=>xME k
|xEj ζ=>LT xzH[JX ζ]
|x7k=>x2p t''
|xYT=>yat H'
|xYU=>xBO Y.X
|xYV ζ=>aZ[jl ζ]
|xJD=>k b u
|xYW=>lD Mg
|xJE=>XE t
|xYX=>.w SL
|xJF=>xMN N
|xYY ζ=>AJ[IC ζ]
|xJG=>xMQ f
|xYZ ζ=>dot c[λ j=>ζ] c.length
|yew ζ=>js.map[λ j=>ζ]
|x7l=>xv8 kf qi
|xY0=>Sa.i l9 c9 k9
|xY1=>QK K H1
|xY2=>QK K H'
|x7m=>Ju Z5
|uD ζ η θ=>qk ζ[xe1 bJ xzY Z7 η θ xx7]
|xJH=>Rds K mg
|xJI ζ=>callWith pos f first ζ[ybt pos]
|xY3 ζ=>ae[rh ζ cu]
|xEk ζ=>kW ζ pl hq
|xY4 ζ=>rY[kU Η ζ]
|xP9 ζ η θ=>(ζ,(Bf η),θ)
|xY5=>tb σ H1
|xJJ=>VQ b o
|x7n=>xIc res
|xJK=>x3D e
|xQa=>xIu i
|xY6=>PG mD QG
|xY7=>NewA X QD
|x7o=>xzu sq0 st'
|xY8 ζ=>Q Ct[WA ζ]
|xJL=>ycy a
|xJM=>Inv X Rq σ
|xY9=>xGB[xv1 none] kB
|xJN=>ycF C
|xJO=>ycI b sq0
|xJP=>ycJ b sq0
|yiU=>yhb "_law_at"
|xZa=>hint+la
|x7p=>Jq TK hn
|YB ζ η θ=>by show ζ;show Ai η θ
|xZb=>rG[jM b]
|xZc=>xII UB
|yiV=>xW3 "pieces_of"
|x7q=>yc3 out
|x7r ζ η=>(ζ++η).toArray
|xZd=>x41 D0 Eb
|x7s=>A σ' H'
|x7t=>B σ' H'
|yex ζ=>pe.toList[ζ]?
|xQb=>AD ts t
|xZe=>AG[behindInMarks op b]
|TV=>AU _ e
|xJQ=>x9r H' x H2
|xZf=>Un fs ex
|xQc ζ η θ=>xzm P w ζ η base θ outer
|xZg=>xfu I1 ea
|x7u=>cap js σ
|xJR=>su _ _
|xJS=>VP _ _
|xJT=>YR _ _
|xZh=>Hds K mg
|xZi=>Tbs K mg
|xJU=>s7 _ _
|xZj=>Ers K mg
|xZk=>x8Y it h'
|xJV=>MH κ a b
|xZl=>aR s2 H2
|xZm=>xfT k.good k1 k2 _
|xZn=>Gg "ones" xxb Jaj fO fdO
|yiW=>xLA xlQ T.list Kn
|x7v=>yiW gP
|xJW=>Rdr K mg C
|x7w=>xfB Co.F S0.Zb R0.W.cl T.m T.b GT
|xZo=>cs C0 C1 C2 C3
|xJX=>xwI _ _ e
|xZp=>xrp JV L8 MB xfl
|xZq=>Gg "need_row" xwZ Jaf fN Xd
|xJY ζ=>Wal K mg B D ζ CW C0 C1 C2 C3
|yiX=>Value.bytes b
|yiY=>Paired.mapP r
|xZr=>λ _ q=>q
|yiZ=>I.base.frzs _
|Sr ζ=>t ζ σ
|yey ζ=>exec ζ X.env
|yi0=>.UnaryOp .Not
|yi1 ζ=>by refine wpAny_execs_cons ζ
|x7x ζ η θ ι=>by obtain⟨xs,ζ,η,θ⟩:=ι
|yi2=>I.list_inj hy
|yi3=>IsRangeIter _
|yi4 ζ=>h ζ s.heap.objs.size
|yi5=>codeRec_of KX
|yi6=>r.append r2
|x7y ζ η=>if c then ζ else η
|x7z=>xro rv
|yi7=>intItems ys
|xZs=>xGa=.local
|yi8=>I.hok.kept hk
|yi9=>by simp [Value.isInt]
|yja=>I.base.keep c
|yjb=>I.base.free c
|yez ζ η=>by obtain⟨cd,ζ,_⟩:=η
|yeA=>.type t
|yjc ζ=>(List.range ζ).all
|xEl ζ=>(ts++ζ).map V.ref
|yeB ζ=>xfe ζ T.range
|xZt ζ=>xfF ζ key
|yjd ζ η=>Nat.succ_lt_succ[Ja ζ η]
|x7A=>by simp [e]
|yje=>pendingOf st'
|yjf=>N2 hma.symm
|yeC ζ η=>by rw [ζ,η];dsimp only
|yjg=>Nat.max_le.2
|yeD ζ=>((ζ,r.length))
|yjh ζ=>(l.map ζ).eraseIdx
|xQd=>Mm 3 _
|yeE ζ=>(ζ).map V.int
|yji=>sm.trans s3
|yjj=>Z'.map (·.1)
|yjk=>Z'.map (·.2)
|yjl=>s05.trans s6
|yjm=>Nat.le_min.2
|yjn=>Paired.snoc r
|yjo=>s13.trans s34
|yjp=>J2.turn fS2
|yjq=>Int.le_refl _
|vG=>T w p
|x7B=>two n
|yjr=>mg "BadCheck"
|x7C ζ η θ=>xwi ζ η[b.drop θ]
|yeF ζ η=>by obtain⟨k1,ζ,_⟩:=η
|yjs=>IR hnb.symm
|yjt=>K27.Ck.Fits S
|yju=>s13.trans s4
|yeG ζ=>GR.sz (P:=ζ)
|x7D=>xf8 hb
|yjv=>s4.trans s56
|yjw=>spAreWhole K
|yeH ζ=>λ _ _ _ k=>ζ
|x7E ζ η θ=>["_law_row",ζ,η,θ]
|yjx=>["_law_part"]
|yjy=>K27.Ck.Rals K
|xZu ζ=>LT hlen ζ
|xZv ζ=>LT this ζ
|yeI ζ=>xF (ζ).length
|xZw ζ=>(ζ).map f
|SS ζ=>TD ζ b
|SH=>DV P X
|xQe=>by rw [z]
|xZx ζ=>Cm ζ rfl
|yjz=>xvV kv.toArray
|Xw ζ η θ=>sP ζ H η θ
|yeJ ζ=>I.write ζ bK
|SE ζ=>ζ=.non
|xZy ζ=>Cc ζ Jaf
|yjA=>X.Pairwise DL
|yjB=>l.Pairwise DL
|xZz ζ η=>.bl[FO ζ η]
|x7F=>ZZ Rl
|x7G=>bp A1
|x7H=>IL hw
|xZA ζ=>(o,ζ)
|yjC=>IK its.length
|yjD=>xv4 sysModules
|xQf=>xEK j
|x7I ζ η θ=>x8X ζ Y.checkof η θ
|yeK ζ=>AL (ζ).length
|yjE=>κ.keyOf BS
|yeL ζ η=>bindArgs ζ[sG η]
|xJZ ζ η θ=>BJ ζ η[decide_eq_decide.2 θ]
|xQg ζ η=>ae[xzQ ζ η]
|x7J ζ η=>Bq "read" ζ η
|x7K ζ η=>Bq "tell" ζ η
|yjF=>Gg "in_pairs"
|yjG=>Gg "_law_two"
|yeM ζ=>congrArg ζ h
|uC=>H b
|yjH=>excMatches yw
|xQh ζ=>by rw [e1,ζ]
|xJ0 ζ η=>by rw [aj ζ,η]
|x7L=>Ge h2
|yjI=>x87 Value.none
|x7M ζ=>V' X.A.in1 ζ _
|xEm ζ η=>by show(x7M ζ,Gp η)
|yeN ζ=>x0t "slice" ζ
|yeO ζ=>gD setFlight ζ
|xEn ζ η=>xzR ζ[XI UD η]
|yjJ=>x89 xs.length
|xQi ζ η=>FZ n.s0 ζ η
|xJ1 ζ η=>Fx ζ[yD η]
|yjK=>failedOf Ut
|xEo=>t {nx:=λ _ H'=>x8U,rt:=Q} xLE H
|x7N=>kj hp
|yjL=>Sv.trans xwI
|x7O=>vj ck
|xQj=>by simp [pairs] at hb
|yjM=>f9 "finished"
|xEp ζ η=>Cs vs ζ η
|xJ2 ζ η=>HU[xFI ζ] η
|x7P ζ=>DM[.inr ζ]
|x7Q=>pH ha
|x7R=>d9 Pp
|xEq ζ η=>kS H4 ζ η
|yeP ζ=>xuE.mp[Jd ζ]
|yjN ζ=>x02 ζ (Z'.map (·.2))
|xZB ζ η=>upd[uo ζ η]
|x7S=>x9z D0
|x7T=>xKq wC
|yjO ζ=>a.setIfInBounds ζ ke
|x7U=>s'.heap.update c[x0f #[]]
|RZ ζ η θ ι μ=>by show([ζ],SC η θ ι μ)
|xZC ζ=>W ζ m' σ'
|yeQ ζ η=>C.filter[xBl ζ η]
|xZD ζ=>xwf ζ e cls
|xZE=>xZD h'
|RO ζ=>Wg ζ z
|xZF=>Ν "is_whole" xzF Jaa
|xQk=>vo o
|x7V ζ η=>show vo ζ from η
|yeR ζ=>getItem ζ x1u
|yjP=>rest.take s
|xQl=>wj u
|xEr ζ η=>Μ ζ s' η
|xZG=>yae co2 wt1
|xQm=>8*D.length
|xQn=>QH x 2
|LB ζ=>DX[hb x ζ]
|xQo=>xrq t.wb t.tb w
|xZH ζ=>x82[λ p=>vN ζ]
|xZI=>xZH[yy []]
|xJ3=>uw H g wt
|CP ζ=>(E5 B ζ)
|xQp ζ η=>xzE[JT (ζ,.inr η)]
|Xo ζ η θ=>SC ζ η CJ[Gy θ]
|An ζ=>jq ζ Q s
|Ag ζ=>Sk ζ l ds
|uB ζ η θ=>(∀ζ∈η,θ)
|xZJ ζ=>ζ="rest"
|x7W=>zy cs
|xJ4 ζ η θ=>Uc ζ[te σ3 H5 η] θ
|dO ζ=>Bt ζ k Z
|uA ζ η θ ι μ=>by show([ζ,η,θ,ι],μ)
|vF ζ=>Int->ζ
|dN ζ=>se ζ 2
|xQq ζ η=>(SZ ζ,SZ η)
|x7X=>x0K[xz1 wG]
|x7Y=>qX this
|yjQ ζ=>xDc "Head.__init__" ζ
|xEs ζ η=>Sa K ζ η st dV
|x7Z=>A'++Dt
|dI ζ=>ZX H l ζ
|x70=>grp b G T'
|xZK=>L7 3 _
|x71=>Mc[MJ hj]
|yjR ζ=>(h.trans ζ).cons_inv
|vE ζ η θ ι μ=>(ζ,_,η,θ,ι,μ)
|xZL ζ=>xf0 lk Ue ζ len
|xQr=>h h'
|d8 ζ=>∀h',ζ
|yjS=>Value.bool b
|yjT=>Value.type n
|yjU ζ=>by obtain⟨_,_,_,_,e⟩:=ζ
|yeS=>List β
|yjV=>z.sameBut hs
|yeT=>s'.os=s₁.os
|x72=>LC ?_
|x73 ζ=>I.kIn ζ o
|xQs=>PG X
|yjW ζ=>ζ=s1.heap.objs.size
|x74=>f2 b hb
|yeU=>binT ha
|x75 ζ η θ ι μ=>by obtain⟨o,ζ,η,θ,ι,_⟩:=μ
|xQt=>xfK C
|xQu=>M9 _ _
|x76=>KW ?_
|yjX ζ η=>MX ζ η entry_tuple_getitem
|xZM ζ=>IX (m:=ζ)
|yjY=>typeIs_int s
|xQv ζ=>xrl ζ wi
|yjZ=>hsb.extBut b
|yj0=>intKind_is P
|xZN=>fr b hb
|yeV=>clsIn K
|yj1=>I1.landed fr
|yeW=>O2 c.hd
|xQw ζ η θ ι=>(ζ).foldl[λ η θ=>ι]
|xZO ζ=>256^(ζ).length
|yj2=>rlF L.length
|xQx=>xlI W
|xQy=>xo1 O x
|x77 ζ η=>by exfalso;have:ζ:=η
|x78=>jp ()
|x79=>Om ..
|xQz=>wt p
|xZP ζ η=>xfm ζ (B:=η)
|xQA ζ=>occ ζ q
|yj3 ζ=>s1.heap.objs.size+ζ
|yj4=>sm.trans s5
|yeX ζ=>U3.length≤ζ
|yeY=>LCaps X
|xQB=>kf j
|yj5=>Data.dict es
|yeZ=>xwx true
|ye0 ζ=>(("before",ζ))
|yj6=>s.testBit w'
|vD ζ η=>sld[ζ++η]
|yj7=>mg "BadMark"
|yj8=>mg "BadHead"
|yj9=>mg "BadTail"
|yka=>W13.xst k.six
|ye1=>V.bl bg
|ykb=>dw "waiting"
|ye2=>xgw Wi.F
|xZQ=>wn F i
|ykc=>pb.facts tw
|ykd=>I2'.hand nE'
|x8a ζ=>xfZ (K:=ζ)
|ye3=>xuW true
|ye4=>.fin fn
|ye5=>.one hb
|xQC ζ=>xoj ζ σ
|ye6=>tOp rEq
|yke ζ=>(s.trans ζ).trans
|xQD=>d.1
|ye7=>hand hi
|ykf=>K27.Ck.Txt K
|ykg=>K27.Ck.Chk K
|ykh=>K27.Ck.Bks K
|yki=>K27.Ck.Prz K
|ykj=>K27.Ck.Erx K
|ykk=>K27.Ck.Prt K
|ykl=>K27.Ck.Rdr K
|ykm=>K27.Ck.Rds K
|ykn=>K27.Ck.Tbs K
|yko=>K27.Ck.Tbk K
|ykp=>K27.Ck.CRe K
|ykq=>K27.Ck.COp K
|ykr=>K27.Ck.Bdy K
|yks=>K27.Ck.Lks K
|ykt=>K27.Ck.Lok K
|yku=>K27.Ck.Lws K
|xQE=>π t
|ye8=>model P
|ykv=>xF ns.length
|ykw=>xEy xs.length
|xQF=>ST q
|xZR ζ η θ ι μ=>by obtain⟨e,ζ,η,θ,ι⟩:=μ
|xQG=>B7 a
|xQH ζ=>AD σ ζ
|x8b ζ=>CG ζ .non
|xQI=>a.2
|yV ζ η θ ι=>xZ8 ζ η θ ι h
|ykx=>putF "state"
|xQJ=>lj a
|xQK=>BZ 1
|xQL ζ η=>xKb ζ rfl η
|xQM=>[E4]
|x8c=>ZZ h1
|lG ζ η=>Ε e ζ η
|xQN=>x0c 2
|xQO=>ZY 2
|yky=>E1 xs.length
|d5 ζ η=>xzS ζ rx η
|ykz=>IK fs.length
|Xh ζ η θ ι=>upd ζ η[.ins θ TF ι]
|xQP=>Zp Z9 Z9
|xQQ=>Hm pE co
|ykA=>AL Rb.length
|x8d=>Bn hp
|ye9=>(sA).app
|xQR=>zx 2
|xQS ζ=>Zj ζ nt
|xQT=>rz 2
|xQU=>x0l b
|xQV=>p9 i
|xQW=>Cc 2
|xQX=>xKn k
|WV ζ η=>x0a K ζ η
|kz ζ η=>rN[F.F.okE ζ η] _
|ykB=>Gg "runs_of"
|ykC=>Gg "bits_at"
|xQY=>x83 i
|xQZ=>V7 ygA us
|x8e=>W.length+v
|xJ5 ζ η θ=>aa ζ[zM η θ]
|ykD=>xs.extract i
|xQ0=>mq y x
|x8f ζ=>.int ζ t2
|xQ1=>nz i
|xJ6 ζ η=>Ty[codeIn K ζ η]
|xZS ζ=>xJ6 ζ qual
|x8g=>fu Hi
|xQ2=>yfB o
|xZT=>zB d d4
|ykE=>K27.Ck.cpy S
|xQ3=>nsIn K mainGlobals
|cq=>α->κ
|xQ4=>xSX n
|ykF=>US Rb.length
|xZU=>p≠x
|ykG=>.Subscript o
|xQ5 ζ=>vB ζ Aq
|xQ6 ζ=>Bm ζ.1
|yfa=>.cons a
|ykH=>xKK kitx_list
|ykI=>xKK kitx_dict
|xQ7=>af i
|xQ8=>xTb x
|ykJ=>fs.length<1000
|xEt=>xAw 0
|xZV=>BP.val[C.take i]
|xQ9=>[xFn]
|xRa=>xKZ j
|yfb=>.int lo
|x8h=>X3 ?_
|x8i=>KM x9d
|xRb=>R x9g s'
|ykK=>PassesOwn xFs
|yfc=>Vals ys
|yfd=>pure[.type "method_descriptor"]
|xRc=>me T
|xRd=>Zo T
|xRe=>Zo B
|ykL=>f9 "waiting"
|x8j=>IJ H []
|xEu ζ η θ=>oP[Uc ζ η θ]
|yfe ζ η θ=>List.foldl ζ η[List.replicate θ its.toArray]
|x8k ζ η=>FV ζ[.inr η]
|xJ7 ζ η=>(ζ,?_,η)
|xJ8 ζ η θ ι μ=>by exact(ζ,η,θ,ι,μ)
|cg ζ=>∃xs,ζ
|xZW=>wJ Rc hi
|xRf=>xTE y
|xRg=>BG "things" d []
|xRh=>x04 u
|xRi=>λ l nl=>A1
|xRj=>Ty[X.fn x]
|xRk ζ=>x1a ζ .c
|xRl=>σ.length=n
|xRm=>xLD b
|xRn ζ=>xBg xFV ζ
|x8l=>xq Yd
|x8m=>xrf T DJ
|yff=>RelV Wd
|ykM=>xGk T'.length
|yfg=>List x9J
|xRo=>Meth K C
|bS ζ η θ=>aT rfl[λ ζ η=>θ]
|xZX=>PI X tg
|yfh=>.int wy
|xRp ζ=>yd ζ zW
|x8n=>by unfold noteFrame;simp only [hf]
|xRq=>xMk f
|xRr ζ=>kR ζ tA
|xZY=>xzM[253+z]
|xRs=>YJ i
|x8o=>hasDictIn K C
|xRt=>xUJ s
|yfi=>x1U none
|ykN=>tail_any hm.typeIs slot_dict_getitem.lookup
|ykO=>yf5 X.length
|xRu ζ=>xBI H1 ζ
|xRv=>T.obj _ _
|x8p=>show False from r
|xRw=>fC_no _ _
|xRx=>3+F.length
|xRy=>Due L rest
|xRz=>kk a b
|x8q ζ=>(ζ).flatten++tail
|xRA=>.int 1 v
|xJ9 ζ η θ=>xKo ζ[Fv η θ]
|xRB ζ=>aJ ζ Vf
|xRC=>tOp[xsH K]
|xRD=>x0d h
|yfj=>xBZ Unit
|xRE ζ=>Pd ζ[Xi e]
|xRF=>xHj s
|xRG=>CpR R e
|xRH=>ShG L e
|x8r=>xv8 kf k
|x8s=>(xEJ).take k
|xRI=>x0y b
|xZZ=>xU2 st' L Rs
|xRJ=>b∈X.ex
|x8t=>λ _ _ _ e=>e
|xRK ζ=>bx ha[sk ζ]
|x8u=>yy xNt
|xRL ζ=>hc QD ζ σ
|x8v=>x3p xMK
|xRM=>xVS e
|yfk ζ=>(σ',ζ,I.unwish,q)
|yfl ζ=>(σ',ζ,I.unlift,q)
|xRN ζ=>xWc Re ζ
|x8w=>by show(Aj,VB bL)
|xRO=>xlG I hg hm
|xRP ζ=>LE->BY ζ
|yfm ζ=>ζ=items.size
|x8x=>Rf.xeE K rfl
|x8y ζ=>kla_obj "<lambda>" ζ params body scope
|x8z=>.m 3 Β
|xRQ=>.m 2
|xRR=>x4c C
|xRS=>V1 H ts ps
|xRT=>(ycL)
|xRU=>wi σ H
|x8A=>hint+of
|xRV=>kp7 _ _
|yfn=>xxJ P pos
|x8B=>yfn qual
|xRW=>s56 _ _
|xRX=>TxG R W
|xRY=>kp6 _ _
|xRZ ζ=>xSN ζ Pp[DV W T]
|xEv ζ η=>TD[findIn K C4 ζ] η
|xR0=>pW[xtk st] t
|xR1=>notedBy bM A env
|ykP=>A'++M.reverse
|xR2 ζ=>Uz jR ζ
|xR3=>f4 b o
|xZ0 ζ η=>thn ζ[λ _ η z9=>?_]
|ykQ=>A.deeper xPG
|yfo=>CXD D X.prog X.w
|x8C=>grp b G T
|ykR=>.compLoop xIP
|xR4=>A v H'
|xR5=>B v H'
|xR6 ζ=>xxo ζ [] E0
|yfp=>Bs.flatten++tail
|x8D=>uo H[xKI true]
|xR7 ζ=>x4 ζ xXC
|x8E=>hidT h H
|ykS ζ η=>λ us ζ⟨xs,H1,I1,r,z,q⟩=>η
|xEw=>by intro x hx
|x8F ζ η=>(xrg ζ η).symm
|x8G=>.cp bk z
|x8H ζ η=>if ζ then some η else none
|x8I=>xFg b e
|ykT=>x7g Z.pr.R.cl
|xR8=>CRd K mg C
|x8J=>Yc c z
|x8K=>xAY _ _
|x8L=>xAY _ BH
|xR9 ζ=>aZ[A9 rC ζ] aX
|yfq=>s'.os=s.os
|xSa=>PR l m
|xZ1=>J8 _ _ _
|xSb=>xyI K mg C
|xSc=>kk _ _
|xSd=>s0 b o e
|xSe=>xsG T Rs k
|x8M=>UF l5 n5
|ykU ζ=>Ν "need_lengths" ζ Jah
|xSf=>MA κ a b
|xSg=>Q2 H A
|xSh ζ=>.add (n:=1) ζ .c
|xSi=>TxX ok R W
|xSj=>Ty[isFn K HW]
|xSk=>x0y 0 [] []
|xSl=>xSL o e n hx
|ykV ζ η=>xSD f (oc,od,.func ζ,η)
|xZ2 ζ=>ykV ζ osl
|x8N ζ=>xEv ζ none
|xSm=>xO0 H t
|xSn=>xPj C T
|xSo=>Shw K mg B D
|ykW=>Prz K mg B D
|xZ3=>ykW G' CW C0 C1 C2 C3
|xSp=>h QD s σ H
|xSq=>PB W T R
|xSr=>∃sl,p6 b {o with slots:=sl}
|xSs ζ=>ykV ζ sl
|xZ4 ζ η=>xfV (P:=ζ) (w:=η) (base:=base) Pu.F
namespace NL
inductive E where
 |v (i:Nat)
 |n (k:Nat)
 |a (x y:E)
 |m (k:Nat) (x:E)
 |w (x:E) (k:Nat)
def At:LE->ET
 | [],_=>0
 |x::_,0=>x
 |_::l,i+1=>At l i
def E.d (c:LE):Rp E
 | .v i=>xMN i
 | .n k=>k
 | .a x y=>vw+xHQ
 | .m k x=>k*vw
 | .w x k=>vw*k
def E.k:Rp E
 | .v _=>0
 | .n k=>k
 | .a x y=>x.k+y.k
 | .m k x=>k*x.k
 | .w x k=>x.k*k
def E.p (j:Nat):Rp E
 | .v i=>Hn i j 1 0
 | .n _=>0
 | .a x y=>xHR+y.p j
 | .m k x=>k*xHR
 | .w x k=>xHR*k
def dot (c:LE)(f:ET):ET
 |0=>0
 |i+1=>dot c f i+f i*xMN i
theorem xji:tK c LE i Nat[IA c.length][xMN i=0]
 | [],_,_=>rfl
 |_::_,0,h=>absurd h[xAc di]
 |_::l,i+1,h=>xji l i[OG h]
theorem xpW (c)(f g:ET):∀N,xCf[f j+g j]=xRq+xMk g
 |0=>rfl
 |N+1=>by
  show xCf[f j+g j]+(f N+g N)*xJF=_;show gA[xpW c f g N] LV Nat.add_add_add_comm
theorem xqc (c)(k:Nat)(f:ET):∀N,xCf[k*f j]=k*xRq
 |0=>rfl
 |N+1=>XC[xCf[k*f j]+k*f N*xJF=k*(xRq+f N*xJF)][xqc c k f N] MR KL
theorem xnF (c)(k:Nat)(f:ET):∀N,xCf[f j*k]=xRq*k
 |0=>(Od k).symm
 |N+1=>XC[xCf[f j*k]+f N*k*xJF=(xRq+f N*xJF)*k][xnF c k f N] LV Nat.mul_right_comm
theorem xmU (c):∀N,xMk ydF=0
 |0=>rfl
 |N+1=>by show xMk ydF+0*xJF=0;rw [xmU c N,Od]
theorem xpX (c)(i):∀N,xCf[Hn i j 1 0]=if i<N then xMN i else 0
 |0=>rfl
 |N+1=>by
  show lP[xCf[Hn i j 1 0]+EM[i=N] 1 0*xJF=_][xpX c i N];rcases PQ i N with h|h|h
  ·show kh[Ju h][Jk[Kf h]] Od[Ju[NX h]]
  ·subst h;rw [Jk xFG,CD,P1,Ju QI,Kq]
  ·rw [Jk[Nat.lt_asymm h],Jk[K4 h],Od,Jk[Zs h]]
theorem E.sum (c:LE):∀x:E,vw=x.k+xYZ xHR
 | .v i=>by
  show xMN i=0+xYZ[Hn i j 1 0];rw [xpX,Kq];by_cases h:i<c.length
  ·show w6 h
  ·show Wf h[xji c i[xSF h]]
 | .n k=>zG[k=k+dot c ydF c.length] xmU
 | .a x y=>by
  show vw+xHQ=x.k+y.k+xYZ[xHR+y.p j];rw [xMy x,xMy y,xpW,Nat.add_add_add_comm]
 | .m k x=>XC[k*vw=k*x.k+xYZ[k*xHR]][xMy x] xqc MR
 | .w x k=>XC[vw*k=x.k*k+xYZ[xHR*k]][xMy x] xnF LV
def le (x y:E):xVA
 |0=>Nat.ble x.k y.k
 |i+1=>le x y i&&Nat.ble[x.p i][y.p i]
theorem xjs (c)(f g:ET):∀N,uT[i<N->f i≤g i]->xRq≤xMk g
 |0,_=>ρ
 |N+1,h=>IP[xjs c f g N λ i hi=>h i[NX hi]][O5 _[h N[Lu N]]]
theorem xjK (x y:E):∀N,Ty[le x y N]->x.k≤y.k/\∀i,i<N->x.p i≤y.p i
 |0,h=>(NP h,rV i hi hi[NM i])
 |N+1,h=>by
  show((h:IC[le x y N&&Nat.ble[x.p N][y.p N]])=h,HG MW,sL h1 h2[xjK x y N EO][nU h1 i hi],iq i N q q)
  ·exact h2 i q
  ·show LT[IT[KC hi] q][NP bw]
theorem E.le (c:LE)(x y:E)(h:Ty[xTL x y]):vw≤xHQ:=by
 show([xMy x,xMy y],Ib h1 h2[xjK x y _ h][xOT[xjs c _ _ _ h2]])
def by' (c:LE)(l r x y:E)(h:l.d c≤r.d c)(k:Ty[xTL[.a x r][.a y l]]):vw≤xHQ:=
 PD[IY[x6z[.a x r][.a y l] k][Mr h _]]
def xuB (k:Nat)(c:LE)(l r x y:E)(h:l.d c≤r.d c)(q:Ty[xTL[.a[AS[.m k x]] r][DT k[AS y] l]]):vw≤xHQ:=by
 show(υ h2[PD[IY[x6z[.a[AS[.m k x]] r][DT k[AS y] l] q][Mr h _]]] h3[k*vw<k*(xHQ+1)] h2,KC[Nat.lt_of_mul_lt_mul_left h3])
def of0 (c:LE)(x y:E)(k:Ty[xTL x y]):vw≤xHQ:=x6z x y k
def no (c:LE)(l r:E)(h:l.d c≤r.d c)(k:Ty[xTL[AS r] l]):False:=
 xFG[JS h[x6z[AS r] l k]]
def xeq (a b:Nat):a≤a-b+b:=by
 show xBu[Qg b a] h
 ·show LT[M1 h] ρ
 ·exact IY h[L7 _ _]
def J' {a b:Nat}(h:b≤a):a-b+b≤a:=IR[M1 h]
def xeo (a k:Nat)(h:Ty[Nat.blt 0 k]):a+1≤k*(a/k)+k:=by
 show(yY[LL a k][KB a (NP h:0<k)],[-Nat.succ_eq_add_one,-h1],LT h1[Ja[JS[IR h1.symm][LP h2 _]] ρ])
universe NL
def Z9 {p:Prop}(h:p:=by decide):p:=h
def Z8 {p:Prop}(h:p:=by decide+kernel):p:=h
def Z7 {p:Prop}(h:p:=by rfl):p:=h
def Z6 {p:Prop}(h:p:=by simp):p:=h
def Z5 {p:Prop}(h:p:=by lia):p:=h
def Z4 {p:Prop}(h:p:=by omega):p:=h
def xeU {p:Prop}(h:p:=by show uk;rfl):p:=h
def xeV {p:Prop}(h:p:=by first|show xYh|show DM rfl|assumption):p:=h
def xeW {p:Prop}(h:p:=by intro _ _ _ _ h;(repeat obtain⟨_,h⟩:=h)<;>subst_vars<;>rfl):p:=h
def xeT {p:Prop}(h:p:=by first|show xYh|show DM bK|show DM xFP):p:=h
def xlz:=xeT._auto_1
def xeX:=Z7._auto_1
def xeO:=Z9._auto_1
def xeP:=Z8._auto_1
def xeQ:=xeU._auto_1
def xeR:=xeV._auto_1
def xeS:=xeW._auto_1
namespace QQ
open PySem PyProof.Rows
def Cx2 (h:Qz)(a:Qq)(vs:Hb):Prop:=xLk vs 2\/∃b ob us,vs[2]?=π b/\b≠a/\jI b ob/\ob.data=xUe/\6≤us.size/\xLk us 2
def xxQ (A:Qy)(h:Qz):Prop:=ybb\/∃a o vs,A.handled=BL/\xQk/\xOU/\xDA/\Cx2 h a vs
def xxQ.keep {A:Qy}{h h':Qz}(q:xxQ A h)(k:∀a o vs,xQk->xOU->xDA->p6 a o):xxQ A h':=by
 rcases q with q|⟨a,o,vs,e,g,d,z,c⟩
 ·show DZ q
 ·show xVD (a,o,vs,e,k a o vs g d z,d,z,?_);rcases c with c|⟨b,ob,us,e1,n,e2,e3,e4,e5⟩
  ·show DZ c
  ·show DM (b,ob,us,e1,n,xCn us e2 e3 e4,e3,e4,e5)
def xnu:TD[entryFor table "proto.unchain"] Builtin.«proto.unchain»:=entryFor_of_fast[by kernel_rfl]
def xgf (hq:xxQ A h0)(hk:∀b o,Gr[h0.get? b]->DA/\Vy)(he:Ii e oe)(hd:oe.data=xSR)(hz:2<vs.size)
  (h:∀h' o',p6 e o'->o'.cls=oe.cls->xSY e h'->x0e e Zf):uc (raiseNew yw:Sem α):=by
 show gD raiseNew[wpAny_handled ?_];rcases hq with q|⟨a,o,us,ea,ga,da,zz,za⟩
 ·show LT q[xHp[wpAny_throw[h s.heap oe he rfl[Heap.SameBut.refl ..]]]]
 ·show([ea],mj ga nae[hk a o ga] ne[IC[aI !=ybu]][by simp [bne,nae]],V' _[Uc[aI !=ybu] _ _] _,w6 ne,SC fin[uc[updateField e 2 AO>>= λ _=>throw yw]][by
   show(Gp (Mt he hd hz ?_:wpAny _ _[setField yw 2 AO] _ _ s),wpAny_throw[wF[Lm _ he[Mz[LJ hd _]]][Obj.cls_mapFields _ _][Ob ..]])][xNM[wpAny_runValue[Ox xnu ?_]]],oP[field AO 2>>= _]);rcases za with za|⟨b,ob,vb,eb,nb,gb,db,sz,zb⟩
  ·show(xAZ ga da za,xEu[yjI] _ _,iS Z7[Jr yG],fin)
  ·show((gb,nbe)=hk b ob gb,xAZ ga da eb,Sc n1[X0[xAe b]] rfl n2[X0[xK7==ybu]][by simp [nbe]],(n3:X0[xK7==aI])=by simp [nb])
   simp only [n1,n2,n3,LH,Og];show(Gp[Jr[Jr (Code.quiet_builtin _ Z8,Ox xnu ?_)]],oP[field Bh 2>>= _],xAZ gb db zb,xEu[yjI] _ _,iS Z7[Jr yG],fin)
def xlH {prog:Qv}(hq:xDB)
  (h:∀h' e,(∀b o,DA->Et)->CU o[p6 e o/\ui x0B]->E' yw Zf):
  nD[newExc x0B []>>= λ v=>(raiseNew v:Sem α)] R E' s:=by
 show Gp ?_;simp only [newExc,newTuple];show(qc[MO ?_[by size_fits]][ybj[by first|rfl|(simp only [firstArgMember];rfl)]],MO ?_[by size_fits],SC k2[∀b o,DA->xMo[(xSw "tuple"[xAf ([]:Cb)]).push[x0t "StopIteration"[#[qx,.none,.none,.none,.bool false,.none]++ownMembersOf x0B []]]] b][λ b o e=>Ze qH][xgf hq[λ b o e=>FQ[k2 b o e]] BH rfl[LT Array.size_append[Ja[show 2<6 by decide] Io]] λ h' o' ge ce sb=>?_])
 ·show Sf;have:=FU;show(gH N4 this,E9 this[PU.mpr bG])
 ·show(pY[xQr _[λ b o e=>ybv o A4[k2 b o e]] (o',ge,ce)] FU,gH N4 this,E9 this[PU.mpr bG])
def xuw {h:Qz}(g:jI it o)(d:xOU)(z:vs.size<6)(g':vo o')(d':o'.data=xUe)(z':6≤us.size):a≠it:=by
 show(EJ,AQ g g' g',AQ d d' d',BM[mh DU[CN SB 6][lg 6][IP z z']])
def xeZ {items}(hq:xDB)
  (hit:x9B l i) (hl:x9T l) (hx:Θ items[i]?)
  (hQ:d8[xZk->x69 Zf]):uc xUb:=by
 show((o,ho,hc,hd)=x6A,(ol,hol,_,nl,hdl)=hl,x60[Nu[yaC Oy[yhy Oy ?_ ygu]]],Xp[xwL 0>>= _] ho hd,xEu[xAe l] _ _,w8[xXI[IC[xAe l]] JF],Xp[xwL 1>>= _] ho hd,oP[xLF Ct _],Gp[N5 hol hdl ?_],x3e JH hx[Nf[IX[Mt ho hd Z6 ?_]]],χ sb1[x84 (h:=s.heap) it][ycM[λ a o' us e d' z'=>yaU o'[xuw ho hd Z6 e d' z'] e][λ h' e k z9=>?_]],Dq o' ge ce z9[IX[x0Y[CS ge ce] ?_]],Bw[hQ _ λ b ob hb e1=>xCn[yaV ob hb e1]])
def xkz {items}(hq:xDB)
  (hit:s.heap.IsTupleIter it t i) (ht:s.heap.IsTuple t items) (hx:Θ items[i]?)
  (hQ:d8[xZk->x69 Zf]):uc xUb:=by
 show((o,ho,hc,hd)=x6A,(ol,hol,_,nl,hdl)=ht,x60[Nu[yaC F.slot_tuple_iterator_next[MX F.slot_tuple_iterator_next hit.typeIs F.entry_tuple_iterator_next ?_[F.args_tuple_iterator_next_1 _]]]],Xp[xwL 0>>= _] ho hd,xEu[xAe t] _ _,w8[xXI[IC[xAe t]] JF],Xp[xwL 1>>= _] ho hd,oP[xLF Z1 _],Gp[N5 hol hdl ?_],x3e JH hx[Nf[IX[Mt ho hd Z6 ?_]]],χ sb1[x84 (h:=s.heap) it][ycM[λ a o' us e d' z'=>yaU o'[xuw ho hd Z6 e d' z'] e][λ h' e k z9=>?_]],Dq o' ge ce z9[IX[x0Y[CS ge ce] ?_]],Bw[hQ _ λ b ob hb e1=>xCn[yaV ob hb e1]])
def xkq {x left step:Int}(hq:xDB)(hit:xTv s.heap x left step)(hleft:left≤0)
  (hQ:d8[xZk->x69 Zf]):uc xUb:=by
 show((hT:s.TypeIs pj "range_iterator")=Xi hit,x60[Nu[Lz hT F.slot_range_iterator_next[MX F.slot_range_iterator_next hT F.entry_range_iterator_next ?_[F.args_range_iterator_next_1 _]]]],Xp[xwL 0>>= _] hit rfl,Xp[xwL 1>>= _] hit rfl,Xp[xwL 2>>= _] hit rfl,oP[if left≤0 then _ else _],w6 hleft,xz4[Nf[IX ?_]][xlH hq λ h' e k z9=>?_],Dq o' ge ce z9[IX[x0Y[CS ge ce] ?_]],Bw[hQ _ λ b ob hb e1=>xCn e1])
def xfN (hq:xDB)(ht:x5Z t)
  (hQ:d8[ygW h'->Q items.toList Zf]):uc[unpackItems Z1 items.size none]:=by
 show((nt:xEV t)=xK2 o ho ht[Kf[JE ho]],gD unpackItems ?_,gD notIterableAtAll[wpAny_specialOf ht.typeIs slot_tuple_iter.lookup yG],x3e LH Og[KW[iter_tuple ht[xNM[draw_tuple nt items.size 0 _ _ x8L[ht.push _][Fv kM Re][Μ g1 i1 b1]]]]],[show List.take items.size[List.drop 0 items.toList]=items.toList by show LT Lv xXJ,Jk Z6],Sc k1[∀b o,xEV b->Uz DA[g1.get? b]][λ b o hb e=>b1.extBut b o hb qH] q1[xxQ A g1][hq.keep λ a o _ e _ _=>k1 a o xWb e],SC t1[IsTup g1 t items][(ht.push _).extBut b1.extBut nt][xNM[xkz q1[show g1.IsTupleIter _ t _ from i1][show g1.IsTuple t items from t1] Z6[UF g2 x2]]]);simp only [Option.isSome_none,LH,Og];show Bw[hQ g2 λ b o hb e=>x2 b o hb[k1 b o hb e]]
def xeG {x1}(hq:xDB)(ht:x5Z t)
  (hn:BD[yhW env] items.size) (hstar:Θ ((yhW env).findIdx? (·.1)))
  (h:d8 (ygW h'->xFM (assignInOrder ((assignEach elts env).map (·.2)) items.toList) Zf)):
  uc[assign[.Tuple elts x1 pos] env Z1]:=by
 show mw assign_Tuple[wpAny_standAt ?_];unfold unpack;show XV hn hstar[xNM[xfN hq ht h]]
def exO (cls:Qr) (vs:Hb):QB:={cls:=cls,data:=xSR}
inductive FlyT (h:Qz) (e:Qq) (vs:Hb) (fp:AH):Prop
 |mk (T:Qq) (oT:QB) (ts:Hb) (h1:vs[1]?=π T) (ne:T≠e) (gT:jI T oT) (dT:oT.data=x2e) (zT:xLk ts 3) (r:fp=[e,T]):FlyT h e vs fp
inductive FlyI (h:Qz) (e:Qq) (cls:Qr) (fp:AH) (c:Qr):Prop
 |mk (vs:Hb) (he:jI e UD) (h2:xEp 2 c/\xDA) (hf:(xLk vs 1/\fp=[e])\/FlyT h e vs fp):FlyI h e cls fp c
def xwf (h:Qz)(e:Qq)(cls:Qr)(fp:AH)(c:Qr):Prop:=FlyI h e cls fp c
def xwf.here {h:Qz}(F:xZD h fp c):e∈fp:=by
 obtain⟨vs,_,_,⟨_,r⟩|⟨T,oT,ts,_,_,_,_,_,r⟩⟩:=F<;>simp [r]
def xwf.rec {h:Qz}(F:xZD h fp c):rG[∃o vs,WS/\xOU]:=by
 obtain⟨vs,g,z,⟨a,r⟩|⟨T,oT,ts,a,ne,gT,dT,zT,r⟩⟩:=F
 ·intro b hb;rw [r,JC] at hb;show DN hb[ux vs g]
 ·intro b hb;show(xGD r,XJ hb hb hb)
  ·show DN hb[ux vs g]
  ·show(xGD JC,DN hb (oT,ts,gT,dT))
def xwf.made {h h':Qz}(m:Heap.MadeExcOf h h' e cls args):xZE [e] .none:=xK2 t ht m.there[ll ht[ZV[HA[Zx 6≤6]]] x3A]
def xrL
    (Yb:x2A xHe) (hl:x0C xHe) (hf:yc0 L)
    (he:Ii e UD) (h1:1<vs.size) (h2:xEp 2 c/\xDA)
    (h:∀h' T,xZE [e,T] c->xzW T->(∀b o,s.heap.get? b=some o->b≠e->b∉(env::outer).filterMap (·.frame)->h'.get? b=some o)->
      (∀b o,DA->Vy->xSr)->xYH):
    jq[do let a<-frameOf env;let pl<-entryPlaceOf L had;let b<-EntryCells.newEntry head a .none x26 .none pl;setField yw 1 b][xPy[jq[x1t yw] Q s']] s:=by
  show((ne:e∉(xHe).filterMap (·.frame))=λ hm=>by
    show((_,o,ho,hnf)=hl.mem hm,AQ he ho ho,hnf vs rfl),qc[wpAny_frameOf_fun Yb hl hf[UF g1 s1]][wpAny_entryPlaceOf[UF pl Rv]])
  unfold EntryCells.newEntry newFields
  show(Gp[MO ?_[Rv.sizeOk5 _ _ _ _ _]],Sc hsz[xTl g1.objs.size] s1.1 he1[TD[g1.get? e] UD][(AV s1 e ne).trans he])
  generalize hO:({cls:=.type "traceback",dict:=none,data:=.fields[x7r [head,.ref L,.none,x26,.none][EM pl.isEmpty[List.replicate 6 Value.none] pl]]}:QB)=oT
  show Sc e3[∃ts,oT.data=x2e/\3<ts.size][CS[by rw [<-hO]][by simp only [Jj,IQ,Jn,Oo];show S1[AS DH][m8[xwB[xwB Fp]]]]] hfreed[AG oT.isFreed][by rw [<-hO];rfl]
  clear hO
  show((ts,Tu,hz3)=e3,Sc YX[VA[g1.push oT] e UD][Ze he1] hT2[VA[g1.push oT] g1.objs.size oT][JW g1 hfreed],SC hTe[g1.objs.size≠e][K4[JE he1]][Mt YX rfl h1 ?_],Tl he3 (Lm (Obj.mapFields (·.setIfInBounds 1[Value.ref g1.objs.size])) YX rfl) hT3 ((Ks[g1.push oT] (Obj.mapFields (·.setIfInBounds 1[Value.ref g1.objs.size]))[MJ hTe]).trans hT2),(he3':VA ((g1.push oT).update e (Obj.mapFields (·.setIfInBounds 1[Value.ref g1.objs.size]))) e[exO cls[ygZ x9m]])=he3,yeO[KJ he3' rfl (x:=.ref g1.objs.size) (by simp [h1]) ?_],Γ[Ju[qh[x9m !=Value.none][by simp]]][Mt hT3 Tu hz3 ?_],SC keep (∀b o,Vy->Gr[g1.get? b]->xMo (((g1.push oT).update e (Obj.mapFields (·.setIfInBounds 1[Value.ref g1.objs.size]))).update g1.objs.size (Obj.mapFields (·.setIfInBounds 3[(none:Option Qq).elim Value.none λ f=>rawInt f]))) b)[λ b o hb q=>XV[xVF[K4[JE q]]] xHu TM][X3 g1.objs.size (ygZ x9m,?_,?_,.inr (g1.objs.size,_,_,?_,hTe,Lm _ hT3[Mz[LJ Tu _]],LJ Tu _,?_,rfl)) xK3[λ b o q hb hn=>?_] λ b o q hb=>?_])
  · show LT[xVF hTe] he3'
  · show XV[Array.getElem?_setIfInBounds_ne[by decide]] Of h2
  · simp [h1]
  · simp [hz3]
  · exact xM8 o hb[x0o[AV s1 b hn]]
  · show aw sl e'[EU s1 b o q] sl[xM8 _ hb e']
def xo3
  (Yb:x2A xHe) (hl:x0C xHe) (hf:yc0 L) (F:xZD s.heap fp c)
  (h:∀h' T,xZE [e,T] c->xzW T->(∀b o,s.heap.get? b=some o->b∉fp->b∉(env::outer).filterMap (·.frame)->h'.get? b=some o)->
   (∀b o,DA->b∉fp->xSr)->(∀b o,DA->xC5)->xYH):
  jq[noteFrame yw env][xPy[jq[x1t yw] Q s']] s:=by
 obtain⟨vs,he,h2,⟨h1,r⟩|⟨T,oT,ts,h1,ne,gT,dT,zT,r⟩⟩:=F
 ·subst r;show(x8n,xAZ he rfl h1,iR Z9[xrL Yb hl hf he[x1s h1] h2 λ h' T' f1 f2 f3 f4=>xQr T' f1 f2[λ b o q hb hn=>f3 b o q[Yz EV] hn][λ b o q hb=>xR3 q[Yz EV]][uS b o]])
  by_cases hb:b=e
  ·show(ycc g' f1,YI hb _ g')
  ·show aw sl e'[xR3 q hb] _ e'
 ·subst r;show(x8n,xAZ he rfl h1,iS[qh[xYF][by simp]][KJ gT dT zT ?_],mw[Jk[xXI[IC[Value.none==x26]][by simp [rawInt]]]][Mt gT dT x6e ?_],(Ts:∀b,lF->yfy b=xTu)=Bm xHu,υ gT'[yfJ gT x6w] nT[∀b o,DA->EN us[o.data≠ xUe]->lF][λ b o q nf z=>by
   show(FZ gT q q,nf ts dT)],SC sz[xTl yfw] ygd[xrL Yb[hl.of_keeps λ b o q nf=>ni o[xB9 b[nT b o q nf]]] hf[(Ts e[MJ ne]).trans he][x1s h1] h2
   λ h' T' f1 f2 f3 f4=>xQr T' f1[Ε sz f2 f2][λ b o q hb hn=>?_][λ b o q hb=>?_][uS b o]])
  ·show(De b1 b e[Yz EV] b2 lF[Yz EV],f3 b o[xB9 b b2] b1 hn)
  ·show(De b1 b e[Yz EV] b2 lF[Yz EV],xR3[xB9 b b2] b1)
  ·by_cases hb:b=e
   ·show(ycc g' f1,YI hb _ g')
   ·by_cases hT:b=T
    ·subst hT;show aw sl e'[f4 b _ gT' hb] _ e'
    ·show aw sl e'[xR3[xB9 b hT] hb] _ e'
def xgD (F:xZD s.heap [e,T] c)
  (h:d8[xZE [e,T] c->(∀b o,DA->lF->Et)->xYH]):An[x1t yw]:=by
 obtain⟨vs,he,h2,⟨h1,r⟩|⟨T',oT,ts,h1,ne,gT,dT,zT,r⟩⟩:=F
 ·show iY
 ·show(iY,yeO[KJ he rfl h1 ?_],w6[qh[xYF][by simp]],χ z3 x6e[Mt gT dT z3[X3 (vs,?_,h2,.inr (T,_,_,h1,ne,Lm _ gT x6w,ydD,by simp [z3],rfl)) λ b o q hb=>?_]])
  ·show LT[xVF ne] he
  ·show vM xHu
universe QQ
namespace L2
open PySem PySem.Spec PyProof.Rows
abbrev Key:=Sum Int Str
def xxW:Key->xw4 Qr
 | .inl k,v=>Value.isInt k v
 | .inr x,v=>Value.isStrOf x v
def IN (w:Qw):Key->Int
 | .inl k=>hashInt k
 | .inr x=>hashStr w x
theorem cf:cj k v[Ty[xxW k v]][(∃i t,k=Sum.inl i/\v=xFt i)\/(∃x t,k=Sum.inr x/\v=xUl x)]
 | .inl i,v,h=>Ib t e[Value.isInt_shape h][.inl[sV i t e]]
 | .inr x,v,h=>Ib t e[Value.isStrOf_shape h][.inr[sV x t e]]
def xhT (i)(t):Ty[xxW[.inl i] j7]:=by simp [xxW,Value.isInt]
def xiv (x)(t):Ty[xxW[.inr x][xBo t]]:=by simp [xxW,Value.isStrOf]
def xdg (a b):CG (yc4:Key) yc5=(a==b):=by
 by_cases e:a=b
 ·show DD;simp
 ·show((h:¬(yc4:Key)=yc5)=EA[e[Sum.inl.inj q]],xCX h (MU.mpr e).symm)
def xde (a b):CG (yc6:Key) yc7=CG a b:=by
 by_cases e:a=b
 ·show DD;simp
 ·show((h:¬(yc6:Key)=yc7)=EA[e[Sum.inr.inj q]],[Kh h,Kh e])
def xcF (a)(b):AG[CG (yc4:Key) yc7]:=Kh[EA[nomatch q]]
def xci (a)(b):AG[CG (yc6:Key) yc5]:=Kh[EA[nomatch q]]
def xxA (prog) (w):PySem.KeyKind prog w Key where
 is:=xxW
 hash:=IN w
 inj:=λ v a b ha hb=>by
  show xz2[cf ha] i t rfl x t rfl rfl
  ·show xz2[cf hb] j u e y u rfl e
   ·show(xAE e e1,dG)
   ·show xVd e
  ·show xz2[cf hb] j u e y u rfl e
   ·show xVd e
   ·show(xAE e e1,dG)
 byValue:=λ k v h=>by
  rcases cf h with⟨i,t,rfl,rfl⟩|⟨x,t,rfl,rfl⟩<;>rfl
 pyHash:=λ hv h=>by
  show xz2[cf hv] i t rfl x t rfl rfl
  ·exact wpAny_pyHash_int h
  ·exact wpAny_pyHash_str h
 eqBool:=λ hu hv h=>by
  show xz2[cf hu] i t rfl x t rfl rfl
  ·show xz2[cf hv] j u rfl y u rfl rfl
   ·show Ε xdg h[wpAny_eqBool_int h]
   ·show Ε xcF h[SeqAt.EqAt.int_str i t y u _ _ _ _ h]
  ·show xz2[cf hv] j u rfl y u rfl rfl
   ·show Ε xci h[SeqAt.EqAt.str_int x t j u _ _ _ _ h]
   ·show Ε xde h[wpAny_eqBool_str h]
 «strs»:=λ k x t v h=>by
  show xz2[cf h] i u e y u rfl e
  ·show xVd e
  ·show(xAE e e1,i8);cases v<;>rfl
def xgz (prog)(w)(i)(t):Ty[(xxA prog w).is[.inl i] j7]:=xhT i t
def xgj (prog)(w)(x)(t):Ty[(xxA prog w).is[.inr x][xBo t]]:=xiv x t
def RelV:V->oj
 | .non,u=>u=Value.none
 | .bl b,u=>u=yjS
 | .int i,u=>X6[u=xFt i]
 | .str x,u=>X6[u=xUl x]
 | .byt b,u=>X6[u=yiX t]
 | .flt b,u=>X6[u=ybR b]
 | .ref a,u=>u=aI
 | .ty n,u=>u=yjT
abbrev Vals:Sy->BY Cb:=Paired RelV
theorem Vals.length (r:vX):xU9 us.length:=yhX
theorem Vals.get:∀{xs} {us} {i:Nat} {x},vX->ue->∃u,AD us u/\rf
 |_,_,_,_,.nil,e=>xWC
 |_,_,0,_,.cons r _,e=>by show(xWC,yA[BV r])
 |_,_,i+1,x,.cons _ t,e=>ZQ u h1 h2[Vals.get t xLt] u Uu h2
theorem Vals.set (r:rf):∀{xs} {us} i,vX->Vals[xs.set i x][us.set i u]
 |_,_,_,.nil=>.nil
 |_,_,0,.cons _ t=>.cons r t
 |_,_,i+1,.cons q t=>.cons q[Vals.set r i t]
def Vals.append (h:vX)(s:yfc ws):Vals[xs++ys][us++ws]:=by
 induction h with
 |nil=>exact s
 |cons r _ ih=>show xCB r
theorem Vals.take (n)(h:vX):Vals[xs.take n][us.take n]:=by
 induction h generalizing n with
 |nil=>cases n<;>exact .nil
 |cons r _ ih=>cases n with
  |zero=>show yx
  |succ n=>exact .cons r[ih n]
theorem Vals.drop:∀{xs} {us} n,vX->Vals[xs.drop n][us.drop n]
 |_,_,0,r=>r
 |_,_,_+1,.nil=>.nil
 |_,_,n+1,.cons _ t=>Vals.drop n t
def S8:EY->BY xZ5
 |some v,some u=>eh
 |none,none=>True
 |_,_=>False
def KV:kr->BY[HZ κ Qr]:=Paired λ(p:κ×V) (q:κ×Qr)=>BS=DO/\yff GZ
def kV:Key->V
 | .inl i=>Dz
 | .inr x=>xBo
inductive HO where
  |lst (xs:Sy)
  |tup (xs:Sy)
  |dK (QN:HZ Key V)|dT (QN:xO4)
  |set (S:xw4 Int) (n:Nat)
  |ins (C dx:Qq) (fs:ug)
  |own (x:Qq)
  |xd (fs:ug)
  |met (f x:Qq)
  |rng (lo hi:Int)
  |frz (o:QB) (u:HO)
  |tbl (ps:Hb)
  |ext (φ:BY Qz)
abbrev Hp:=Qq->Option HO
def upd (H:Hp) (a:Qq) (o:HO):Hp:=λ b=>xH6 b a o uC
def ad {H:Hp}:Gr[xCw a]:=Fq upd CD
def aj {H:Hp}(h:b≠a):xCw b=uC:=Fq upd[Jk h]
def xwQ {H:Hp}{a:Qq}{o u:HO}:upd xCw a u=xGJ u:=by
 funext b;unfold upd;split<;>rfl
def aJ {H:Hp}(h:xQJ)(h':xQl)(d:o≠u):a≠b:=by
 intro e;show(DD,Ε h h'[d[JA h']])
def ai {H:Hp}(h:xQJ)(h':Hg):a≠b:=by
 intro e;show FD e h h' h'
section
variable (P:Qv)(w:Qw)
def xyC (H:Hp)(h:Qz)(a:Qq):BY HO
 | .lst xs=>wx/\∃its n,xCg/\vo xHN
 | .tup xs=>wx/\∃its,xCg/\IsTup h a its.toArray
 | .dK QN=>xFe/\xJL/\∃vs,iH/\ydG P w a vs
 | .dT QN=>xFe/\xJL/\cg (Paired[λ p q=>BS=DO/\Zt[AV q][xWU BS]/\yff[EU q]] QN xs/\
   ∃o es ep,xQk/\o.ExactDict/\fQ[x43 es]/\es.toList=xs.map[entryOfKey[xTN P w]]/\(xs.map (·.1)).Nodup)
 | .set S n=>h.SetOf[intKind P w] a S n
 | .ins C dx fs=>xw1 dx a/\ykz/\dx≠a/\vo[ydn dx]/\
   ∃mA,x44 dx/\EN f[S8 xTH[mA f]]/\yha
 | .own _=>∃o,xQk
 | .xd fs=>∃mA,x44 a/\∀f,S8 xTH[mA f]
 | .rng lo hi=>∃t u v,vo[xUK #[xOB,xRh,xRA]]
 | .frz o u=>xQk/\xyC H h a u
 | .tbl ps=>vo[yas .none ps]
 | .met f x=>vo[ybc E4]
 | .ext φ=>φ h/\CU o xQk/\∀h1 h2,φ h1->EN o[Uz[Gr[h1.get? a]][h2.get? a]]->φ h2
def xwl (H:Hp)(h:Qz):Prop:=∀a o,xQJ->qv o
universe s
section
variable {P:Qv}{w:Qw}{H H':Hp}{h h':Qz}{a:Qq}{o:HO}
theorem xyC.lt (x:qv o):ydH a:=by
 cases o with
 |lst xs=>show(yjU x,gL)
 |tup xs=>show xzV p x p.lt
 |dK QN=>show(x0A e x,gL)
 |dT QN=>show(x0A e x,gL)
 |set S n=>show((o,_,_,_,e,_)=x,gL)
 |ins C dx fs=>show(x9U x,gL)
 |own y=>show((_,e)=x,gL)
 |xd fs=>show(ygv x,gL)
 |rng lo hi=>show xzV e x FU
 |frz ob u=>show((e,_)=x,gL)
 |tbl ps=>exact JE[x7V _ x]
 |met f y=>exact JE[x7V _ x]
 |ext φ=>show((_,(_,e),_)=x,gL)
def Paired.mapP {l₁:EW}{l₂:yeS}(h:Paired F l₁ l₂)(f:∀a b,F a b->G a b):Paired G l₁ l₂:=by
 induction h with
 |nil=>show yx
 |cons r _ ih=>show xCB[f _ _ r]
def xyC.stay (x:qv o)(k:∀b u,(b=a\/xw1 b a)->xJy->tU)
  (ho:∀b,xw1 b a->xC0[.own a]) (ht:∀b xs,iO b->iN xE5):xMn H' h' a o:=by
 induction o with
 |lst xs=>show DR z its n r e x (z,its,n,r,lH)
 |tup xs=>show((z,its,r,ob,e,c)=x,Z0 z its r ob lH c)
 |dK QN=>show((z,y,vs,r,ob,es,ep,e,c)=x,(z,y,vs,r,ob,es,ep,lH,c))
 |dT QN=>
  show((z,y,xs,r,ob,es,ep,e,c)=x,(z,y,xs,yiY λ p q z=>(u6,ht _ _[AV z],EU z),ob,es,ep,lH,c))
 |set S n=>show((ob,es,ep,t,e,c)=x,Z0 ob es ep t lH c)
 |ins C dx fs=>
  show((d,z,ne,e,mA,(od,es,ep,e2,c),r)=x,(ho _ d,z,ne,lH,mA,(od,es,ep,bD[.inr d] e2,c),r))
 |own y=>show aw ob e x ob lH
 |xd fs=>show((mA,(od,es,ep,e,c),r)=x,Dj mA (od,es,ep,lH,c) r)
 |rng lo hi=>show C5 t u v e x (t,u,v,lH)
 |frz ob u ih=>show aw e q x lH[ih q]
 |tbl ps=>
  show(C7[vo[yas .none ps]] x,dC[p6 a[yas .none ps]][k a _ bK e])
 |met f y=>
  show(C7[vo[ybc[.ref y]]] x,dC[p6 a[ybc[.ref y]]][k a _ bK e])
 |ext φ=>show((p,(o,e),st)=x,Dj[GQ p λ o q=>bD bK q][xZA lH] st)
theorem xwl.lt (x:ZG)(e:xQJ):ydH a:=(x a o e).lt
def xwl.fresh (x:ZG)(e:ybS a):xQG:=by
 cases q:Υ with
 |none=>rfl
 |some u=>show tN[Ja[x.lt q] e]
def xwl.kept (x:ZG)(k:∀b u,xJy->tU):xA5 H h':=λ a o e=>
 (x a o e).stay[λ b u _ q=>xJD q] xZr xCe
def xwl.laid (x:ZG)(k:∀b u,xJy->tU)(hp:ybS a)(new:xMn xCw h' a o):xA5 xCw h':=λ b u e=>by
 have hn:=x.fresh hp;by_cases hb:b=a
 ·show(FD hb ad e e,new)
 ·show Ε UG e[(x b u e).stay[λ c v _ q=>k c v q][λ c q=>CZ q hn q] λ c xs q=>CZ q hn q]
universe s
def xi1 (H:Hp)(a:Qq)(u:HO):Prop:=lD u\/∃o,lD oE
def xi1.ok {P:Qv}(r:xDY u)(x:ZG):qv u:=by
 rcases r with r|⟨o,r⟩
 ·exact x a u r
 ·show((_,q)=x a _ r,HL)
def Mut:BY[Option HO]
 |some[.lst _]=>True
 |some[.dK _]=>True
 |some[.dT _]=>True
 |some[.set _ _]=>True
 |some[.ins _ _ _]=>True
 |some[.ext _]=>True
 |_=>False
section
variable {P:Qv}{w:Qw}{H:Hp}{h h':Qz}{x e:Qq}{o':HO}
def xwl.write (ok:ZG)(mu:Mut uQ)(he:e=x\/xw1 e x)(k:∀b u,Vy->xJy->tU)(heo:∃u,p6 e u)
  (new:xMn[zB x o'] h' x o'):xA5[zB x o'] h':=λ b u q=>by
 show Sc nown[∀c y,xw1 c y->FL x][λ c y r z=>by show(xIM,Ε r mu mu)] ntup[∀c xs,iO c->FL x][λ c xs r z=>by show(xIM,Ε r mu mu)]
 by_cases hb:b=x
 ·show(FD hb ad q q,new)
 ·rw [UG] at q;by_cases YZ:b=e
  ·show(vO[xw1 b x][by
    show II he
    ·show E9[YZ.trans z] hb
    ·show LT YZ z],AQ q q' q',aw v hv heo v[LT YZ hv])
  ·show((ok b u q).stay[λ c v hc r=>k c v ?_ r][λ c r=>Δ[nown c b r] r] λ c xs r=>Δ[ntup c xs r] r,qw hc hc)
   ·exact YZ
   ·show(EJ,II he)
    ·exact nown c b hc z
    ·show(qX hc,hb rfl)
universe s
structure Un (fs ex:AH)(H H':Hp)(h h':Qz):Prop where
 keep:∀b o,WS->Hg->b∉fs->xYL->Et
 slot:∀b o,WS->Hg->b∈fs->xYL->xSr
 free:∀b o,WS->Hg->xYL->xAX
 there:∀b o,WS->xYL->xC5
 tups:∀b xs,iO b->iN xE5
 frzs:∀b o u,wj oE->xC0 oE
 tbls:∀b ps,wj rZ->∃more,xC0 xXf
section
variable {fs fs' ex ex':AH}{H H1 H2:Hp}{h h1 h2 h':Qz}{a x e:Qq}{o:HO}
def Un.any (u:xZf H H1 h h1)(q:jI b ob)(n:Hg)(hx:xYL):∃sl,TD[h1.get? b] {ob with slots:=sl}:=by
 by_cases hb:b∈fs
 ·exact u.slot b ob q n hb hx
 ·show AU ob.slots[yd4 ob q n hb hx]
def Un.kept (k:∀b u,xJy->tU):xZf H H h h':=
 (λ b ob q _ _ _=>xCn q,λ b ob q _ _ _=>(ob.slots,xCn q),λ _ _ _ n _=>n,λ b ob q _=>(ob,xCn q),xCe,λ _ _ _ q=>q,λ _ ps q=>xMI[Di q])
def Un.refl:xZf H H h h:=Un.kept xCe
def Un.laid (k:∀b u,xJy->tU)(hp:ybS a)(hn:xQG):xZf H xCw h h' where
 keep:=λ b u q _ _ _=>xJD q
 slot:=λ b u q _ _ _=>(u.slots,xJD q)
 free:=λ b u q n _=>Δ[Kf[xHn q hp]] n
 there:=λ b u q _=>(u,xJD q)
 tups:=λ b xs q=>CZ q hn q
 frzs:=λ b u xs q=>CZ q hn q
 tbls:=λ b ps q=>xMI[nQ[xIo q hn] q]
def Un.write (mu:Mut uQ)(he:e=x\/xw1 e x)(k:∀b u,Vy->xJy->tU)(heo:∃u,p6 e u):xZf H[zB x o] h h':=by
 show(Sc hx[∀b,Hg->b≠x][λ b n z=>by show(xIM,Ε n mu mu)] hb[∀b,Hg->Vy][λ b n z=>by
  show xIM;rcases he with r|r
  ·exact hx b n r
  ·show AQ n r r],SC hm[∀b u,xQl->¬Mut[some u]->b≠x][λ b u q nm z=>by show(xIM,Ε q mu[nm mu])] (λ b u q n _ _=>xJD[qN n] q,λ b u q n _ _=>(u.slots,xJD[qN n] q),λ b u q n _=>Δ[hx b n] n,λ b u q _=>?_,
  λ b xs q=>Δ[hm b _ q[SZ z]] q,λ b u xs q=>Δ[hm b _ q[SZ z]] q,λ b ps q=>xMI[nQ[aj[hm b _ q[SZ z]]] q]))
 by_cases YZ:b=e
 ·show DN YZ heo
 ·show AU u[xJD YZ q]
universe s
def trk (h:Qz) (H:Hp):AH:=xv5 h.objs.size[λ a=>(Υ).isSome]
def hidT (h:Qz)(H:Hp):Qz:=PySem.W.hideAll h[trk h H]
def xhx (h)(H:Hp):(x8E).objs.size=h.objs.size:=PySem.W.hideAll_size _ _
def xaz (e:WS)(n:Hg):xMo x8E b:=
 PySem.W.hideAll_get _ e λ hm=>by
  show UN q[FY uC] (LZ.mp hm).2 n q;simp at q
def xbB (e:xMo x8E b):WS/\Hg:=by
 show SC e' WS[PySem.W.of_hideAll[trk h H] e][FQ e'];cases q:uC with
 |none=>rfl
 |some x=>
  show(Sc hm[b∈trk h H][LZ.mpr (ND.mpr[JE e'],by simp [q])] z[Θ[(x8E).get? b]][PySem.W.hideAll_none[trk h H] hm],yb z)
structure Mod (K:Frag)(mg:Ι)(base:Qz):Prop where
 kin:yc8
 glob:xYu
 blt:∃mb,base.Ns builtinsNs mb/\∀x:Str,xPF->mb x=yiO
 nolimit:base.NoLimit
structure Cx where
 prog:Qv
 w:Qw
 K:Frag
 mg:Ι
 base:Qz
 A:Qy
 N:CI
 s₀:Qu
 H₀:Hp
 env:Env
 outer:rk
 stack:rk
 ex:AH
 fn:Str->Bool
 calm:Bool
 pn:Κ
 xe:Ak
def BkH (H:Hp)(a:Qq)(c:Qr):Prop:=c=.none\/∃b ob us,c=Bh/\b≠a/\wj[XI ob b]/\ob.data=xUe/\6≤us.size/\xLk us 2
def xo2 (A:Qy)(H:Hp):Prop:=ybb\/∃a o vs c,A.handled=BL/\lD[XI o a]/\xOU/\(xEp 2 c/\xDA)/\WG H a
def frs (l:rk):AH:=l.filterMap (·.frame)
abbrev Cx.fs (X:Cx):AH:=frs X.outer
def Vis (sc:Scope)(x:Str):Prop:=xSI x .local\/x5w x\/xSI x .free
def Loc (sc:Scope)(x:Str):Prop:=xSI x .local\/x5w x
def xer (env:Env)(h:Qz)(m:Ι)(x:Str)(u:Qr):Prop:=
 (TD yaW .local/\uV[m x])\/((x58 yaW\/TD yaW .free)/\∃c,TD[env.cells.lookup x] c/\h.IsCell c[some u])
structure Cx.Ok (X:Cx):Prop where
 mod:Mod X.K X.mg X.base
 kind:x9l X.env.scope.kind
 glob:X.env.globals=mainGlobals
 blt:X.env.builtins=builtinsNs
 above:xzT X.env.locals
 inj:∀x y c,X2->x8P y c->x=y
 has:∀x,(x1h x .cell\/x1h x .free)->∃c,X2
 cab:∀x c,xRj->X2->xzT c
 hd:xo2 X.A X.H₀
 frames:yb4 X.stack
 stk:X.stack=X.outer\/(xXE/\xTq)
 exf:E5 X.ex[zf/\∀x c,X2->ZM]
 bs:∀b o,xQU->xH3/\Θ yd5
 bsz:X.base.objs.size≤X.s₀.heap.objs.size
 noex:∀b o,xQU->xVE
 exfs:E5 X.ex xMx
 funs:yf0 X.outer
 frf:E5 X.fs[Θ yd5]
structure Inv (X:Cx)(QD:Κ)(σ:x4I)(H:Hp)(s:Qu):Prop where
 ok:X.Ok
 os:s.os=X.s₀.os
 bare:yik
 base:Un X.fs X.ex X.H₀ H X.s₀.heap s.heap
 loc:∃m,x9q m/\xP3 i x Str v V[xGE->xQH Ha->x05 x->∃u,eh/\xer X.env s.heap m x u]
 cell:∀x c,X2->∃v,yab v
 free:B7 X.env.locals
 freeC:∀x c,X2->B7 c
 pin:gj cy[Ii BS Wd/\B7 BS/\xSx BS/\BS∉X.fs/\∀v,(Wd).data≠ xGx]
 hok:yat H s.heap
 len:σ.length=X.N.length
section
variable {X:Cx}{QD:Κ}{σ:x4I}{H H':Hp}{s:Qu}{h':Qz}
def Cx.Ok.nofr (ok:X.Ok){b:Qq}{o:QB}(e:xQU):xMx:=λ hb=>by
 show(xOa[ok.funs.mem hb],tO this this)
theorem Inv.bs (I:Wp):∀b o,xQU->DA/\Hg:=λ b o e=>
 (xQ2 x8I.1 x8I.2[I.ok.nofr e][ybw o e],xSL o x8I.1 x8I.2[ybw o e])
def Inv.bk (I:Wp):∀b o,xQU->DA:=λ b o e=>(I.bs b o e).1
theorem Inv.mod (I:Wp):Mod X.K X.mg X.base:=I.ok.mod
def BkH.keep {H H':Hp}{c:Qr}(h:WG H a)(k:∀b o u,wj oE->xC0 oE):WG H' a:=by
 rcases h with h|⟨b,ob,us,e,n,g,r⟩
 ·show DZ h
 ·show DM (b,ob,us,e,n,bD _ g,r)
def Inv.qt (I:Wp):xo2 X.A H:=by
 rcases I.ok.hd with q|⟨a,o,vs,c,e,f,d,z,b⟩
 ·show DZ q
 ·show DM (a,o,vs,c,e,yiZ _ _ f,d,z,b.keep I.base.frzs)
def Inv.hq (I:Wp):QQ.xxQ X.A s.heap:=by
 rcases I.qt with q|⟨a,o,vs,c,e,f,d,z,b⟩
 ·show DZ q
 ·show((g,_)=F8 a f,xVD (a,o,vs,e,g,d,VJ,?_));rcases b with b|⟨b,ob,us,e1,n,f1,r⟩
  ·show DZ[(u6).trans[aS b]]
  ·show((g1,_)=F8 b f1,DM (b,ob,us,(u6).trans[aS e1],n,g1,r))
def Inv.kIn (I:Wp):X.K.In s.heap:=I.ok.mod.kin.keeps I.bk
theorem Inv.lt (I:Wp):xv4 X.env.locals:=let(_,hn,_):=I.loc;hn.lt
def Inv.sz (I:Wp):xzT s.heap.objs.size:=IY I.ok.above[Jy I.lt]
def Inv.nofs (I:Wp){a:Qq}(h:xzW a):a∉X.fs:=λ hb=>by
 show(x0z o ho hb,tN[xHn ho[IY I.sz h]])
def Inv.cne (I:Wp):∀x c,X2->xSx c:=λ x c e z=>by
 show((v,o,ho,hd)=xPK,(m,(o',es,ep,ho',hd',_),_)=I.loc,FZ ho' ho ho,AQ hd' hd hd)
theorem Inv.funs (I:Wp):x9n X.outer:=DC all[∀(l:rk),(E5[frs l][xOn b])->yf0 l->x9n l][by
  intro l
  induction l with
  |nil=>intro _ _;trivial
  |cons env r ih=>
   intro hs hl;show((hk,(L,o,hf,hn,ho,hd),hr)=hl,(hL:xOn L)=hs L[by unfold frs;show XV Pn hf Jl],Ib sl e[xE9 L ho[I.ok.frf L hL] hL[SZ[I.ok.exfs L z hL]]] (hk,vE L hf hn e hd,ih[Bm[hs b[by unfold frs;show XV Pn hf xWa]]] hr))][all X.outer[λ _ hb=>hb] I.ok.funs]
theorem Inv.stack (I:Wp):x9n X.stack:=by
 rcases I.ok.stk with e|⟨e,hf⟩
 ·show WQ I.funs
 ·show(xCQ,(m,hn,_)=I.loc,HU[.cons[Hd I.ok.kind] hf hn ?_ I.funs][Heap.get?_none_of_le[x1R I.ok.above]])
def Inv.stkSub (I:Wp):E5 x1J[b∈X.env.locals::X.fs]:=Bm[by
 rcases I.ok.stk with e|⟨e,hf⟩
 ·show lG hb xWa
 ·show xGD e;unfold frs at hb;show aG Pn hf hb hb]
def Inv.stkFree (I:Wp):E5 x1J Hg:=Bm[by
 show XJ[x2f hb] e hb
 ·show WQ I.free
 ·show(x0z o ho hb,xSL o ho[I.ok.frf b hb][SZ[I.ok.exfs b z hb]])]
def Inv.step {g':yak}{t':Nat}{d':Drawn}{ch:AH}(I:Wp)
  (Yc:E5 ch[(xRJ\/xzT b)/\zf/\(∀x c,X2->ZM)/\xDX])
  (keep:∀b o,zf->xMx->vf->DA->Hg->Et)
  (slot:∀b o,zf->xOn b->vf->DA->Hg->xSr) (free:∀b o,vf->DA->Hg->xAX)
  (there:∀b o,vf->DA->xC5)
  (tups:∀b xs,iO b->iN xE5) (frzs:∀b o u,wj oE->xC0 oE) (tbls:∀b ps,wj rZ->∃more,xC0 xXf)
  (ns:∀m,x9q m->yg0 m) (hok:xYT h') (hg:ycd):
  F7[x9v s g' d' t']:=by
 show(Sc neL[∀b o,xH3->zf][λ b o e=>xW2] neC[∀b o,xH3->xVE->vf][λ b o e hx hb=>by
  show II (Yc b hb).1
  ·exact hx z
  ·show tN[Ja FU z]],SC cellK[∀x c,X2->∀v,yab v->h'.IsCell c v][λ x c e v ⟨o,ho,hd⟩=>by
  have nch:c∉ch:=SZ[AV x8J.2 x c e rfl]
  by_cases hc:xOn c
  ·show Ib sl q[slot c o[x4h c e] hc nch ho xOl][CS q hd]
  ·show Dj o[keep c o[x4h c e] hc nch ho xOl] hd] (I.ok,I.os,hg,(λ b o e n hb hx=>?_,λ b o e n hb hx=>?_,λ b o e n hx=>?_,λ b o e hx=>?_,λ b xs e=>tups b xs[xKU b e],λ b o xs e=>frzs b o xs[x1l o xs e],y8 ps),?_,fK x c,?_,fK x c,wc,hok,I.len))
 ·exact xM8 o[neL b o e] hb xDN[xQ2 e n hb hx] xSl
 ·show(DW sl e1[xE9 b e n hb hx] sl' e2[slot b _[neL b o e] hb xDN e1 xSl],AU sl' e2)
 ·show Ib o' e1 xP1[free b o' xDN e1 xSl]
 ·show Ib o' e1 xP1[there b o' xDN e1]
 ·show(DW m1 e1[xKV b e] m2 e2[tbls b _ e1],AU[m1++m2] yhB)
 ·show(Dq m hn hl I.loc (m,ns m hn,λ i x v e1 e2 e3=>?_),Dq u r l[xDh x v e1 e2 e3][Cm u r]);rcases l with l|⟨k,c,e,z⟩
  ·show DZ l
  ·show DM (k,c,e,x4i c e _ z)
 ·show aw v z xPK v[x4i c e v z]
 ·show(x9w m o ho,free _ o[SZ[AV[Yc _ z] rfl]] ho I.free)
 ·show C5 v o ho hd xPK[free c o[SZ[AV x8J.2 x c e rfl]] ho xOl]
 ·show(xZR n ne nf d xHh,DC nch[BS∉ch][SZ[xT3[Yc BS z] p hp rfl]] (keep BS Wd ne nf nch e n,free BS Wd nch e n,ne,nf,d))
def Inv.step0 {g':yak}{t':Nat}{d':Drawn}{ch:AH}(I:Wp)
  (Yc:E5 ch[(xRJ\/xYk)/\zf/\(∀x c,X2->ZM)/\xDX])
  (keep:∀b o,zf->xMx->vf->DA->Hg->Et)
  (slot:∀b o,zf->xOn b->vf->DA->Hg->xSr) (free:∀b o,vf->DA->Hg->xAX)
  (there:∀b o,vf->DA->xC5)
  (tups:∀b xs,iO b->iN xE5) (frzs:∀b o u,wj oE->xC0 oE) (tbls:∀b ps,wj rZ->∃more,xC0 xXf)
  (ns:∀m,x9q m->yg0 m) (hok:xYT h') (hg:ycd):
  F7[x9v s g' d' t']:=by
 show(Sc neL[∀b o,xH3->zf][λ b o e=>xW2] neC[∀b o,xH3->xVE->vf][λ b o e hx hb=>by
  show II (Yc b hb).1
  ·exact hx z
  ·show tO z z],SC cellK[∀x c,X2->∀v,yab v->h'.IsCell c v][λ x c e v ⟨o,ho,hd⟩=>by
  have nch:c∉ch:=SZ[AV x8J.2 x c e rfl]
  by_cases hc:xOn c
  ·show Ib sl q[slot c o[x4h c e] hc nch ho xOl][CS q hd]
  ·show Dj o[keep c o[x4h c e] hc nch ho xOl] hd] (I.ok,I.os,hg,(λ b o e n hb hx=>?_,λ b o e n hb hx=>?_,λ b o e n hx=>?_,λ b o e hx=>?_,λ b xs e=>tups b xs[xKU b e],λ b o xs e=>frzs b o xs[x1l o xs e],y8 ps),?_,fK x c,?_,fK x c,wc,hok,I.len))
 ·exact xM8 o[neL b o e] hb xDN[xQ2 e n hb hx] xSl
 ·show(DW sl e1[xE9 b e n hb hx] sl' e2[slot b _[neL b o e] hb xDN e1 xSl],AU sl' e2)
 ·show Ib o' e1 xP1[free b o' xDN e1 xSl]
 ·show Ib o' e1 xP1[there b o' xDN e1]
 ·show(DW m1 e1[xKV b e] m2 e2[tbls b _ e1],AU[m1++m2] yhB)
 ·show(Dq m hn hl I.loc (m,ns m hn,λ i x v e1 e2 e3=>?_),Dq u r l[xDh x v e1 e2 e3][Cm u r]);rcases l with l|⟨k,c,e,z⟩
  ·show DZ l
  ·show DM (k,c,e,x4i c e _ z)
 ·show aw v z xPK v[x4i c e v z]
 ·show(x9w m o ho,free _ o[SZ[AV[Yc _ z] rfl]] ho I.free)
 ·show C5 v o ho hd xPK[free c o[SZ[AV x8J.2 x c e rfl]] ho xOl]
 ·show(xZR n ne nf d xHh,DC nch[BS∉ch][SZ[xT3[Yc BS z] p hp rfl]] (keep BS Wd ne nf nch e n,free BS Wd nch e n,ne,nf,d))
def Inv.un {t':Nat}(I:Wp)(u:Un X.fs [] H H' s.heap h')(hok:xYT h'):F7 cv:=by
 show((m,(o,es,ep,ho,r),_)=yd6,Ib sl hL[u.any ho I.free Z6][I.step (g':=s.gens) (d':=s.drawn) (ch:=[]) (xFH z z)[λ b o _ hb _ e n=>yd4 o e n hb Z6][λ b o _ hb _ e n=>u.slot b o e n hb Z6][λ b o _ e n=>u.free b o e n Z6][λ b o _ e=>u.there b o e Z6] u.tups u.frzs u.tbls[λ m' hm=>by
  show((o',es',ep',ho',r')=hm,AQ ho ho' ho',cm es' ep' hL r')] hok I.bare])
def Inv.call {g':yak}{t':Nat}{d':Drawn}(I:Wp)(u:Un x1J ch H H' s.heap h')(hok:xYT h')(hg:ycd)
  (Yc:E5 ch[(xRJ\/xzT b)/\zf/\(∀x c,X2->ZM)/\xDX]):
  F7[x9v s g' d' t']:=by
 show((m,(o,es,ep,ho,r),_)=yd6,Ib sl hL[u.any ho I.free[SZ[AV[Yc _ z] rfl]]][I.step Yc[λ b o hL hb hc e n=>yd4 o e n[SZ[(Jv.mp[x2f z]).elim hL hb]] hc][λ b o _ _ hc e n=>u.any e n hc][λ b o hc e n=>u.free b o e n hc][λ b o hc e=>u.there b o e hc] u.tups u.frzs u.tbls[λ m' hm=>by
  show((o',es',ep',ho',r')=hm,AQ ho ho' ho',cm es' ep' hL r')] hok hg])
def Inv.turned {t':Nat}{it:Qq}(I:Wp)(k:∀b o,b≠it->DA->Et)(hn:B7 it)(hL:xSx it)
  (h1:it∈X.ex\/xzT it) (h2:∀x c,X2->FL it) (h3:gj cy[BS≠it]):Zu cv:=by
 show SC nit[∀b u,xQl->b≠it][λ b u e z=>FZ hn e e][I.step (g':=s.gens) (ch:=[it]) qE[λ b o _ _ hc e _=>xDK[xNH EV] e][λ b o _ _ hc e _=>xFm[xDK[xNH EV] e]][λ _ _ _ _ n=>n]
  (λ b o hc e=>xZA[xDK[xNH EV] e])[λ _ _ e=>e] x8t[λ b ps e=>xMI[Di e]][UF m hm][y8 u] I.bare]
 ·show HP[b=it] A7 (h1,hL,h2,h3)
 ·show DR o es ep ho r hm (o,es,ep,Ey o[MJ hL] ho,r)
 ·show(xFu b u e[λ c v hc q=>k c v ?_ q] xZr xCe,II hc)
  ·show LT z[nit b u e]
  ·exact nit c _ z
def Inv.tok (I:Wp)(t:Nat):Zu[x9i t]:=I.un (h':=s.heap) (t':=t) Un.refl I.hok
theorem Inv.kept {t':Nat}(I:Wp)(k:∀b u,Ii b u->tU):Zu cv:=I.un[Un.kept k][I.hok.kept k]
theorem Inv.laid {a:Qq}{o:HO}{t':Nat}(I:Wp)(k:∀b u,Ii b u->tU)(hp:xzW a)(new:xLK xCw h' a o):
  oa xCw cv:=I.un[Un.laid k hp[I.hok.fresh hp]][I.hok.laid k hp new]
theorem Inv.write {x e:Qq}{o:HO}{t':Nat}(I:Wp)(mu:Mut uQ)(he:e=x\/xw1 e x)(k:∀b u,Vy->Ii b u->tU)(heo:∃u,p6 e u)
  (new:xLK[zB x o] h' x o):oa[zB x o] cv:=I.un[Un.write mu he k heo][I.hok.write mu he k heo new]
def Inv.pins_of {Rq:Κ}(I:Wp)(h:gj Rq[Ii BS Wd/\B7 BS/\xSx BS/\BS∉X.fs/\∀v,(Wd).data≠ xGx]):xJM H s:=
 (I.ok,I.os,I.bare,I.base,I.loc,I.cell,I.free,I.freeC,X5[wU hp[SZ[xFc[wz z]]][h p]],I.hok,I.len)
def xqr {N:CI}(hN:N.Nodup){i j:Nat}(a:zv N)(b:u9 N x):i=j:=by
 show(DW h1 e1[Jf.mp a] h2 e2[Jf.mp b],(List.getElem_inj hN).mp[e1.trans e2.symm])
def xnc {M:Model}{A:Qy}(I:Wp)(hN:X.N.Nodup)(hi:xGE)(hx:xKF x)(r:eh)
  (h:∀s',oG xWe H s'->CU a[xSY a s'.heap/\(a=X.env.locals\/x8P x a)]->xYG) (hf:xAn[xRj\/xQ8]):An[yhY x u]:=by
 show((m,hn,hl)=yd6,Sc Yv[X0[x0Z .class||(x0Z .module&&X.env.locals !=X.env.globals)]][Ar I.ok.kind] hiσ[i<σ.length][LT I.len[ZZ hi]],υ cne I.cne tracked[cj a h'[CU o[Ii a o/\xQG]][xSY a h'->yat H h']][λ {a h'} ha hs b ob e=>by
  show(xTa SA ha[xFu b ob e[λ c w' hc q=>x6 hs c ?_ q] xZr xCe],EJ,qw hc hc)
  ·show yb SA
  ·show AQ SA hc hc])
 rcases hx with hk|hk
 ·show(wpAny_storeName_local hk hn[qr hn' hs] Yv,(oL,_,_,hoL,_)=id hn,X3 (I.ok,I.os,I.bare,(λ b o e n hb hx=>?_,λ b o e n hb hx=>?_,I.base.free,λ b o e hx=>?_,I.base.tups,I.base.frzs,I.base.tbls),CS hn'[λ j y v' e1 e2 e3=>?_],fK y c,I.free,I.freeC,wc,tracked (oL,hoL,I.free) hs,yaD)[CS hs bK])
  ·exact xIZ xW2[xQ2 e n hb hx]
  ·show aw sl e1[xE9 b e n hb hx] sl[xIZ xW2 e1]
  ·show aw o' e1 xP1 o'[xIZ xW2 e1]
  ·by_cases hj:j=i
   ·show(FD hj hi e1 e1,AQ x4j e2 e2,Dj u r[Zp hk Z6])
   ·rw [x71] at e2;show Dq u' r' q[hl j y v' e1 e2 e3][Cm u' r'];rcases q with⟨k,e⟩|⟨k,c,e,z⟩
    ·show xVB[FQ k];have:y≠x:=λ e=>hj[xqr hN e1[e▸hi]]
     simp [this,e]
    ·show DM (k,c,e,yjV[cne y c e])
  ·show aw w' z[I.cell y c e] w'[yjV[cne y c e]]
  ·show DR e n ne nf d xHh (x6 hs BS ne e,n,ne,nf,d)
 ·show((hfn:xRj)=by
   show II hf
   ·show xIJ
   ·show AQ z hk hk,DW c hc[I.ok.has x[.inl hk]] w' z[xVQ hc],wpAny_storeName_cell I.ok.kind hk hc z[qr hc' hs],Dq oc U7 hocd[id z][h Zf (I.ok,I.os,I.bare,(λ b o e n hb hx=>?_,λ b o e n hb hx=>?_,I.base.free,λ b o e hx=>?_,I.base.tups,I.base.frzs,I.base.tbls),(m,hn.sameBut hs[MJ[cne x c hc]],λ j y v' e1 e2 e3=>?_),fK y c',I.free,I.freeC,wc,tracked (oc,U7,xVP hc) hs,yaD) (c,hs,.inr hc)])
  ·exact xIZ[xXB[yce c hfn hc]][xQ2 e n hb hx]
  ·show aw sl e1[xE9 b e n hb hx] sl[xIZ[xXB[yce c hfn hc]] e1]
  ·show aw o' e1 xP1 o'[xIZ[xXB[yce c hfn hc]] e1]
  ·by_cases hj:j=i
   ·show(FD hj hi e1 e1,AQ x4j e2 e2,Dj u r[ja[.inl hk] c hc hc'])
   ·rw [x71] at e2;show Dq u' r' q[hl j y v' e1 e2 e3][Cm u' r'];rcases q with q|⟨k,c',e,z'⟩
    ·show DZ q
    ·show(ja k c' e[z'.sameBut hs ?_],EJ,hj[xqr hN e1[I.ok.inj _ _ _ e hc▸hi]])
  ·by_cases hcc:c'=c
   ·show YI hcc _ hc'
   ·show aw w2 z2[I.cell y c' e] w2[z2.sameBut hs hcc]
  ·show(xZR n ne nf d xHh,rN (x6 hs BS ?_ e,n,ne,nf,d) q);rw [q,U7] at e;show DC q'[oc=Wd][JA e][d w'[Bg q' hocd]]
def xtH {M:Model}{A:Qy}(I:Wp)(hN:X.N.Nodup)(hi:xGE)(hx:xKF x)(r:eh)
  (h:∀s',oG xWe H s'->xYG) (hf:xAn[xRj\/xQ8]):An[yhY x u]:=
 xnc I hN hi hx r[λ s' I' _=>h s' I'] hf
def Inv.call' {s':Qu}{ch:AH}(I:Wp)(ho:yfq)(u:Un x1J ch H H' s.heap s'.heap)(hok:xYT s'.heap)(hg:xKG)
  (Yc:E5 ch[(xRJ\/xzT b)/\zf/\(∀x c,X2->ZM)/\xDX]):mn:=by
 show((h',g',d',t',o')=s',HP[o'=s.os] ho[I.call (g':=g') u hok hg Yc])
universe s
abbrev XK:=Qr->UT FG
abbrev St:=x4I
abbrev VK:=UT V
abbrev TE:=xII St
abbrev TT:=St->xI2[xw5]
abbrev TA:=St->xI2[xHo]
structure Ends where
 nx:EE
 rt:VK
 bk:EE:=si
 ct:EE:=si
abbrev TS:=Ends->EE
inductive xuL (X:Cx) (QD:Κ) (σ:St) (Q:VK) (u:Qr) (s':Qu):Prop
 |mk (v:V) (H':Hp) (h0:mn) (h1:eh) (h2:xJk):oN u s'
inductive xsu (X:Cx) (QD:Κ) (σ:St) (Q:xw5) (b:Bool) (s':Qu):Prop
 |mk (H':Hp) (h0:mn) (h1:oA b):xsu X QD σ Q b s'
inductive xiA (X:Cx) (QD:Κ) (σ:St) (Q:xHo) (us:Cb) (s':Qu):Prop
 |mk (vs:Sy) (H':Hp) (h0:mn) (h1:xH4) (h2:oA vs):xiA X QD σ Q us s'
def xwm (X:Cx)(QD:Κ)(D:Ends)(f:Flow)(s':Qu):Prop:=
 match f with
 | .next=>∃σ' H',xCm/\D.nx σ' H'
 | .brk=>∃σ' H',xCm/\D.bk σ' H'
 | .cont=>∃σ' H',xCm/\D.ct σ' H'
 | .ret u=>∃v σ' H',xCm/\eh/\D.rt v H'
def PE (X:Cx)(e:QA)(t:TE):Prop:=
 ∀(QD:Κ) (s:Qu) (σ:St) (H:Hp) Q,Wp->xJv->Ds xPD
def PT (X:Cx)(e:QA)(t:TT):Prop:=
 ∀(QD:Κ) (s:Qu) (σ:St) (H:Hp) Q,Wp->xJv->zw[ycN e xPD][xsu X QD σ Q]
def PW (X:Cx)(e:QA)(t:TT):Prop:=
 ∀(whole:xM9) (QD:Κ) (s:Qu) (σ:St) (H:Hp) (Q:xw5),Wp->xJv->zw[ycN e whole][xsu X QD σ Q]
def PW.pt {X:Cx}{t:TT}(h:xJa e t):kR e t:=X3
def PA (X:Cx)(es:EB)(t:TA):Prop:=
 ∀(pos:Pos) (QD:Κ) (s:Qu) (σ:St) H Q,Wp->xJv->zw[spliced[xLn es]][xiA X QD σ Q]
def PS (X:Cx)(st:QC)(t:TS):Prop:=
 ∀(QD:Κ) (s:Qu) (σ:St) H D,Wp->Sr D H->zw[yey st] xMQ
def PSs (X:Cx)(st:kJ)(t:TS):Prop:=
 ∀(QD:Κ) (s:Qu) (σ:St) H D,Wp->Sr D H->zw[execs st X.env] xMQ
def thn {Q Q':rO α}(h:An t)(hQ:∀a s,Q a s->Q' a s):jq t Q' s:=ZW h hQ x x
section
variable {X:Cx}
inductive Q5 (i:Nat) (σ:St) (H:Hp) (Q:VK):Prop
 |mk (v:_) (h0:xQH Ha) (h1:Fc v):xHS σ H Q
def tC (v:V):TE:=λ _ H Q=>Fc v
def xoy {i:Nat}{pos:Pos}(hN:xGE)(hv:x05 x)(hd:t8)(Ue:sh[AG[x==yg7]]):AN xBe xHS:=by
 intro QD s σ H Q I h;show(XH v e h h m hn hl I.loc,ak u r l[xDh x v hN e hv] fin[oN u s][yk v I r h]);rcases l with⟨hk,hm⟩|⟨hk,c,hc,SR⟩
 ·exact ybT[wpAny_loadName_local I.ok.kind hk hn hm fin]
 ·rcases hk with hk|hk
  ·exact ybT[wpAny_loadName_cell I.ok.kind hk hc SR fin]
  ·exact ybT[wpAny_loadName_free I.ok.kind hk hc SR fin Ue]
def ag {i j pos}:xIy[xUm Dz pos] Dz:=xPA I h[wpAny_Constant_int[yk Dz AK CQ h]]
def cu {b j pos}:xIy[xUm[.bool b] pos] iW:=xPA I h[Constant_bool[Xw iW I h]]
def xwU {j pos}:xIy[xUm .none pos] .non:=xPA I h[Constant_none[Xw .non I h]]
def xx7 {x j pos}:xIy[xUm xBo pos] xBo:=xPA I h[Calls.Constant_str[yk xBo AK CQ h]]
def xdi (X:Cx)(x:Str):Prop:=x1h x .globalImplicit
def xrr {E:Ak}{QD:Κ}{σ:St}(I:Wp)(hg:uj)(hm:uV yF)(h:Q u s)
  (hd:t8):Av[xE xBe] Q E s:=
 yfP hg[Calls.loadGlobal_global[LT I.ok.glob x9x] hm h] hd
def xlG {E:Ak}{QD:Κ}{σ:St}{pos:Pos}(I:Wp)(hg:uj)(hm:Θ yF)(hv:xKJ x u)(h:Q u s)
  (hn:sh xPF) (hd:t8):Av[xE xBe] Q E s:=Ie mb h1 h2 I.mod.blt[yfP hg[Calls.loadGlobal_builtin[LT I.ok.glob x9x] hm[LT I.ok.blt[h1.keeps I.bk]][(h2 x hn).trans hv] h] hd]
def xtp (hg:uj)(hm:uV yF)(r:eh)(hd:t8):xIy xBe v:=
 xPA I h[ydz[yk v I r h] hd]
def xlL {pos:Pos}(hg:uj)(hm:Θ yF)(hv:xKJ x u)(r:eh)(hn:sh xPF)(hd:t8):xIy xBe v:=
 xPA I h[xRO hv[yk v I r h] hn hd]
variable {a b:QA}{ta tb:TE}{pos:Pos}
def xuH (X:Cx)(op:CmpOp)(a b:QA)(t:TE):Prop:=
 ∀(QD:Κ) (s:Qu) (σ:St) (H:Hp) Q,Wp->xJv->
  zw[xE a][λ v s₁=>sS[xE b][λ u s₂=>sS[compareOp op v u] oN s₂] s₁]
def tz (b)(h:op≠ .In)(h2:op≠ .NotIn):xZe:=by
 show G9[X0[op==CmpOp.In]][by cases op<;>first|rfl|show xIB h][X0[op==CmpOp.NotIn]][by cases op<;>first|rfl|show xIB h2]
 cases b
 case Set l k _=>show X0[k==0&&(op== .In||op== .NotIn)&&l.all[constantsAlone 8]];rw [e1,e2,Bool.or_self,Bool.and_false,PP]
 all_goals rfl
def xd1 (ta:TE):TE:=λ σ H Q=>S7[xSQ[! x8b x] H1]
def RelV.none_iff (r:wQ):(x87 v)=x8b x:=by
 cases x with
 |non=>show pq
 |bl _=>show pq
 |int _=>show pZ
 |str _=>show pZ
 |byt _=>show pZ
 |flt _=>show pZ
 |ref _=>show pq
 |ty _=>show pq
def xbk {j pos'}(ha:oo):xuH X .IsNot a[xUm .none pos'][xd1 ta]:=by
 intro QD s σ H Q I h;show(xIY v,DR x H1 I1 r1 q1 z9[Constant_none[isnot_none_gen (.bl _,H1,I1,Ar r1.none_iff,q1)]])
inductive tB_p (Q:xw5) (x:V) (H1:Hp):Prop
 |mk (c:_) (h0:x=.bl c) (h1:vQ c):tB_p Q x H1
def xvi (t:TE):TT:=λ σ H Q=>ku x[tB_p Q x H1]
def xvC {op:CmpOp}(h:xuH X op a b t)(h1:xZe:=by first|exact tz _ Z9 Z9|rfl):kR[xUf [op] Wz pos][xvi t]:=by
 intro QD s σ H Q I hw;show(kA[ygJ[xSp _ I hw][λ v s1 h1=>thn h1 λ u s2 h2=>Hv h2 c s3] h1] x H1 I1 r1 q1,XG d q q1,CR r1[LC (H1,I1,q)])
def xru {e:QA}(h:AN e t)(he:qp whole[ycN e whole=(do let v<-whole;standAt e.pos;xVe v[truthy v])]):kR e[xvi t]:=by
  intro QD s σ H Q I hw
  show(kA[isTrue_plain[V7[xSp _ I hw] v][he _]] x H1 I1 r1 q1,XG d q q1,CR r1[LC (H1,I1,q)])
variable {tA tB':TT}{rest:EB}
def xjI (t u:TT):TT:=λ σ H Q=>ku c[Uc c[u σ H1 Q][vQ false]]
def tOr (t u:TT):TT:=λ σ H Q=>ku c[Uc c[xNj H1][u σ H1 Q]]
def xea (t:TT):TT:=λ σ H Q=>ku c[vQ[! c]]
def ii (ha:xRr a):xJa[xWZ uP] tA:=by
 intro wh QD s σ H Q I h;refine isTrue_and[xvY[xCq Q] c s1 e];cases c with
 |true=>exact isTrue_and_nil e
 |false=>show xCP
def xrm (ha:xRr a):xJa[xS0 .Or uP] tA:=by
 intro wh QD s σ H Q I h;refine isTrue_or[xvY[xCq Q] c s1 e];cases c with
 |false=>exact isTrue_or_nil e
 |true=>show xCP
def xfd (ha:xRr a)(hb:xJa[xWZ xPZ] tB'):xJa[xWZ[a::xPZ]][xjI tA tB']:=by
 intro wh QD s σ H Q I h;show XX[isTrue_and[xIY c]] H1 I1 q1 z9;cases c with
 |true=>exact hb wh QD s1 σ H1 Q I1 q1
 |false=>show Dj H1 I1 q1
def xyp (ha:xRr a)(hb:xJa[xS0 .Or xPZ] tB'):xJa[xS0 .Or[a::xPZ]][tOr tA tB']:=by
 intro wh QD s σ H Q I h;show XX[isTrue_or[xIY c]] H1 I1 q1 z9;cases c with
 |true=>show Dj H1 I1 q1
 |false=>exact hb wh QD s1 σ H1 Q I1 q1
def xlP (ha:xRr a):kR[yi0 a pos][xea tA]:=by
 intro QD s σ H Q I h;exact isTrue_not[thn[xCq[kI c[vQ[! c]]]] λ c s1 z9=>ZQ H1 I1 q1 z9 H1 I1 q1]
inductive xlw (tb:TE) (σ:St) (Q:VK) (x:V) (H1:Hp):Prop
 |mk (c:_) (h0:x=.bl c) (h1:Uc c[xY5 Q][vQ XS]):xlw tb σ Q x H1
def xdB (ta tb:TE):TE:=λ σ H Q=>S7[xlw tb σ Q x H1]
inductive xms (Q:VK) (x:V) (H1:Hp):Prop
 |mk (c:_) (h0:x=.bl c) (h1:xSQ[! c] H1):xms Q x H1
def xdK (ta:TE):TE:=λ σ H Q=>S7[xms Q x H1]
def xfn {op}{t:TE}(h:AN a t):AN[xS0 op uP] t:=λ QD s σ H Q I hw=>BoolOp_one[xSp Q I hw]
def xfw (ha:oo)(hb:AN[xWZ xPZ] tb):AN[xWZ[a::xPZ]][xdB ta tb]:=by
 intro QD s σ H Q I h;show(kA[BoolOp_and[xIY v]] x H1 I1 r1 q1,XG c q1 q1,xYf,x72);cases c with
 |true=>exact xI9 Q
 |false=>exact sP XS H1 I1 q1
def xvD (ha:oo):AN[yi0 a pos][xdK ta]:=by
 intro QD s σ H Q I h;show(kA[UnaryOp_[xIY v]] x H1 I1 r1 q1,XG c q1 q1,CR r1[not_of[LC[sP[.bl[! c]] H1 I1 q1]]])
def tIf (t:TT)(ta tb:TE):TE:=λ σ H Q=>ku c[Uc c[x0E H1 Q][xY5 Q]]
def xqY {c:QA}(hc:xRr c)(ha:oo)(hb:Um):AN[.IfExp c a b pos][tIf tA ta tb]:=by
 intro QD s σ H Q I h;show XX[wpAny_IfExp[V7[xRL s H _ I h] d]] H1 I1 q1 z9;cases d with
 |true=>exact x0U s1 H1 Q I1 q1
 |false=>exact xI9 Q
universe s
def QK (K:Frag)(H:Hp)(a:Qq)(xs:Sy):Prop:=
 xDY xMh\/
  ∃(o:QB) (its:Hb) (n:Nat),x1W a/\ui xK0/\Θ o.dict/\fQ[.seq its n]/\xF its.size/\Vals xs its.toList
def QV (K:Frag)(H:Hp)(a:Qq)(xs:Sy):Prop:=
 xDY[.tup xs]\/
  ∃(o:QB) (its:Hb) (n:Nat),x1W a/\ui xKR/\fQ[.seq its n]/\xF its.size/\Vals xs its.toList
def IO:Qr->EY
 | .none=>some .non
 | .bool b=>some iW
 | .int i _=>some Dz
 | .str x _=>some xBo
 | .bytes b _=>some[.byt b]
 | .float b _=>some[.flt b]
 | .ref a=>BL
 | .type n=>some[.ty n]
 |_=>none
def RelV.abs (r:rf):TD[IO u] x:=by
 cases x with
 |non=>show pq
 |bl _=>show pq
 |int _=>show pZ
 |str _=>show pZ
 |byt _=>show pZ
 |flt _=>show pZ
 |ref _=>show pq
 |ty _=>show pq
def RelV.inj (r:rf)(q:VL):x=y:=JA[r.abs.symm.trans q.abs]
theorem Vals.inj (h:vX)(g:pT ys):xs=ys:=by
 induction h generalizing ys with
 |nil=>show rn g
 |cons r _ ih=>cases g with
  |cons r' t'=>rw [yd7,ih t']
section
variable {X:Cx}{QD:Κ}{σ:St}{H:Hp}{s:Qu}{a:Qq}{xs ys:Sy}
def QK.of {K:Frag}(h:Υ=Fh):VH:=.inl x4b
def QV.of {K:Frag}(h:iO a):xDM:=.inl x4b
def Inv.list (I:Wp)(h:xFz a xs):∃its:Cb,xCg/\PlainL s.heap a its.toArray/\wx:=by
 rcases h with h|⟨o,its,n,hk,hc,hd,hs,hz,r⟩
 ·show DR z its n r e[h.ok I.hok] (its,r,yo _ n e rfl rfl,z)
 ·show(xBL its.toList r (o,n,x73 a hk,hc,hd,by simpa using hs) ?_,Y7 r.length);simp only [KD] at e;exact Lw e hz
def Inv.tuple (I:Wp)(h:xBF a xs):∃its:Cb,xCg/\yfL a its.toArray/\wx:=by
 rcases h with h|⟨o,its,n,hk,hc,hs,hz,r⟩
 ·show C5 z its r p[h.ok I.hok] (its,r,p,z)
 ·show(xBL its.toList r (o,x73 a hk,hc,n,by simpa using hs) ?_,Y7 r.length);simp only [KD] at e;exact Lw e hz
def Inv.list_inj (I:Wp)(h:xFz a xs)(h':xFz a ys):xs=ys:=by
 show((its,r,(o,n,e,_,_,d),_)=I.list h,(its',r',(o',n',e',_,_,d'),_)=I.list h',tO e' e');rw [d] at d';show(xAE d' d1,Fl[its=its'][by simpa using ygB d1] yd7)
def Inv.tuple_inj (I:Wp)(h:xBF a xs)(h':xBF a ys):xs=ys:=by
 show((its,r,(o,e,_,n,d),_)=I.tuple h,(its',r',(o',e',_,n',d'),_)=I.tuple h',tO e' e');rw [d] at d';show(xAE d' d1,Fl[its=its'][by simpa using ygB d1] yd7)
universe s
abbrev Cx.wish (X:Cx) (E:Ak):Cx:={X with xe:=E}
abbrev Cx.nox (X:Cx):Cx:=X.wish si
theorem Cx.Ok.wish {X:Cx}(ok:X.Ok)(E:Ak):(xUx).Ok:=
 (ok.mod,ok.kind,ok.glob,ok.blt,ok.above,ok.inj,ok.has,ok.cab,ok.hd,ok.frames,ok.stk,ok.exf,ok.bs,ok.bsz,ok.noex,ok.exfs,ok.funs,ok.frf)
def Cx.Ok.unwish {X:Cx}{E:Ak}(ok:(xUx).Ok):X.Ok:=
 (ok.mod,ok.kind,ok.glob,ok.blt,ok.above,ok.inj,ok.has,ok.cab,ok.hd,ok.frames,ok.stk,ok.exf,ok.bs,ok.bsz,ok.noex,ok.exfs,ok.funs,ok.frf)
section
variable {X:Cx}{QD:Κ}{σ:St}{H:Hp}{s:Qu}{E:Ak}
theorem Inv.wish (I:Wp)(E:Ak):xzL xUx H s:=(I.ok.wish E,I.os,I.bare,I.base,I.loc,I.cell,I.free,I.freeC,I.pin,I.hok,I.len)
theorem Inv.unwish (I:xzL xUx H s):Wp:=(I.ok.unwish,I.os,I.bare,I.base,I.loc,I.cell,I.free,I.freeC,I.pin,I.hok,I.len)
theorem xwm.unwish {D:Ends}{f:Flow}{s':Qu}(h:xwm xUx QD D f s'):xJG s':=by
 cases f with
 |next=>show C5 σ' H' I q h[yfk H']
 |brk=>show C5 σ' H' I q h[yfk H']
 |cont=>show C5 σ' H' I q h[yfk H']
 |ret u=>show(xv0 v σ' H' I r q,Z0 v σ' H' I.unwish r q)
theorem PSs.nox {st:kJ}(h:PSs X.nox st t):pW st t:=λ QD s σ H D I hw=>
 ZW[xSp D[I.wish _] hw][xTc q.unwish] z xKL
universe s
section
variable {X:Cx}{st:QC}{rest:kJ}{t u:TS}{e:QA}{te:TE}{pos:Pos}
def xjb:TS:=λ D σ H=>tQ
def xwc (t u:TS):TS:=λ D σ H=>Sr {D with nx:=u D} H
def xeJ:pW [] xjb:=λ _ _ σ H _ I h=>Ng[xCo H I h]
def ac (h1:ki st t)(h2:pW rest u):pW[st::rest][xwc t u]:=by
 intro QD s σ H D I h;show yi1[xvY[h1 QD s σ H {D with nx:=u D} I h] f s1 q];cases f with
 |next=>
  show C5 σ' H' I' q q[h2 QD s1 σ' H' D I' q]
 |ret v=>show HL
 |brk=>show HL
 |cont=>show HL
def ae (h1:ki st t):pW [st] t:=by
 intro QD s σ H D I h;show yi1[xvY[h1 QD s σ H D I h] f s1 q];cases f with
 |next=>exact Ng q
 |ret v=>show HL
 |brk=>show HL
 |cont=>show HL
def GE:TS:=λ D σ H=>D.bk σ H
def xmQ:ki[.Break pos] GE:=λ _ _ σ H _ I h=>wpAny_Break[xCo H I h]
def Inv.quiet {QD:Κ}{σ:St}{H:Hp}(I:Wp):AG[interactive X.env]:=by simp [interactive,I.ok.kind]
def xdI (te:TE):TS:=λ D σ H=>ZJ λ _ H1=>xSW H1
def aB (he:TO)(hs:AJ[x3J e none=xUg]):ki[.Expr e pos][xdI te]:=by
 intro QD s σ H D I h;exact wpAny_Expr_any[thn xHl λ v s1 z9=>DR x H1 I1 r1 q1 z9[xCo H1 I1 q1]] I.quiet hs
def xzy (te:TE):TS:=λ D σ H=>ZJ D.rt
def xeK (he:TO):ki[.Return[some e] pos][xzy te]:=by
 intro QD s σ H D I h;exact wpAny_Return_some[thn xHl λ v s1 z9=>DR x H1 I1 r1 q1 z9 (x,σ,H1,I1,r1,q1)]
def xo4 (c:TT)(t u:TS):TS:=λ D σ H=>c σ H[kI b[Uc b[Sr D H1][u D σ H1]]]
def xlX {c:QA}{a b:kJ}{tc:TT}(hc:kR c tc)(ha:pW a t)(hb:pW b u):ki[.If c a b pos][xo4 tc t u]:=by
 intro QD s σ H D I h;show XX[wpAny_If[V7[xRL s H _ I h] d]] H1 I1 q1 z9;cases d with
 |true=>exact x0U s1 H1 D I1 q1
 |false=>exact xI9 D
def xpB:TS:=x0W
def bi:ki st xpB:=yhC h
def xrE {sts:kJ}:pW sts xpB:=yhC h
universe s
abbrev TG:=V->St->xI2[EE]
abbrev TGs:=Sy->St->xI2[EE]
def PG (X:Cx)(QG:QA)(t:TG):Prop:=
 ∀(QD:Κ) (s:Qu) (σ:St) H v u Q,Wp->eh->Sr v H Q->
  zw[x15 QG u][xPy[∃σ' H',xCm/\oA σ']]
def PGs (X:Cx)(ts:EB)(t:TGs):Prop:=
 ∀(QD:Κ) (s:Qu) (σ:St) H vs us Q,Wp->xH4->Sr vs H Q->
  zw (assignInOrder ((assignEach ts X.env).map (·.2)) us)[xPy[∃σ' H',xCm/\oA σ']]
abbrev xoE:=V->V->V->xI2[xvW]
def xiW (X:Cx)(t:xoE):Prop:=
 ∀(QD:Κ) (s:Qu) (σ:St) H o i v ov iv u Q,Wp->RelV o ov->RelV i iv->eh->t o i v H Q->
  zw[setItem ov iv u][xPy[∃H',mn/\Q H']]
section
variable {X:Cx}{pos:Pos}
def bO (i:Nat):TG:=λ v σ H Q=>Fc xWe
def xeM {i:Nat}{x:Str}(hN:X.N.Nodup)(hi:AJ xGE)(hx:xAn[xKF x])(hf:xAn[xRj\/xQ8]):xQs xBe[bO i]:=by
 intro QD s σ H v u Q I r h;exact wpAny_assign_Name[xtH I hN hi hx r[λ s' I'=>ll H I' h] hf]
inductive gNil (vs:Sy) (σ:St) (H:Hp) (Q:EE):Prop
 |mk (h0:vs=[]) (h1:Fc σ):gNil vs σ H Q
inductive xwk (t:TG) (u:TGs) (vs:Sy) (σ:St) (H:Hp) (Q:EE):Prop
 |mk (v:_) (r:_) (h0:vs=v::r) (h1:Sr v H λ σ' H'=>u r σ' H' Q):xwk t u vs σ H Q
def im:PGs X [] gNil:=by
 intro QD s σ H vs us Q I r h;show(xAs e h,DD,CR r[assignInOrder_nil[xCo H I h]])
def xe5 {e:QA}(h1:xQs e t)(h2:PGs X es u)
  (hs:AJ ((assignEach[e::es] X.env).map (·.2)=assign e X.env::(assignEach es X.env).map (·.2))):PGs X xw[xwk t u]:=by
 intro QD s σ H vs us Q I r h;show(Q9 v vr e1 h,i8);cases r with
 |cons r rr=>
  show(Γ hs[assignInOrder_cons[xZ0[h1 QD s σ H _ _ _ I r h] s1]],C5 σ1 H1 I1 q1 z9[h2 QD s1 σ1 H1 _ _ Q I1 rr q1])
inductive gTup (K:Frag) (n:Nat) (t:TGs) (v:V) (σ:St) (H:Hp) (Q:EE):Prop
 |mk (a:_) (xs:_) (h0:v=AO) (h1:xDM) (h2:xU9 n) (h3:Sr xs H Q):x6B n t v σ H Q
def xfG {es:EB}{k:Nat}(hc:FA)(h:PGs X es t)
  (hn:AJ[BD[assignEach es X.env] n]) (RQ:AJ ((assignEach es X.env).findIdx? (·.1)=none)):xQs[x2K k pos][gTup X.K n t]:=by
 intro QD s σ H v u Q I r hw;show((a,xs,e1,hq,hl,hw)=hw,i8,iY,aV rv ht hz hq,DK[QQ.xeG I.hq ht[by simp [hn,<-hl,rv.length]] RQ[UF h' hx]] I1 xWN[x2X[λ b o e=>hx b o xWb e]],h QD _ σ H xs _ Q I1[by simpa using rv] hw)
def xec (to ti:TE)(t:xoE):TG:=λ v σ H Q=>to σ H[kI o[ti σ H1[jh i[t o i v H2 λ H3=>Q σ H3]]]]
def o0 {o i:QA}{to ti:TE}{t:xoE}(ho:xDy to)(hi:AN i ti)(hs:xiW X t)
    (ha:qp v[x15[xE8 o i] v=(do
      let ov<-xVe v jn
      let iv<-holding [v,ov][xE i]
      standAt pos
      holding [v,ov,iv][setItem ov iv v]
      release [v,ov,iv] [])]):xQs[xE8 o i][xec to ti t]:=by
  intro QD s σ H v u Q I r h
  show(mw ha[KW[V7[aR s H _ I h] ov]],xKc x H1 I1 r1 q1,Gp[KW[Hv[xI1 s1 H1 _ I1 q1] iv s2]],xKc y H2 I2 r2 q2,Gp[x96[KW[xZ0[hs QD s2 σ H2 x y v ov iv u _ I2 r1 r2 r q2] s3]]],Ie H3 I3 q3 z9[wpAny_release[xCo H3 I3 q3]])
def xxS (te:TE)(g:TG):TS:=λ D σ H=>ZJ[kI x[g x σ H1 D.nx]]
def xyU {tg e:QA}{te:TE}{g:TG}(he:TO)(hg:xQs tg g)(hs:AJ[swapsWithSole [tg] e pos.line X.env=xUg])(hw:AJ[swappedStores [tg] e X.env=pure none])
  (h1:AJ ((assignEach [tg] X.env).map (·.2)=[assign tg X.env])):xL1 [tg] e pos[xxS te g]:=by
 intro QD s σ H D I h;show(kA[wpAny_Assign_stores[V7 xHl v] hs hw] x H1 I1 r1 q1,LT h1[thn[hg QD s1 σ H1 x v _ I1 r1 q1] λ _ s2 q=>q])
def ap {i:Nat}{x:Str}{e:QA}{pos':Pos}(hN:X.N.Nodup)(he:TO)(hi:AJ xGE)(hx:xAn[xKF x])(hs:AJ[x3J e[some[xEY pos']]=xUg])(hf:xAn[xRj\/xQ8]):
  xL1 [xEY pos'] e pos[xxS te[bO i]]:=by
 intro QD s σ H D I h;show(wpAny_Assign_Name[V7 xHl v] hs,DR y H1 I1 r1 q1 z9[xtH I1 hN hi hx r1[λ s2 I2=>ll H1 I2 q1] hf])
inductive tWhile (c:TT) (tb:TS) (D:Ends) (σ:St) (H:Hp):Prop
 |mk (W:xYv) (h0:CU m[W m σ H]) (h1:∀m σ H,W m σ H->c σ H[kI b[Uc b[∃N,uN[xPo->bY[m'<m/\W m' σ' H']]/\tb {D with nx:=N,ct:=N,bk:=D.nx} σ H1][xSW H1]]]):tWhile c tb D σ H
def xzG {c:QA}{body:kJ}{tb:TS}(hp:ykK X.A X.env X.xe)(hc:kR c tc)(hb:pW body tb):ki[.While c body [] pos][tWhile tc tb]:=by
 intro QD s σ H D I h;show((W,(m0,w0),turn)=h,wpAny_While[codeAny_whileLoop[λ n s'=>∃σ' H',xCm/\W n σ' H'] ?_ m0[xCo H I w0]]);rintro n s1 ⟨σ1,H1,I1,w1⟩;show XX[xHT[Hv[hc QD s1 σ1 H1 _ I1[turn n σ1 H1 w1]] b s2]] H2 I2 q2 z9;cases b with
 |true=>
  show((N,hN,q2)=q2,Γ CD[xHT[xvY[hb QD s2 σ1 H2 _ I2 q2] f s3 q3]]);cases f with
  |next=>
   show((σ3,H3,I3,n3)=q3,Ie m' hm w3[hN σ3 H3 n3] (m',hm,σ3,H3,I3,w3))
  |cont=>
   show((σ3,H3,I3,n3)=q3,Ie m' hm w3[hN σ3 H3 n3] (m',hm,σ3,H3,I3,w3))
  |brk=>exact q3
  |ret v=>exact q3
 |false=>
  show Zz JF[Ng (σ1,H2,I2,q2)]
universe s
structure It where
 go:DQ xvW
 yld:DQ[Hp->UT V]
 stop:DQ xvW
def xsz (X:Cx)(QD:Κ)(H:Hp)(b:Qq):Prop:=
 Hg/\zf/\xMx/\(xRJ\/xzT b)/\(∀x c,X2->ZM)/\xDX
def Inv.fpOk {X:Cx}{QD:Κ}{σ:St}{b:Qq}(I:Wp)(hb:xzW b)(hn:xAX):lQ b:=by
 refine(hn,K4[Ja I.lt hb],I.nofs hb,.inr[IY I.sz hb],λ x c e z=>?_,Μ p hp z)
 ·show((v,q)=xPK,tN[Ja q.lt[LT z hb]])
 ·show tN[xHn xHh.1[LT z hb]]
structure Turn (P:Qv)(w:Qw)(K:Frag)(tg:QA)(J:It)(fp:AH)(it:Qq)(tn:cI Qz):Prop where
 mem:it∈fp
 obj:∀i h,xIw h->rG[∃o,WS/\∀v,o.data≠ xGx]
 keep:∀i h h',xIw h->(rG[∀o,WS->Et])->xIw h'
 item:∀(X:Cx),X.prog=P->X.w=w->X.K=K->FA->∀(i:Nat) (QD:Κ) (s:Qu) (σ:St) (H:Hp) (E:Ak),Wp->(xZb)->ydC->J.go i H->
  xvT P w X.A xUb[λ r s1=>∃u,uV r/\
   xvT P w X.A[yg1 pj u][λ _ s2=>∃x H',F7 s2/\rf/\x9r H x H'/\tn[i+1] s2.heap/\xOW] E s1] E s
 done:∀(X:Cx),X.prog=P->X.w=w->X.K=K->FA->∀(i:Nat) (QD:Κ) (s:Qu) (σ:St) (H:Hp) (E:Ak),Wp->(xZb)->ydC->x9j H->
  xvT P w X.A xUb[λ r s1=>Θ r/\Zu s1] E s
 self:∀(A:Qy) (i:Nat) (s:Qu) (Q:Ak) (E:Ak),ydC->Q pj s->xvT P w A[pyIter pj] Q E s
abbrev TI:=St->xI2[jG]
def PIE (X:Cx)(QD:Κ)(σ:St)(tg:QA)(R:jG)(itv:Qr)(s2:Qu):Prop:=
 ∃(it:Qq) (fp:AH) (tn:cI Qz) (J:It) (H':Hp),itv=pj/\F7 s2/\Turn X.prog X.w X.K tg J fp it tn/\tn 0 s2.heap/\(rG[lQ b])/\R J H'
def PI (X:Cx)(tg iter:QA)(wi:TI):Prop:=
 ∀(QD:Κ) (s:Qu) (σ:St) H (R:jG),Wp->xRU R->
  zw ydS[λ v s1=>sS[pyIter v][PIE X QD σ tg R] s1]
def xs7 (ho:Ii it o)(hc:ui[.type n])(hd:xOU)
  (hn: AG[["enumerate","zip","dict_itemiterator","dict_reverseitemiterator","odict_iterator","itertools.zip_longest","itertools.pairwise"].contains n]) (hQ:xL6 s):An[yg1 pj u]:=by
 unfold letOwnedTupleGo;cases tg<;>first
  |show Bw hQ
  |(cases u<;>first
    |show Bw hQ
    |(show(Gp[wpAny_load ho ?_],[hc,hd]);show wpAny M A[Uc[["enumerate","zip","dict_itemiterator","dict_reverseitemiterator","odict_iterator","itertools.zip_longest","itertools.pairwise"].contains n&&vs[0]?==some[rawInt _]] _ _] Q E s;show Zz[by intro h;show Zw hn PP h h][Jr hQ]))
def Itl (K:Frag)(a:Qq):It:=
 (λ i H=>∃xs x,VH/\ue,λ i H x H'=>H'=H/\∀xs,VH->ue,λ i H=>cg[VH/\x2B i])
def Itt (K:Frag)(a:Qq):It:=
 (λ i H=>∃xs x,xDM/\ue,λ i H x H'=>H'=H/\∀xs,xDM->ue,λ i H=>cg[xDM/\x2B i])
def Itr (lo:Int)(n:Nat):It:=(λ i _=>i<n,λ i H x H'=>H'=H/\x=.int[lo+i],λ i _=>IA n)
def xgU {P:Qv}{w:Qw}{K:Frag}{tg:QA}(a it:Qq):xWD w K tg vv [it] it[λ i h=>yhZ a i] where
 mem:=Z6
 obj:=λ i h st b hb=>by
  show(C7[b=it] A7,DD,C5 o e c d st[kc e[λ v z=>qX d]])
 keep:=λ i h h' st k=>st.at λ o e=>k it Z6 o e
 item:=by
  intro X hP hw hK hc i QD s σ H E I hf st hg;subst hP hw hK;show(x7x x hq hx hg,kW rv p hq,xFT hu ru yc9,o1 f0 f1 f2 f3 f4 f5 it Z6,DK[wpAny_pyNext_list_item st p.isList xFk[qr st' sb]] I1 xWN[eO[λ b o hb e=>x6 sb b hb e]],C5 o e c d[id st'][Ef u[xs7 e c d Z9 (x,H,I1,ru,ZV[λ ys hy=>(LT[yi2 hq] hx)],st',xQ6 vS)]])
 done:=by
  intro X hP hw hK hc i QD s σ H E I hf st hg;subst hP hw hK;show((xs,hq,hx)=hg,kW rv p hq,o1 f0 f1 f2 f3 f4 f5 it Z6,aH hl rv.length[QQ.xeZ I.hq st p.isList[yu[xUh hx]] λ h' eb=>ZV[eO[λ b o hb e=>eb b o hb e]]])
 self:=xT5 h[wpAny_pyIter_listiter st h]
def xhn {P:Qv}{w:Qw}{K:Frag}{tg:QA}(a it:Qq):xWD w K tg[Itt K a] [it] it[λ i h=>h.IsTupleIter it a i] where
 mem:=Z6
 obj:=λ i h st b hb=>by
  show(C7[b=it] A7,DD,C5 o e c d st[kc e[λ v z=>qX d]])
 keep:=λ i h h' st k=>st.at λ o e=>k it Z6 o e
 item:=by
  intro X hP hw hK hc i QD s σ H E I hf st hg;subst hP hw hK;show(x7x x hq hx hg,aV rv p hz hq,xFT hu ru yc9,o1 f0 f1 f2 f3 f4 f5 it Z6,DK[wpAny_pyNext_tuple_item st[x14 a p] xFk[qr st' sb]] I1 xWN[eO[λ b o hb e=>x6 sb b hb e]],C5 o e c d[id st'][Ef u[xs7 e c d Z9 (x,H,I1,ru,ZV[λ ys hy=>(LT[I.tuple_inj hy hq] hx)],st',xQ6 vS)]])
 done:=by
  intro X hP hw hK hc i QD s σ H E I hf st hg;subst hP hw hK;show((xs,hq,hx)=hg,aV rv p hz hq,o1 f0 f1 f2 f3 f4 f5 it Z6,aH hl rv.length[QQ.xkz I.hq st[x14 a p][yu[xUh hx]] λ h' eb=>ZV[eO[λ b o hb e=>eb b o hb e]]])
 self:=xT5 h[wpAny_pyIter_tupleiter st h]
def xhf {P:Qv}{w:Qw}{K:Frag}(it)(lo)(n):xWD w K tg[xBB n] [it] it[λ i h=>xTv h[lo+Zx i*1][BU-Zx i] 1] where
 mem:=Z6
 obj:=λ i h st b hb=>HP[b=it] A7[CS st[λ v z=>by
   show((z':xU3 _ ybx)=z,xBJ)]]
 keep:=λ i h h' st k=>k it Z6 _ st
 item:=by
  intro X hP hw hK hc i QD s σ H E I hf st hg;subst hP hw hK;show(o1 f0 f1 f2 f3 f4 f5 it Z6,yf9[cw[i<n] hg][qr YL sb],A3 st'[xTv h'[lo+VF*1][BU-VF] 1][by
   show(G9[lo+VF*1=lo+xJ*1+1] Z5[BU-VF=BU-xJ-1] Z5,XV e1 e2 YL)] I1[Zu[mI h' xMw]][eO[λ b o hb e=>ybv o hb e]][BV[xs7 st' rfl rfl Z9 (.int[lo+i],H,I1,FQ s.toks,qg,st',xQ6 vS)]],[Int.mul_one])
 done:=by
  intro X hP hw hK hc i QD s σ H E I hf st hg;subst hP hw hK;show(o1 f0 f1 f2 f3 f4 f5 it Z6,QQ.xkq I.hq st[cw[IA n] hg] λ h' eb=>ZV[eO[λ b o hb e=>eb b o hb e]])
 self:=xT5 h[yge h]
section
variable {X:Cx}{tg:QA}
inductive iList_p (K:Frag) (R:jG) (x:V) (H1:Hp):Prop
 |mk (a:_) (h0:x=AO) (h1:CU xs[xY1 a xs]) (h2:R vv H1):iList_p K R x H1
def xdL (K:Frag)(tl:TE):TI:=λ σ H R=>tl σ H[kI x[iList_p K R x H1]]
inductive iTup_p (K:Frag) (R:jG) (x:V) (H1:Hp):Prop
 |mk (a:_) (h0:x=AO) (h1:CU xs[QV K H1 a xs]) (h2:R[Itt K a] H1):iTup_p K R x H1
def xi3 (K:Frag)(tl:TE):TI:=λ σ H R=>tl σ H[kI x[iTup_p K R x H1]]
def xxC {l:QA}{tl:TE}(hl:AN l tl):xZX l[xdL X.K tl]:=by
 intro QD s σ H R I h;show(kA[V7[hl QD s σ H _ I h] v] x H1 I1 r1 q1,(a,e,(xs,hq),q)=q1,DD,xYf,xzN rv p hz[I1.list hq],ω[yfQ p.isList] (s1.heap.objs.size,ygK,_,_,H1,rfl,ycB[λ b o e=>qH],xgU a _,x8L,qE,q),HP[yjW b] A7 x6n)
def xsX {l:QA}{tl:TE}(hl:AN l tl):xZX l[xi3 X.K tl]:=by
 intro QD s σ H R I h;show(kA[V7[hl QD s σ H _ I h] v] x H1 I1 r1 q1,(a,e,(xs,hq),q)=q1,DD,xYf,xzN rv p hz[I1.tuple hq],ω[wpAny_pyIter_tuple[show s1.heap.IsTuple a its.toArray from p] ?_] (s1.heap.objs.size,ygK,_,_,H1,rfl,ycB[λ b o e=>qH],xhn a _,x8L,qE,q),HP[yjW b] A7 x6n)
def xnI {QD:Κ}{σ:St}{lo hi:Int}(I:Wp)(h1:-(2^62)≤lo)(h2:lo<2^62)(h3:-(2^62)≤hi)(h4:hi<2^62)
  (q:R[xBB[xa hi lo]] H):Av[pyIter qx][PIE X QD σ tg R] E[mI[yaa #[xOB,xRh,xRA]] tk]:=by
 show(yf1 .. (small_one h1 h2 h3 h4) ?_,SC I1[Zu[mI[yaa #[xOB,xRh,xRA]] tk]][I.kept λ b o e=>qH] (ybi #[xOB,xRh,xRA],[ybi #[xOB,xRh,xRA]],_,_,H,rfl,
  x0H tk[λ b o e=>qH],xhf _ lo[xa hi lo],?_,qE,q))
 ·show G9[lo+xDq*1=lo] Z6[ST[xa hi lo]-xDq=Builtin.Range.rangeSize lo hi 1][by rw [rangeSize_one];split<;>lia]
  show yi3 _[lo+xDq*1][ST[xa hi lo]-xDq] 1;show XV e1 e2 BH
 ·show HP[b=ybi #[xOB,xRh,xRA]] A7 x6n
inductive iRng1_p (R:jG) (vs:Sy) (H1:Hp):Prop
 |mk (j:_) (h0:vs=[D8]) (h1:pQ[-(2^62)]) (h2:j<2^62) (h3:R[Itr 0 j.toNat] H1):iRng1_p R vs H1
def xdu (ta:TA):TI:=λ σ H R=>xVR vs[iRng1_p R vs H1]
inductive iRng2_p (R:jG) (vs:Sy) (H1:Hp):Prop
 |mk (i:_) (j:_) (h0:vs=[Dz,D8]) (h1:(IA[-(2^62)]/\i<2^62/\pQ[-(2^62)]/\j<2^62)) (h2:R[Itr i[xa j i]] H1):iRng2_p R vs H1
def xdN (ta:TA):TI:=λ σ H R=>xVR vs[iRng2_p R vs H1]
def xti {a:QA}{ta:TA}{p pos:Pos}(hg:ycA)(hm:ycD)(ha:Gu uP ta)(hs:AJ[xG uP=[sH a]]):xZX[xVl "range" p uP][xdu ta]:=by
 intro QD s σ H R I h;show(kA[Call_[yca I[L9 xQZ hs rfl]]] vs H1 I1 r1 q1,(j,e,q1,q2,q)=q1,DD);cases r1 with
 |cons r rr=>
  cases rr;show xzS t r[call_range_1[xnI I1 Z5 Z5 q1 q2[by simpa using q]]]
def xfe {a b:QA}{ta:TA}{p pos:Pos}(hg:ycA)(hm:ycD)(ha:Gu [a,b] ta)(hs:AJ[xG [a,b]=[sH a,sH b]])(TJ:AJ[xG Wz=[sH b]]):
  xZX[xVl "range" p [a,b]][xdN ta]:=by
 intro QD s σ H R I h;show(kA[Call_[yca I[L9 xQZ[by rw [hs,TJ]][Ar TJ]]]] vs H1 I1 r1 q1,(i,j,e,(q1,q2,q3,q4),q)=q1,DD);cases r1 with
 |cons r rr=>
  cases rr with
  |cons r' rr=>
   cases rr;show(gC r,xzS t' r'[call_range_2[xnI I1 q1 q2 q3 q4 q]])
def xee (wi:TI)(g:TG)(tb:TS):TS:=λ D σ H=>xRU[kI J[Ek EE[xYP H1/\∀i m σ H,xYO H->
 (x9j H/\tQ)\/(J.go i H/\∃N,uN[xPo->bY[m'<m/\xZC[i+1] H']]/\uq x[x9r H x H'->xYJ[Ry D N N]])]]]
def xsR (fp:AH) (h:Qz):Κ:=fp.filterMap λ b=>XW[h.get? b] o ((b,o))
def xe4 {fp:AH}(hb:b∈fp)(e:WS):((b,o))∈xsR fp h:=List.mem_filterMap.mpr (b,hb,Ar e)
def xg2 {fp:AH}(hp:p∈xsR fp h):BS∈fp/\jI BS Wd:=by
 obtain⟨b,hb,e⟩:=List.mem_filterMap.mp hp;cases q:h.get? b with
 |none=>show yb q
 |some o=>
  show(xU q e e'[((b,o))=p][JA e],YI e' hb q)
def Inv.pinned {QD:Κ}{σ:St}{H:Hp}(I:Wp)(hf:xZb)(ho:rG[∃o,DA/\∀v,o.data≠ xGx]):Inv X[QD++xsR fp s.heap] σ H s:=
 I.pins_of[X5[wU hp[SZ[xFc[vA z]]][SZ[by
  show((hb,e)=xg2 z,(f0,f1,f2,_)=hf BS hb,(o,e',d)=ho BS hb,tO e' e',xJ8 e f0 f1 f2 d)]]]]
def Inv.unpinned {QD pl:Κ}{σ:St}{H:Hp}(I:Inv X[QD++pl] σ H s):Wp:=I.pins_of[X5[xFc[vA xXa]]]
def xe9 (hp:ykK X.A X.env X.xe)(hc:FA)(hi:PI X tg iter wi)(hg:xQs tg g)(hb:pW body tb)
  (hs:qp x[xDE=xBC]):ki[.For tg iter body [] pos][xee wi g tb]:=by
 intro QD s σ H D I h;show(wpAny_For[thn[xI1 s H _ I h] λ v s1 h1=>xvY h1 itv s2 h2] hs,(it,fp,tn,J,H2,e,I2,T,Ut,f2,W,(m0,w0),turn)=h2,DD,SC Yq[∀{H'},(xOW)->rG[lQ b]][λ hn b hb=>(hn b hb,x74.2)][codeAny_forLoop_any[λ n s'=>∃i σ' H',xCm/\xIw s'.heap/\(xOW)/\W i n σ' H'] ?_ m0 (0,σ,H2,I2,Ut,xQ6 x74,w0)]);rintro n s3 ⟨i,σ3,H3,I3,RU,fr3,w3⟩;rcases turn i n σ3 H3 w3 with⟨stop,qn⟩|⟨go,N,hN,step⟩
 ·show(zJ[xHT[Hv[T.done X rfl rfl rfl hc i QD s3 σ3 H3 X.xe I3[Yq fr3] RU stop] r s4]] hr I4 z9,DN hr[Ng (σ3,H3,I4,qn)])
 ·show XX[xHT[Hv[T.item X rfl rfl rfl hc i QD s3 σ3 H3 X.xe I3[Yq fr3] RU go] r s4]] u hr h4 z9;subst hr;show(xHT[xZ0 h4 s5],(x,H5,I5,r5,y5,st5,fr5)=z9,χ I5'[I5.pinned[Yq fr5][xRv st5]][xHT[xZ0[hg _ s5 σ3 H5 x u _ I5' r5[step x H5 y5]] s6]],(σ6,H6,I6,q6)=z9,DK[xHT[xvY[xCr s6 σ6 H6 _ I6 q6] f s7 q7]] again[cj σ7 H7[Inv X[QD++xsR fp s5.heap] σ7 H7 s7][N σ7 H7->∃m,m<n/\∃i σ' H',oG σ' H' s7/\xIw s7.heap/\(xOW)/\W i m σ' H']][λ {σ7 H7} I7 n7=>by
   show(Dq m' hm w7[hN σ7 H7 n7] (m',hm,i+1,σ7,H7,I7.unpinned,xUQ _ _ st5 λ b hb o e=>(I7.pin ((b,o)) xC4).1,qE,w7),Ie o e d[xRv st5 b hb][AV[I7.pin ((b,o)) xC4]])])
  cases f with
  |next=>show C5 σ7 H7 I7 n7 q7[again I7 n7]
  |cont=>show C5 σ7 H7 I7 n7 q7[again I7 n7]
  |brk=>show C5 σ7 H7 I7 q7 q7 (σ7,H7,I7.unpinned,q7)
  |ret v=>show((x7,σ7,H7,I7,r7,q7)=q7,Z0 x7 σ7 H7 I7.unpinned r7 q7)
universe s
def xxu {K:Frag}{a:Qq}{xs:Sy}{g:TG}{tb:TS}{D:Ends}(Pv:xYv)(h0:E1 0)(hl:∀i σ H,WH->T2->VH)
  (hs:∀i x σ H,ue->T2->Vo[Ry D[Pv[i+1]][Pv[i+1]]]) (hd:∀σ H,yky->tQ):
  Ek EE[xYP H/\∀i m σ H,xYO H->
   (ik vv H/\tQ)\/(gX vv H/\∃N,uN[xPo->bY[m'<m/\xZC[i+1] H']]/\uq x[YA vv H x H'->xYJ[Ry D N N]])]:=by
 show yI[λ i m σ H=>m=xQV/\WH/\T2] (xs.length,Z6,B1,h0);rintro i m σ H ⟨rfl,hi,p⟩;show YC[xDh σ H hi p];by_cases QF:rQ
 ·show(zJ[ja (xs,xs[(i)],q,xVn)[Pv[i+1]][λ σ' H' p'=>jE[p9[i+1]] we QF p'] xXC] e y y,yA[xDi x σ _ xXK p])
 ·show HP xN8 xBA[Zp[xHv q ρ][hd σ H p]]
def xlM {lo:Int}{g:TG}{tb:TS}{D:Ends}(Pv:xYv)(h0:E1 0)
  (hs:∀i σ H,i<n->T2->g[.int[lo+i]] σ H[Ry D[Pv[i+1]][Pv[i+1]]]) (hd:∀σ H,E1 n->tQ):
  Ek EE[xYP H/\∀i m σ H,xYO H->
   (ik[xBB n] H/\tQ)\/(gX[xBB n] H/\∃N,uN[xPo->bY[m'<m/\xZC[i+1] H']]/\uq x[YA[xBB n] H x H'->xYJ[Ry D N N]])]:=by
 show yI[λ i m σ H=>m=n-i/\xRs/\T2] (n,Z6,B1,h0);rintro i m σ H ⟨rfl,hi,p⟩;by_cases QF:i<n
 ·show zJ[ja QF[Pv[i+1]][λ σ' H' p'=>jE[n-(i+1)] we QF p'] xXC] e y y;subst e y;exact xDi σ _ QF p
 ·show HP[i=n] xBA[Zp ρ[hd σ H p]]
abbrev R2:=V->xII V
def xzt (X:Cx)(f:Qr->Qr->xM9)(r:R2):Prop:=
 ∀(QD:Κ) (s:Qu) (σ:St) H x y v u Q,Wp->wQ->VL->lJ y H Q->
  Ds[f v u]
def UnR (X:Cx)(f:Qr->xM9)(r:xII V):Prop:=
 ∀(QD:Κ) (s:Qu) (σ:St) H x v Q,Wp->wQ->lJ H Q->
  Ds[f v]
def xyv (X:Cx)(f:Qr)(r:Rz):Prop:=
 ∀(QD:Κ) (s:Qu) (σ:St) H xs us Q,Wp->vX->r xs H Q->
  Ds[call f us]
def tOp (r:R2)(ta tb:TE):TE:=λ σ H Q=>S7[xY5[jh y[lJ y H2 Q]]]
def tUn (r:xII V)(ta:TE):TE:=λ σ H Q=>S7[lJ H1 Q]
inductive xvj (C:Int->BY Int) (g:vF[vF V]) (x:V) (y:V) (H:Hp) (Q:VK):Prop
 |mk (i:_) (j:_) (h0:x=Dz) (h1:y=D8) (h2:C i j) (h3:Fc oW):xvj C g x y H Q
inductive xwj (g:vF[vF V]) (x:V) (y:V) (H:Hp) (Q:VK):Prop
 |mk (i:_) (j:_) (h0:x=Dz) (h1:y=D8) (h2:Fc oW):xwj g x y H Q
inductive xsL (g:vF V) (x:V) (H:Hp) (Q:VK):Prop
 |mk (i:_) (h0:x=Dz) (h1:Fc[g i]):xsL g x H Q
section
variable {X:Cx}{a b c:QA}{ta tb tc:TE}{pos:Pos}
def binT (ha:oo)(hb:Um){QD:Κ}{s:Qu}{σ:St}{R:V->UT V}(I:Wp)
  (h:S7[xY5[jh y[R x y H2]]]) {Q:Ak} {f:Qr->Qr->xM9}
  (hf:∀v u s2 x y H2,oa H2 s2->wQ->VL->R x y H2->sS[f v u] Q s2):
  zw[xE a][λ v s₁=>sS[xE b][λ u s₂=>sS[f v u] Q s₂] s₁]:=by
 show(kA[xIY v] x H1 I1 r1 q1,Hv[xI9 _] u s2,DR y H2 I2 r2 q2 z9[hf v u s2 x y H2 I2 r1 r2 q2])
def ao {op:Operator}{r:R2}(ho:rM op r)(ha:oo)(hb:Um):AN[.BinOp a op b pos][xXL ta tb]:=by
 intro QD s σ H Q I h;exact wpAny_BinOp[yeU hb I h λ v u s2 x y H2 I2 rx ry q=>xZl x y v u Q I2 rx ry q]
def xrW {op:UnaryOp}{r:xII V}(ho:UnR X[unaryOp op] r)(ha:oo):AN[.UnaryOp op a pos][tUn r ta]:=by
 intro QD s σ H Q I h;exact UnaryOp_[thn[xCq _] λ v s1 z9=>DR x H1 I1 r1 q1 z9[aR s1 H1 x v Q I1 r1 q1]]
def opI {f:Qr->Qr->xM9}{g:vF[vF Int]}
  (rule:∀(i j:Int) (t u:Tok) (s:Qu) (Q:Ak) (E:Ak),C i j->Q[ydW oW] xWs->Av[f j7[D8 u]] Q E s):
  xzt X f[xFD C oW]:=by
 intro QD s σ H x y v u Q I rx ry h;show(vP i j rfl hc q,Rr,uu[x6C j t t' s _ _ hc[uE oW CQ q]])
def xay {g:vF[vF Int]}
  (rule:∀(i j:Int) (t u:Tok) (s:Qu) (Q:Ak) (E:Ak),Q[ydW oW] xWs->Av[f j7[D8 u]] Q E s):
  xzt X f[xN6 oW]:=by
 intro QD s σ H x y v u Q I rx ry h;show(yV i j rfl q,Rr,uu[x6C j t t' s _ _[uE oW CQ q]])
def xuQ {f:Qr->Qr->xM9}{g:vF[xw4 Int]}
  (rule:∀(i j:Int) (t u:Tok) (s:Qu) (Q:Ak) (E:Ak),x4k oW s->Av[f j7[D8 u]] Q E s):
  xzt X f[xwj λ i j=>.bl oW]:=by
 intro QD s σ H x y v u Q I rx ry h;show(yV i j rfl q,Rr,uu[x6C j t t' s _ _[Xw[.bl oW] I q]])
def xuX (i j:Int):Prop:=0<j/\j<1073741824
def xuS (i j:Int):Prop:=pQ 0/\x3N j/\i.natAbs<2^64
def CMul (i j:Int):Prop:=(-(2^64)<i/\i<2^64)\/(-(2^64)<j/\j<2^64)
def CMul.ok (h:CMul i j):IntMulOk i j:=by
 rcases h with⟨h1,h2⟩|⟨h1,h2⟩
 ·exact .of_left[yhD h2]
 ·exact .of_right[yhD h2]
def xgJ (k):FX≤2^k:=LT two_pow_cast Wk
def xlW:rM .Add[xN6[i+j]]:=xYm[add_int q]
def bv:rM .Sub[xN6[i-j]]:=xYm[sub_int q]
def xxs:rM .Mult[xFD CMul[i*j]]:=opI λ _ _ _ _ _ _ _ hc q=>mul_int q hc.ok
def xlR:rM .FloorDiv[xFD xuX[i/j]]:=opI λ i j _ _ _ _ _ hc q=>by
 show(Sc h1[FX<j] hc.1 h2[j<1073741824] hc.2,floordiv_int Z5[vM[Pz i[Qm h1]]][.inl[PyProof.noPylong_small Z4]])
def xlU:rM .Mod[xFD[λ _ j=>0<j][i%j]]:=opI λ i j _ _ _ _ _ hc q=>DC h1[FX<j] hc[mod_int'[MJ[Int.ne_of_lt hc]][vM[Int.fmod_eq_emod_of_nonneg i[Qm hc]]]]
def xwS:rM .LShift[xFD xuS[i*xWV 2]]:=opI λ _ _ _ _ _ _ _ hc q=>lshift_int_small hc.1[AV hc][EU hc] q
def xxY:rM .RShift[xFD[λ _ j=>pQ 0][i/xWV 2]]:=opI λ i j _ _ _ _ _ hc q=>
 rshift_int hc[vM[Pz i[xgJ _]]]
def xxa:rM .BitAnd[xN6[Builtin.bitAnd i j]]:=xYm[and_int q]
def xok:rM .BitOr[xN6[Builtin.bitOr i j]]:=xYm[or_int q]
def xsN:rM .BitXor[xN6[x91 j]]:=xYm[xor_int q]
def unI {g:vF Int}
  (rule:∀(i:Int) (t:Tok) (s:Qu) (Q:Ak) (E:Ak),Q[ydW[g i]] xWs->Av[f j7] Q E s):
  UnR X f[xsL λ i=>.int[g i]]:=by
 intro QD s σ H x v Q I rx h;show(XG i q h,d5 t[x6C t s _ _[uE[g i] CQ q]])
def xrh:UnR X[unaryOp .USub][xsL λ i=>xPl i]:=unI λ _ _ _ _ _ q=>neg_int q
universe s
def xiY:V->xw4 V
 | .non,.non=>true| .non,.int _=>true| .int _,.non=>true| .non,.bl _=>true| .bl _,.non=>true| .non,.str _=>true| .str _,.non=>true
 | .int _,.int _=>true| .bl _,.bl _=>true| .str _,.str _=>true| .byt _,.byt _=>true
 | .int _,.str _=>true| .str _,.int _=>true| .bl _,.str _=>true| .str _,.bl _=>true
 |_,_=>false
inductive rEq (x:V) (y:V) (H:Hp) (Q:VK):Prop
 |mk (h0:Ty[xiY x y]) (h1:wo[CG x y]):rEq x y H Q
inductive rNe (x:V) (y:V) (H:Hp) (Q:VK):Prop
 |mk (h0:Ty[xiY x y]) (h1:wo[! CG x y]):rNe x y H Q
def xpg:CG[V.int i][V.int j]=(i==j):=Di NS
def xox:CG[V.bl i][V.bl j]=(i==j):=Di NS
def xpz:CG[V.str i][V.str j]=(i==j):=Di NS
def xpE:CG[V.byt i][V.byt j]=(i.toList==j.toList):=by
 rw [NS];cases i;cases j;simp
section
variable {X:Cx}{a b c:QA}{ta tb tc:TE}{pos:Pos}
def xe6 {QD:Κ}{σ:St}{H:Hp}{s:Qu}(I:Wp)(q:wo k)(e:k=k'):oN[.bool k'] s:=yA[Xw wD I q]
def xza:x7d rEq:=by
 intro QD s σ H x y v u Q I rx ry h;show xAs hs q;cases x with
 |non=>
  show Z2;cases y with
  |non=>show j9[PySem.EqNone.eq_none_none fk]
  |bl j=>show j9[PySem.EqNone.eq_none_bool fk]
  |int j=>show uu[PySem.EqNone.eq_none_int fk]
  |str j=>show uu[PySem.EqNone.eq_none_str fk]
  |_=>show QT
 |bl i=>
  show Z2;cases y with
  |non=>show j9[PySem.EqNone.eq_bool_none fk]
  |bl j=>show j9[eq_bool[mx xox]]
  |str j=>show uu[PySem.EqMixed.eq_bool_str fk]
  |_=>show QT
 |int i=>
  show Rr;cases y with
  |non=>show j9[PySem.EqNone.eq_int_none fk]
  |int j=>show uu[eq_int[mx xpg]]
  |str j=>show uu[PySem.EqMixed.eq_int_str fk]
  |_=>show QT
 |str i=>
  show Rr;cases y with
  |non=>show j9[PySem.EqNone.eq_str_none fk]
  |bl j=>show j9[PySem.EqMixed.eq_str_bool fk]
  |int j=>show uu[PySem.EqMixed.eq_str_int fk]
  |str j=>show uu[eq_str[mx xpz]]
  |_=>show QT
 |byt i=>
  show Rr;cases y with
  |byt j=>show uu[PySem.W.eq_bytes[mx xpE]]
  |_=>show QT
 |_=>cases y<;>exact absurd[qh false hs] JF
def xwO:x2Y rNe:=by
 intro QD s σ H x y v u Q I rx ry h;show xAs hs q;cases x with
 |non=>
  show Z2;cases y with
  |non=>show j9[PySem.EqNone.ne_none_none fk]
  |bl j=>show j9[PySem.EqNone.ne_none_bool fk]
  |int j=>show uu[PySem.EqNone.ne_none_int fk]
  |str j=>show uu[PySem.EqNone.ne_none_str fk]
  |_=>show QT
 |bl i=>
  show Z2;cases y with
  |non=>show j9[PySem.EqNone.ne_bool_none fk]
  |bl j=>show j9[ne_bool[mx[x1y xox]]]
  |str j=>show uu[PySem.EqMixed.ne_bool_str fk]
  |_=>show QT
 |int i=>
  show Rr;cases y with
  |non=>show j9[PySem.EqNone.ne_int_none fk]
  |int j=>show uu[ne_int[mx[x1y xpg]]]
  |str j=>show uu[PySem.EqMixed.ne_int_str fk]
  |_=>show QT
 |str i=>
  show Rr;cases y with
  |non=>show j9[PySem.EqNone.ne_str_none fk]
  |bl j=>show j9[PySem.EqMixed.ne_str_bool fk]
  |int j=>show uu[PySem.EqMixed.ne_str_int fk]
  |str j=>show uu[ne_str[mx[x1y xpz]]]
  |_=>show QT
 |byt i=>
  show Rr;cases y with
  |byt j=>show uu[PySem.W.ne_bytes[mx[x1y xpE]]]
  |_=>show QT
 |_=>cases y<;>exact absurd[qh false hs] JF
def xtf:Wj .Lt[xwj λ i j=>Rh i j]:=xuQ[xSH[lt_int q]]
def iP:Wj .LtE[xwj λ i j=>xZz i j]:=xuQ[xSH[le_int q]]
def xwV:Wj .Gt[xwj λ i j=>Rh j i]:=xuQ[xSH[gt_int q]]
def xwy:Wj .GtE[xwj λ i j=>xZz j i]:=xuQ[xSH[ge_int q]]
def xfi:Wj .Is[λ x y H Q=>SE y/\wo[x8b x]]:=by
 intro QD s σ H x y v u Q I rx ry h;show(xAs rfl q,xLw,is_none_gen[mx ?_]);cases x<;>first
  |(show rn rx)
  |(show gC rx;rfl)
def xpL:Wj .IsNot[λ x y H Q=>SE y/\wo[! x8b x]]:=by
 intro QD s σ H x y v u Q I rx ry h;show(xAs rfl q,xLw,isnot_none_gen[mx ?_]);cases x<;>first
  |(show rn rx)
  |(show gC rx;rfl)
def xlS (b)(h:sh[op≠ .In])(h2:sh[op≠ .NotIn]):xZe:=tz b h h2
def xe2 {op:CmpOp}{r:R2}(ho:Wj op r)(ha:oo)(hb:Um)(hm:xZe):AN[xUf [op] Wz pos][xXL ta tb]:=by
 intro QD s σ H Q I h;exact wpAny_Compare1[yeU hb I h λ v u s2 x y H2 I2 rx ry q=>xZl x y v u Q I2 rx ry q] hm
inductive xmu (Q:xw5) (x:V) (H':Hp):Prop
 |mk (k:_) (h0:x=wD) (h1:oA k):xmu Q x H'
def jd (t:TE):TT:=λ σ H Q=>t σ H λ x H'=>xmu Q x H'
def xlT {op:CmpOp}{r:R2}(ho:Wj op r)(ha:oo)(hb:Um)(hm:xZe):kR[xUf [op] Wz pos][jd[xXL ta tb]]:=by
 intro QD s σ H Q I h;show(ygJ[xCq _][x9V v[thn[xI9 _][x9W u[thn[xZl x y v u _ I2 r1 r2 q2][x9s c ?_]]]]] hm,DD,CR r3[LC (H3,I3,q3)])
inductive xmx (r':R2) (tc:TE) (σ:St) (Q:VK) (y:V) (z:V) (H3:Hp):Prop
 |mk (k:_) (h0:z=wD) (h1:EM[Ty k][tc σ H3 λ w' H4=>r' y w' H4 Q][Q XS H3]):xmx r' tc σ Q y z H3
def xow (r r':R2)(ta tb tc:TE):TE:=λ σ H Q=>S7[xY5[jh y[lJ y H2 λ z H3=>xmx r' tc σ Q y z H3]]]
def xqW {op op':CmpOp}{r r':R2}(ho:Wj op r)(ho':Wj op' r')(ha:oo)(hb:Um)(hc:AN c tc)
  (hm:AG[lastMarks [op,op'] [b,c]]:=by with_unfolding_all rfl):AN[xUf [op,op'] [b,c] pos][xow r r' ta tb tc]:=by
 intro QD s σ H Q I h;show(Compare_chain[thn[xCq _][x9V v[chain_link[thn[xI9 _][x9W u[thn[xZl x y v u _ I2 r1 r2 q2][x9s d ?_]]]]]]] hm,DD);cases r3;refine x72;cases k with
 |false=>exact ite_ff[sP XS H3 I3 q3]
 |true=>exact ite_tt[chain_last[thn[xRL s3 H3 _ I3 q3] λ w' s4 z9=>DR z' H4 I4 r4 q4 z9[ho' QD s4 σ H4 y z' u w' Q I4 r2 r4 q4]]]
def xaq {op op':CmpOp}{r r':R2}(ho:Wj op r)(ho':Wj op' r')(ha:oo)(hb:Um)(hc:AN c tc)
  (hm:AG[lastMarks [op,op'] [b,c]]:=by with_unfolding_all rfl):kR[xUf [op,op'] [b,c] pos][jd[xow r r' ta tb tc]]:=by
 intro QD s σ H Q I h;show(isTrue_chain[thn[xCq _][x9V v[test_link[thn[xI9 _][x9W u[thn[xZl x y v u _ I2 r1 r2 q2][x9s d ?_]]]]]]] hm,DD);cases r3;refine x72;cases k with
 |false=>
  show((k',e',q')=q3,CR e'[ite_ff (H3,I3,q')])
 |true=>
  show(ite_tt[test_last[thn[xRL s3 H3 _ I3 q3] λ w' s4 ⟨z',H4,I4,r4,q4⟩=>Hv[ho' QD s4 σ H4 y z' u w' _ I4 r2 r4 q4] d' s5]],(z2,H5,I5,r5,k2,e2,q5)=z9);subst e2;show CR r5[LC (H5,I5,q5)]
def xsW:Zx sizeLine<2^63:=Hd M8
def xlF (r:pT Dt):∃u,us=YG/\rf:=by
 cases r with
 |cons r1 r2=>show CR r2[BV r1]
def xs9 (r:pT [x,y]):∃u w',us=[u,w']/\rf/\RelV y w':=by
 cases r with
 |cons r1 r2=>
  cases r2 with
  |cons r3 r4=>show CR r4[yW _ r1 r3]
def xh7 (hc:bu):cS X "max"[λ xs H Q=>∃i j,xs=[Dz,D8]/\XD[if j>i then j else i]]:=by
 intro QD s σ H xs us Q I r h;show(Q9 i j rfl q,(u,w',rfl,(t,rfl),(t',rfl))=xs9 r,max_two_ints hc λ h' tk k=>cm H[I.kept k] ?_ q)
 by_cases hj:j>i
 ·show XV xXM xXM CQ
 ·show XV[Jk hj][Jk hj] CQ
def xrA (hc:bu):cS X "min"[λ xs H Q=>∃i j,xs=[Dz,D8]/\XD[if j<i then j else i]]:=by
 intro QD s σ H xs us Q I r h;show(Q9 i j rfl q,(u,w',rfl,(t,rfl),(t',rfl))=xs9 r,min_two_ints hc λ h' tk k=>cm H[I.kept k] ?_ q)
 by_cases hj:j<i
 ·show XV xXM xXM CQ
 ·show XV[Jk hj][Jk hj] CQ
def xng:xyv X x1x[λ xs H Q=>CU i[xs=[Dz]/\Fc Dz]\/∃k,xs=[wD]/\XD[d7 k 0]]:=by
 intro QD s σ H xs us Q I r h;rcases h with⟨i,rfl,q⟩|⟨k,rfl,q⟩
 ·show C5 u rfl t rfl[xlF r][call_int_int[yk Dz I CQ q]]
 ·show(lE u r1 r,CR r1[call_int_bool[uE[d7 k 0] CQ q]])
universe s
structure xzd (h:Qz)(x dx C:Qq)(mA:Ι):Prop where
 obj:jI x[ydn dx]
 ns:x44 dx
 ne:dx≠x
def xiu {h:Qz}(n:x44 dx):∃od,jI dx od/\∀name,TD[lookIn name od] x3G:=by
 show((o,es,ep,ho,hd,hk,_,hm)=n,pJ o ho[Hy name],Y7[hm name]);unfold nsFind findBy at e;rw [<-Array.find?_toList] at e;show(Fq lookIn hd,xTn)
 ·rename_i y q
  show Ε q e[aS e]
 ·rename_i q
  show(xCv q,Sc a[AG ygf][by
   rw [List.any_eq_false];intro y hy;obtain⟨z,t,TL⟩:=hk y[Array.mem_toList_iff.mp hy];simp [DictEntry.refKey,TL]] a'[¬Ty ygf][LT a JF],Zz a'[aS e])
def xzd.look (I:xzd h x dx C mA):∃od,x45 h[ydn dx] C[some od]/\∀name,TD[lookIn name od] x3G:=
 let(od,ho,hl):=xiu I.ns
 (od,sV I.obj rfl ho,hl)
section
variable {prog:Qv}{w:Qw}{A:Qy}{E:Ak}{s:Qu}{K:Frag}{x dx C f:Qq}{mA:Ι}{name:Str}{v:Qr}
def xaD (X:o8)(I:yda x dx C mA)(hg:Ty[x2g C name])(hh:Ty x8o)
  (ha:x8N name) (hv:xCA x3G) (hv':Ty[handedIn v]) (h:Q v xWs):
  uc[getAttr E4 name expr]:=Ie od J hl I.look[PySem.W.get_value X J (Pq hg).1[PySem.W.findObj_own hh ha rfl[by rw [hl,hv]]] hv' h]
def xic (X:o8)(I:yda x dx C mA)(hg:Ty[x2g C name])
  (hf:xEv name kZ) (ht:xSj) (hv:Θ x3G) (h:Q ((HW,xQM)) s):
  uc[getMethod E4 name pl]:=Ie od J hl I.look (PySem.W.method_fn X J (Pq hg).1 (Pq hg).2 hf[Kb.mp ht] (by show(lookIn name od).map (·.isSome)=some false;rw [hl,hv];rfl) h)
def xcb (X:o8)(I:yda x dx C mA)
  (hs:xEv "__setattr__" ygo) (hp:Ty[plainOver K C]) (ht:TD[takerIn K C name] none) (hh:Ty x8o)
  (hw:yfZ ns) (hsz:ykv)
  (h:d8[xzd h' x dx C[λ y=>Hn y name Ha[mA y]]->xSY dx h'->xL6[mI h'[s.toks+2]]]):
  uc[setAttr E4 name v]:=by
 show(Dq od J hl I.look[PySem.W.set_plain X J hs[PySem.W.osa_open X J hp ht[Hy b]]],(cd,hc,hd')=O2 hh,qm hx[Ii x (C4,some dx,.plain,#[])] I.obj[xHp[IX[IX[wpAny_loadPart hx[IX[Looks.here[PySem.W.looks_clsIn X hc] ?_]]]]]] hd',ω[Jr[xHp[IX ?_]]][wpAny_nsSet1 I.ns[qr TK TJ]],(oD,esD,epD,hoD,hdD,hcD)=TK.count[PySem.Within.cons name v hw],Gp[wpAny_lookBehind hoD[LT hdD[pastItsLine_dict[IY hcD[LT Jn[Kx hsz 1]]]]] ?_],Bw[X3 (x6 TJ _[MJ I.ne] I.obj,TK,I.ne) TJ])
def xa3 (X:o8)(hm:xFC K C)
  (hi:xFr K C4 kZ) (hf:TD[typeIn K HW][.type "function"])
  (h:xAk bM[xOg[C4::vs]] HW (xMi::vs,kw)[InitBack Hl R][mX xG3]):
  xAk bM A C4 (vs,kw) R s:=DR hh g d t os s[make_core[P9 X hm][NZ X hi][λ self=>PySem.W.bind_fn X self hf] bK h]
def xir (X:o8)(hm:xFC K C)
  (hi:xFr K C4[some xSJ])
  (hb:∀self,Looks bM s.heap[bindSpecial xSJ self] ((xSJ,[self])))
  (h:xAk bM[yfI[sG [C4]]] xSJ[sG[yC Hl]][InitBack Hl R][mX xG3]):
  xAk bM A C4[sG []] R s:=DR hh g d t os s[make_core[P9 X hm][NZ X hi] hb fV h]
universe s
def putF (f:Str) (v:V):ug->ug
 | []=>[((f,v))]
 |((g,x))::r=>Hn g f[((g,v))::r][((g,x))::xCt r]
theorem ar (f g)(v):∀fs,(x6q).lookup g=Hn g f Ha[fs.lookup g]
 | []=>by
  show List.lookup g [((f,v))]=_;by_cases h:g=f
  ·show((hb:IC[g==f])=yd8,xS2 hb[Ju h])
  ·show((hb:X0[g==f])=yd9,xS2 hb[Jk h])
 |((k,x))::r=>by
  show(ZR[ar f g v r],[CA[xCt[((k,x))::r]][EM[k=f][((k,v))::r][((k,x))::xCt r]]]);by_cases hk:k=f
  ·show w6 hk;by_cases h:g=k
   ·show((hb:IC[g==k])=yd8,xS2 hb[Ju[h.trans hk]])
   ·show((hb:X0[g==k])=yd9,xS2 hb[Jk[λ e:g=f=>h[e.trans hk.symm]]])
  ·show w8 hk;by_cases h:g=k
   ·show((hb:IC[g==k])=yd8,xS2 hb[Jk[λ e:g=f=>hk[h.symm.trans e]]])
   ·have hb:X0[g==k]:=yd9;simp only [List.lookup,hb];show xYc
theorem xrS (f)(v):∀fs,f∈(x6q).map (·.1)/\∀g,g∈fs.map (·.1)->g∈(x6q).map (·.1)
 | []=>ka[by simp [putF]] g h E2
 |((k,x))::r=>by
  show((i1,i2)=xrS f v r,[CA[xCt[((k,x))::r]][EM[k=f][((k,v))::r][((k,x))::xCt r]]]);by_cases hk:k=f
  ·show(w6 hk,YI hk Z6[λ g h=>Rj])
  ·show iR hk[nU ?_ g h]
   ·show LT KH[XQ i1]
   ·rw [KH] at h ⊢;show XJ h e e
    ·exact Jv.mpr x4l
    ·exact XQ[i2 g e]
theorem xl1 (f)(v):∀fs,EI x6q[fs.length+1]
 | []=>by simp [putF]
 |((k,x))::r=>by
  show(ZR[xl1 f v r],[CA[xCt[((k,x))::r]][EM[k=f][((k,v))::r][((k,x))::xCt r]]]);by_cases hk:k=f
  ·show Iv[Ju hk] Jn Jn xN4
  ·show Iv[Jk hk] Jn Jn[Kx ih 1]
def S8.some_of (r:S8 Ha o):∃u,uV o/\eh:=by
 cases o with
 |none=>show rT x8p
 |some u=>show Dj u rfl r
def S8.none_of (r:S8 none o):Θ o:=by
 cases o with
 |none=>rfl
 |some u=>show rT x8p
def xhN (r:eh):Ty[handedIn u]:=by
 cases v with
 |non=>show rn[BJ u Value.none r]
 |bl b=>show rn[BJ u yjS r]
 |int i=>show(Vl e[u=xFt i] r,rn e)
 |str x=>show(Vl e[u=xUl x] r,rn e)
 |byt b=>show(Vl e[u=yiX t] r,rn e)
 |flt b=>show(Vl e[u=ybR b] r,rn e)
 |ref a=>show rn[BJ u aI r]
 |ty n=>show rn[BJ u yjT r]
section
variable {P:Qv}{w:Qw}{H H':Hp}{h h':Qz}{a C dx:Qq}{fs fs':ug}
def xfA (hok:ZG)(e:xh a C fs):∃mA,xzd h a dx C mA/\EN f[S8 xTH[mA f]]/\yha/\ykz/\xw1 dx a:=by
 show((d,z,ne,ob,mA,n,r,q)=xwG[qv[xSt C fs]][hok a _ e],Z0 mA (ob,n,ne) r q z d)
universe s
structure Cls (K:Frag)(C:Qq):Prop where
 pg:Ty[x2g C Str.empty]
 hd:Ty x8o
 po:Ty[plainOver K C]
 sa:xEv "__setattr__" ygo
def Cls.get {K:Frag}(c:Es)(f):Ty[x2g C f]:=c.pg
def NoAttr (K:Frag)(C:Qq)(f:Str):Prop:=x8N f
def NoAttr.taker {K:Frag}(n:f9 f):TD[takerIn K C f] none:=xG6 takerIn[show x8N f from n]
structure Meth (K:Frag)(C:Qq)(m:Str)(f:Qq):Prop where
 at_:xEv m kZ
 fn:xSj
 kp:ZI
section
variable {X:Cx}{QD:Κ}{σ:St}{H:Hp}{s:Qu}{a C dx:Qq}{fs:ug}{f:Str}{v:V}{A:Qy}{E:Ak}
def xho {b:Bool}{Q:Ak}(I:Wp)(e:xh a C fs)(c:xBE)(n:NoAttr X.K C f)(l:xCA xTH)
  (h:∀u s',xH2->eh->Q u s'):WN[getAttr AO f b] Q E s:=by
 show((mA,O,r,_,_,_)=x3m e,Ie u hu ru[S8.some_of (v:=v) (o:=mA f) (Bg l[r f])][xaD I.kIn O[c.get f] c.hd n hu[xhN ru][h u _ AK ru]])
def xfu {m:Str}{g:Qq}{pl:xF6}(I:Wp)(e:xh a C fs)(c:xBE)(k:x7f m g)(l:ybn m)
  (h:Q ((.ref g,F5)) s):WN[getMethod AO m pl] Q E s:=by
 show((mA,O,r,_,_,_)=x3m e,DC hn[Θ[mA m]][S8.none_of[Bg l[r m]]][xic I.kIn O[c.get m] k.at_ k.fn hn h])
def xhr {y:V}{u:Qr}{Q:rO Unit}(I:Wp)(e:xh a C fs)(c:xBE)(n:NoAttr X.K C f)(hl:ykJ)(ry:VL)
  (h:∀s',oa[mQ H a C[x0D y fs]] s'->xYG):WN[setAttr AO f u] Q E s:=by
 show((mA,O,r,wi,_,ho)=x3m e,SC hz (yeI (fs.map (·.1)))[zD M8[uJ[Jy hl]]][xcb I.kIn O c.sa c.po n.taker c.hd wi hz λ h' O' sb=>x8h])
 have hd:∃o,p6 dx o:=let(o,_,_,e',_):=O'.ns;xZA e';show ω[I.write ybN[.inr ho][λ b q hb z=>x6 sb b hb z] hd ?_] (Δ O.ne ho,?_,O.ne,O'.obj,_,O'.ns,Hy g,UF g hg)
 ·show HI[xl1 f y fs][IY this hl]
 ·show lP[S8[(x0D y fs).lookup g][xH6 g f u[mA g]]] ar;by_cases q:g=f
  ·show XV[Ju q][Ju q] ry
  ·show XV[Jk q][Jk q][r g]
 ·by_cases q:g=f
  ·show LT q (xrS f y fs).1
  ·refine(xrS f y fs).2 g[wi g[SZ[hg ?_]]];show Θ[EM[g=f][some u][mA g]];show Zz q z
def Inv.made (I:Wp):oa[qY[xw3 s.heap.objs.size Hl] Hl C s.heap.objs.size][mX xG3]:=by
 show(G9[VA xSy s.heap.objs.size emptyDict][JW s.heap rfl][VA xG3 Hl xUA][by
  have:=JW xSy (o:=xUA) rfl
  rwa [N4] at this],(e3:(xSy).Ns s.heap.objs.size xSZ)=zE emptyDict #[] _ e1[rV e he he Z6] QO,χ I1[I.laid (a:=s.heap.objs.size) (o:=.own Hl) (t':=s.toks) (λ b u q=>TM) ρ[EX e1]][I1.laid[λ b u q=>TM][IR[N4 _ _]] ?_],SC ne[s.heap.objs.size≠Hl][Kf QI] (xJ0 ne ad,B1,ne,e2,xSZ,(Heap.Ns1.of_empty e3).at λ o q=>TM,λ _=>True.intro,rV y hy rfl hy))
def xbD (hb:attributeBase e f env[eG e]=eG e)
  (h:nD[eG e][λ o s₁=>xFM[getAttr o f true] s₁] E s):uc[eG[xTY e pos]]:=
 Attribute_any_ h[by rw [arm_eval_Attribute,hb]]
universe s
inductive tFld_p (K:Frag) (f:Str) (Q:VK) (x:V) (H1:Hp):Prop
 |mk (a:_) (C:_) (dx:_) (fs:_) (v:_) (h0:x=AO) (h1:kF[H1 a] fs) (h2:Es) (h3:f9 f) (h4:xCA xTH) (h5:vQ v):tFld_p K f Q x H1
def xjJ (K:Frag)(ta:TE)(f:Str):TE:=λ σ H Q=>S7[tFld_p K f Q x H1]
inductive sFld_p (K:Frag) (f:Str) (D:Ends) (σ:St) (y:V) (x:V) (H2:Hp):Prop
 |mk (a:_) (C:_) (dx:_) (fs:_) (h0:x=AO) (h1:kF[H2 a] fs) (h2:Es) (h3:f9 f) (h4:ykJ) (h5:xSW[mQ H2 a C[x0D y fs]]):sFld_p K f D σ y x H2
def xev (K:Frag)(ta tv:TE)(f:Str):TS:=λ D σ H=>tv σ H[kI y[x0E H1[jh x[sFld_p K f D σ y x H2]]]]
section
variable {X:Cx}{o e value:QA}{f:Str}{pos pos' tpos:Pos}{ta tv:TE}
def xzc (he:AN e ta)(hb:xS9 e f xPD=xPD):AN[xTY e pos][xjJ X.K ta f]:=by
 intro QD s σ H Q I h;show(xbD hb xOk,(x,H1,I1,rx,a,C,dx,fs,v,ex,ea,c,n,l,q)=z9,WR[u=aI],xho I1 ea c n l λ u' s2 I2 ru=>(v,H1,I2,ru,q))
def xlV (ha:xDz)(hv:AN value tv)(hs:x3J value[some[xTY o pos']]=xUg):xL1 [xTY o pos'] value pos[xev X.K ta tv f]:=by
 intro QD s σ H D I h;show(plainObj_wpAny_Assign_Attribute[thn[hv QD s σ H _ I h] λ u s1 ⟨y,H1,I1,ry,q⟩=>Hv[x0U s1 H1 _ I1 q] ov s2] hs,(x,H2,I2,rx,a,C,dx,fs,ex,ea,c,n,l,q2)=z9,WR[ov=aI],xhr I2 ea c n l ry λ s3 I3=>xCo _ I3 q2)
universe s
section
variable {X:Cx}{QD:Κ}{σ:St}{H:Hp}{s:Qu}{A:Qy}{E:Ak}{Q:Ak}{c:Qr}{b:Bool}
inductive xsx (K:Frag) (H:Hp):V->oj where
 |non:RN .non[.type "NoneType"]
 |bl (x:Bool):RN[.bl x] yaz
 |int (i:Int):RN Dz x1x
 |str (x:Str):RN xBo[.type "str"]
 |flt (x:UInt64):RN[.flt x][.type "float"]
 |lst {a:Qq} {xs:Sy} (e:Υ=Fh):xO7 xK0
 |frz {a:Qq} {o:QB} {xs:Sy} (e:lD[.frz o xMh]):xO7 xK0
 |tup {a:Qq} {xs:Sy} (e:iO a):xO7 xKR
 |dK {a:Qq} {QN:HZ Key V} (e:lD dF):xO7 x1q
 |dT {a:Qq} {QN:xO4} (e:xYW):xO7 x1q
 |ins {a C dx:Qq} {fs:ug} (e:xh a C fs) (cl:Es) (ha:xEv "__class__"[some xvX])
   (hn:TD[specialIn K xvX "__get__"][some xSC]) (htk:iG[takesIn K xvX])
   (hm:iG[xBh C xTk]):xO7 C4
def xg7 {x:V}{u t:Qr}(I:Wp)(rx:rf)(ty:xsx X.K H x t)(e:SS[kitOne X.K t c])(h:∀tk,x4k b[x9i tk]):
  WN[xz8 "isinstance" [u,c]] Q E s:=by
 cases ty with
 |non=>show CR[BJ u Value.none rx][xTJ PySem.W.kitx_none e Ab h]
 |bl y=>show CR[BJ u[Value.bool y] rx][xTJ PySem.W.kitx_bool e Ab h]
 |int i=>show(Vl q[u=xFt i] rx,CR q[xTJ PySem.W.kitx_int e Ab h])
 |str y=>show(Vl q[u=xUl y] rx,CR q[xTJ PySem.W.kitx_str e Ab h])
 |flt y=>show(Vl q[u=ybR y] rx,CR q[xTJ PySem.W.kitx_float e Ab h])
 | @lst a xs ea=>
  show(Sx aI rx,ydE n h1[xwG[xU8 H a xMh] xYt][ykH[Xi h1] e Ab h])
 | @frz a ob xs ea=>
  show(Sx aI rx,(_,_,_,n,_,h1)=xwG[xU8 H a[.frz ob xMh]] xYt,ykH[Xi h1] e Ab h)
 | @tup a xs ea=>
  show(Sx aI rx,(_,_,_,p)=xwG[xU8 H a[.tup xs]] xYt,(o,h1,h2,_)=p,xKK PySem.W.kitx_tuple[kc h1 h2] e Ab h)
 | @dK a QN ea=>
  show(Sx aI rx,(_,_,vs,_,p)=xwG[xU8 H a dF] xYt,x75 es ep h1 h2 p,ykI[kc h1 zg] e Ab h)
 | @dT a QN ea=>
  show(Sx aI rx,(_,_,xs,_,o,es,ep,h1,h2,_)=xwG[xU8 H a Mg] xYt,ykI[kc h1 zg] e Ab h)
 | @ins a C dx fs ea cl ha hn htk hm=>
  show(Sx aI rx,(mA,O,_)=x3m ea,xK2 od J O.look[xKK[PySem.W.kitx_own[cl.get _] cl.hd ha hn htk hm] J e Ab h])
universe s
structure QJ (k:Nat)(A:Qy):Prop where
 hd:30≤k->ybb
 dp:yby[A.depth+3*k+5]
 un:xTI[16*k]+200<cLine
 gd:TD A.guards []
def QJ.mono (r:mr A)(h:j≤k):QJ j A:=(x4H[IY z h],by show(xUR,Bj [_,_,_,_][zx 3[xAQ[FJ 3] 5]][rz 3 Uf][xAQ xNX 5] Uf[IV 3 h] this),by show(xMb,Bj [_,_,_,_][zx 16[xHK[FJ 16]]][rz 16 Uf][xHK x5m] Uf[IV 16 h] this),r.gd)
theorem QJ.deeper (r:QJ[k+1] A)(env):xFq k env:=
 (x4H[KN z],by show xUR;show A.depth+1+3*k+5<_;show Ay [_,_,_][xAQ x8z 5] Uf[Ft[tG xNX] 5] Uf this,by show xMb;show xTI 3+16*k+200<_;show Ay [_,_,_][xHK[.m 16 Β]] Uf[Ft[.a IH x5m] 200] Uf this,r.gd)
theorem QJ.in1 (r:QJ[k+1] A):mr A.in1:=
 (x4H[KN z],by show xUR;show A.depth+3*k+5<_;show Ay [_,_,_][xAQ x8z 5] Uf[xAQ xNX 5] Uf this,by show xMb;show xTI 1+16*k+200<_;show Ay [_,_,_][xHK[.m 16 Β]] Uf[Ft[tG x5m] 200] Uf this,r.gd)
def xhb {A:Qy}:(xOg[C4::us]).depth=A.depth+1:=by
 first|rfl|simp [Around.under,Code.weight,Code.isCreation,Code.isGuard,Code.isCaller,Code.frames,Code.isFrame,guardIds]
def xgC {A:Qy}:(xOg[C4::us]).units=xTI 1:=by
 first|rfl|simp [Around.under,Code.cUnits,Code.frames,Code.isFrame]
def xfc {A:Qy}:(xOg[C4::us]).guards=A.guards:=by
 first|rfl|simp [Around.under,Code.guards,Code.isGuard,guardIds,pushGuards]
def QJ.make (r:QJ[k+1] A)(C)(us)(kw):mr[xOg[C4::us]]:=
 (x4H[KN z],by show(xUR,LT xhb[EZ[xAQ x8z 5] Uf[Ft[tG xNX] 5] Uf this]),by show(xMb,LT xgC[EZ[xHK[.m 16 Β]] Uf[Ft[tG x5m] 200] Uf this]),xfc.trans r.gd)
theorem QJ.depth (r:mr A):yby A.depth:=by show(xUR,tS [_,_,_][xAQ[XY 3] 5] SB this)
theorem QJ.units (r:mr A):xOf 64:=by show(xMb,tS [_,_,_][xHK[XY 16]] xM3 this)
def df:TA:=λ _ H Q=>Fc []
def xxv (ta:TE)(tr:TA):TA:=λ σ H Q=>S7[tr σ H1[jh xs[Q[x::xs] H2]]]
section
variable {X:Cx}{e:QA}{es:EB}{te:TE}{t:TA}{pos:Pos}
def xtm:Gu [] df:=λ _ _ _ _ H Q I h=>Calls.spliced_nil[yk [] I .nil h]
def aa (ha:TO)(hr:Gu es t)(hs:AJ[ml=yg::mz]):Gu xw[xxv te t]:=by
 intro pos QD s σ H Q I h;show([hs],oP[spliced[yg::xLn es]],Calls.spliced_cons[xIY u],DR x H1 I1 r1 q1 z9[thn[hr pos QD s1 σ H1 _ I1 q1] λ us s2 z9=>DR xs H2 I2 r2 q2 z9 (x::xs,H2,I2,.cons r1 r2,q2)])
inductive tTup_p (Q:VK) (xs:Sy) (H1:Hp):Prop
 |mk (h0:wx) (h1:∀p,UQ p->lR[Hf H1 p xs]):tTup_p Q xs H1
def xuU (t:TA):TE:=λ σ H Q=>ku xs[tTup_p Q xs H1]
inductive tLst_p (Q:VK) (xs:Sy) (H1:Hp):Prop
 |mk (h0:wx) (h1:∀p,UQ p->lR[Fj H1 p xs]):tLst_p Q xs H1
def nP (t:TA):TE:=λ σ H Q=>ku xs[tLst_p Q xs H1]
def cx {x1}(h:Gu es t):AN[x2K x1 pos][xuU t]:=by
 intro QD s σ H Q I hq;show(wpAny_Tuple_spliced[thn[h pos QD s σ H _ I hq][ykS s1[FQ[Bg r.length z]]]],SC hf ygz x0n[sP ygw[Hf H1 s1.heap.objs.size xs][ybU s1.toks[λ b u e=>qH] ρ ?_][Ww hf]],E3 z us r[jE _ BH _ rfl])
def aK (h:Gu es t):AN[.List es pos][nP t]:=by
 intro QD s σ H Q I hq;show(wpAny_List_spliced[thn[h pos QD s σ H _ I hq][ykS s1[FQ[Bg r.length z]]]],SC hf ygz x0n[sP ygw[Fj H1 s1.heap.objs.size xs][ybU s1.toks[λ b u e=>qH] ρ ?_][Ww hf]],xJ8 z us 0 r BH)
universe s
abbrev Sp:=Sy->Hp->VK->BY XK
abbrev CXT:=rk->Hp->Qu->XK->Ak
structure xzm (P:Qv)(w:Qw)(K:Frag)(mg:Ι)(base:Qz)(A:Qy)(outer:rk)(s:Qu)(H:Hp):Prop where
 frames:x2A outer
 mod:Mod K mg base
 bs:∀b o,Gr[base.get? b]->DA/\Hg
 bsz:base.objs.size≤s.heap.objs.size
 funs:x0C outer
 frf:E5 ycf Hg
 hok:xA5 H s.heap
 bare:yik
 qt:xo2 A H
def xjn (outer:rk)(P:Qv)(w:Qw)(H:Hp)(s:Qu)(Q:VK)(u:Qr)(s':Qu):Prop:=
 ∃v H',yfq/\xKG/\Un ycf [] H H' s.heap s'.heap/\xA5 H' s'.heap/\eh/\xJk
def xbm (CX:CXT)(outer:rk)(P:Qv)(w:Qw)(H:Hp)(s:Qu)(Q:VK)(E:XK)(r:Result)(s':Qu):Prop:=
 match r with
 | .ok[.ret u]=>yea P w H s Q u s'
 | .ok _=>False
 | .error e=>yeb H s E e s'
structure xxP (P:Qv)(w:Qw)(K:Frag)(mg:Ι)(base:Qz)(CX:CXT)(k:Nat)(f:Qq)(fd:Qx)(ps:CI)(sp:Sp):Prop where
 len:∀vs H Q E,qA->wu
 run:∀(A:Qy) (outer:rk) (s:Qu) (H:Hp) (args:Args) (us:Cb) (vs:Sy) (Q:VK) (E:XK),mr A->xQc K mg A s H->BindsTo s fd args xLx->xH4->qA->
  xAk[ye8 w] A HW args[xbm CX outer P w H s Q E] s
theorem xxP.mono {P:Qv}{K:Frag}(F:uM P w K CX j f fd ps sp)(h:j≤k):
  uM P w K CX k f fd ps sp:=(F.len,λ A outer s H args us vs Q E hr=>xUn A s H args us vs Q E[hr.mono h])
def xxP.imp {P:Qv}{K:Frag}(F:uM P w K CX k f fd ps sp)
  (h:∀vs H Q E,sp' vs H Q E->qA):uM P w K CX k f fd ps sp':=
 (λ vs H Q E q=>F.len vs H Q E[wF _ _ q],λ A outer s H args us vs Q E hr he hb hv hs=>xUn A s H args us vs Q E hr he hb hv[wF _ _ hs])
def xzm.make {K:Frag}(e:xQc K mg A s H)(C)(us)(kw):
  xQc K mg[xOg[C4::us]] s H:=(by first|exact e.frames|(simpa [Around.under,Code.envs,Code.isFrame,pushEnvs] using e.frames),e.mod,e.bs,e.bsz,e.funs,e.frf,e.hok,e.bare,e.qt)
theorem xzm.in1 {K:Frag}(e:xQc K mg A s H):
  xQc K mg A.in1 s H:=(e.frames,e.mod,e.bs,e.bsz,e.funs,e.frf,e.hok,e.bare,e.qt)
section
variable {X:Cx}{QD:Κ}{σ:St}{H:Hp}{s s':Qu}
def Inv.env0 (I:Wp):xzm X.prog X.w X.K X.mg X.base X.A X.stack s H:=
 (I.ok.frames,I.ok.mod,I.bs,x1R I.sz,I.stack,I.stkFree,I.hok,I.bare,I.qt)
def Inv.after {Q:VK}{u:Qr}(I:Wp)(h:xjn X.stack X.prog X.w H s Q u s'):oN u s':=by
 show(Fw v H' os bare un hok r q,(hh,g,d,t,os')=s',Hu[os'=s.os] os,xJ8 v H'[I.call (h':=hh) (g':=g) (d':=d) (t':=t) (ch:=[]) un hok bare[rV b z z Z6]] r q)
universe s
def xxo (sp:Sp)(SJ:Sy)(E:XK)(t:TA):TE:=λ σ H Q=>ku vs[sp[vs++SJ] H1 Q E]
inductive xlx (C:Qq) (m:Str) (sp:Sp) (SJ:Sy) (E:XK) (t:TA) (σ:St) (Q:VK) (x:V) (H1:Hp):Prop
 |mk (a:_) (dx:_) (fs:_) (h0:x=AO) (h1:kF[H1 a] fs) (h2:ybn m) (h3:xYx[jh vs[sp[x::(vs++SJ)] H2 Q E]]):xlx C m sp SJ E t σ Q x H1
def xfK (C:Qq)(m:Str)(sp:Sp)(SJ:Sy)(E:XK)(ta:TE)(t:TA):TE:=λ σ H Q=>S7[xlx C m sp SJ E t σ Q x H1]
def xjO (C:Qq)(sp:Sp)(SJ:Sy)(E:XK)(t:TA):TE:=λ σ H Q=>ku vs[∀x dx,UQ x->UQ dx->dx≠x->
 sp[E4::(vs++SJ)][mQ[xBc H1 dx x] x C []][jh v[SE v/\Q E4 H2]] E]
def Binds (K:Frag)(fd:Qx)(ps:CI)(ds:Cb):Prop:=
 ∀s us,o8->xET[DV us ds]->xIC s us[ps.zip[us++ds]]
def Binds.all {K:Frag}{fd:Qx}(h:∀us:Cb,xET us.length->yeL fd us=pure xLx):vc:=λ s us _ hl=>xwA JM hl[.of_eq[h us hl]]
def xyw (CX:CXT)(X:Cx)(E:XK):Prop:=∀(QD:Κ) (σ:St) (H:Hp) s e s',Wp->CX X.stack H s E e s'->X.xe e s'
section
variable {X:Cx}{CX:CXT}{k:Nat}{f C:Qq}{fd:Qx}{ps:CI}{sp:Sp}{SJ:Sy}{ds:Cb}{E:XK}{x m:Str}{p pos apos:Pos}{e o:QA}{es:EB}{ta:TE}{t:TA}
def xl8 {QD:Κ}{σ:St}{H:Hp}{s:Qu}{Q:VK}{us:Cb}(F:Uq)(hr:oq)(hb:jO)(hd:jS)(hx:xD3)
  (I:Wp) (r:xH4) (h:sp[vs++SJ] H Q E):Ds[xTF us]:=by
 show A3 r2[Vals[vs++SJ][us++ds]] ybk hl[xET[DV us ds]][Bg r2.length[x4m _ _ _ h]][OJ[Oc[x1L X.A s H[sG us][us++ds][vs++SJ] Q E hr I.env0[hb s us I.kIn hl] r2 h][xEr r hq]]];cases r with
 |error e=>exact hx QD σ H s e s' I hq
 |ok fl=>
  cases fl with
  |ret u=>exact I.after hq
  |next=>show S5
  |brk=>show S5
  |cont=>show S5
def xxw (F:Uq)(hr:oq)(hg:uj)(hm:yF=kZ)(hk:xv2 X.K HW)(hb:jO)(hd:jS)(hx:xD3)
  (ha:wO) (Xa:t8) (he:AJ[ml=yg::mz]) (Rv:vH):
  dj x p xw[xxo sp SJ E t]:=by
 intro QD s σ H Q I h;show WC xPJ[M4 (h₀:=X.base) I.ok.mod.kin hk[xWR[x98 s1 ydl]] he Rv][xl8 F hr hb hd hx I1 r q]
def xnJ (F:Uq)(hr:oq)(hg:uj)(hm:yF=kZ)(hk:xv2 X.K HW)(hb:jO)(hd:jS)(hx:xD3)
  (Xa:t8):dj x p [][xxo sp SJ E df]:=by
 intro QD s σ H Q I h;show HU xPJ[yec hk[xVU [] F hr hb hd hx I .nil h]]
def xxi {pl:xF6}(he:xDz)(c:xBE)(hm:x7f m f)(F:Uq)(hr:oq)(hb:jO)(hd:jS)(hx:xD3)(ha:wO)
    (RQ:AJ[ml=yg::mz]) (Rv:vH)
    (ht:AJ[xE xC3=(do
      let ov<-jn
      xER
      let((f,first))<-xE0 xJb ov m pl
      xJI x5X)]):
    AN xC3[xQt m sp SJ E ta t]:=by
  intro QD s σ H Q I h
  show(x46 pl xOk ht,(x,H1,I1,rx,a,dx,fs,ex,ea,l,q)=z9,WR[u=aI],WC[xZg c hm l ?_][M4 (first:=F5) (h₀:=X.base) I.ok.mod.kin hm.kp[thn[x1k s1 H1 _ I1 q][x90 s2 ydk]] RQ Rv][xVU[AO::us] (vs:=AO::vs) F hr hb hd hx I2[x2T r] q2])
def xtR {pl:xF6}(he:xDz)(c:xBE)(hm:x7f m f)(F:Uq)(hr:oq)(hb:jO)(hd:jS)(hx:xD3)
    (ht:AJ[xE xOe=(do
      let ov<-jn
      xER
      let((f,first))<-xE0 xJb ov m pl
      xJI xW0)]):
    AN xOe[xQt m sp SJ E ta df]:=by
  intro QD s σ H Q I h
  show(x46 pl xOk ht,(x,H1,I1,rx,a,dx,fs,ex,ea,l,q)=z9,WR[u=aI],HU[xZg c hm l ?_][Nv (first:=F5) I1.kIn hm.kp[xVU F5 (vs:=F5) F hr hb hd hx I1[lp rfl] q]])
structure xuI (K:Frag)(C f:Qq):Prop where
 makes:xFC K C
 init:xFr K C4 kZ
 fn:xSj
 kp:xv2 K C4
def xnG {QD:Κ}{σ:St}{H:Hp}{s:Qu}{Q:VK}{us:Cb}(M:xuI X.K C f)(F:Uq)(hr:xE6[k+1])(hb:jO)(hd:jS)
  (hx:xD3) (I:Wp) (r:xH4)
  (h:∀x dx,B7 x->B7 dx->dx≠x->sp[E4::(vs++SJ)][mQ[xw3 dx x] x C []][jh v[SE v/\Q E4 H2]] E):
  Ds[call C4 us]:=by
 show(Tl hq[yi4 Hl yhR Am[Kf QI]] I2[Inv.made (C:=C) I],A3 r2[Vals[V.ref Hl::(vs++SJ)][xKv Hl[us++ds]]][x2T ybk] hl[xET[DV[xKv Hl us] ds]][by
  show(Y7 r2.length,Ε[x4m _ _ _ hq] e e.symm)][OJ[xa3 I.kIn M.makes M.init[Kb.mp M.fn][Oc[x1L _ _ _[sG[xKv Hl us]][xKv Hl[us++ds]] _ _ E[hr.make C us []][I2.env0.make C us []][xCr[xKv Hl us] I2.kIn hl] r2 hq][xEr r hq']]]])
 cases r with
 |error e=>exact hx QD σ _ _ e s' I2 hq'
 |ok fl=>
  cases fl with
  |ret u=>
   show((v,H',I3,rv,ev,q3)=I2.after hq',YI ev rv[sP[V.ref Hl] H' I3 q3])
  |next=>show XZ hq'
  |brk=>show XZ hq'
  |cont=>show XZ hq'
def xxg (M:xuI X.K C f)(F:Uq)(hr:xE6[k+1])(hg:uj)(hm:yF=zl)(hb:jO)(hd:jS)(hx:xD3)
  (ha:wO) (Xa:t8) (he:AJ[ml=yg::mz]) (Rv:vH):
  dj x p xw[xjO C sp SJ E t]:=by
 intro QD s σ H Q I h;show WC xPJ[M4 (h₀:=X.base) I.ok.mod.kin M.kp[xWR[x98 s1 ydl]] he Rv][xnG M F hr hb hd hx I1 r q]
def xlK (M:xuI X.K C f)(F:Uq)(hr:xE6[k+1])(hg:uj)(hm:yF=zl)(hb:jO)(hd:jS)(hx:xD3)
  (Xa:t8):dj x p [][xjO C sp SJ E df]:=by
 intro QD s σ H Q I h;show HU xPJ[yec M.kp[xnG (us:=[]) M F hr hb hd hx I .nil h]]
universe s
section
variable {X:Cx}{CX:CXT}{k:Nat}{f C:Qq}{fd:Qx}{ps ks:CI}{sp:Sp}{E:XK}{x m:Str}{p pos apos kpos:Pos}{e o:QA}{es:EB}{kws:xTC}{te ta:TE}{t tk:TA}{nm:Option Str}
variable {g:Cb -> Cb -> Cb}{gV:Sy -> Sy -> Sy}
universe s
structure xyi (N P:CI)(sc:Scope):Prop where
 kind:x9l sc.kind
 co:AG sc.isCoroutine
 gen:AG sc.isGenerator
 nd:N.Nodup
 pre:yh0=P
 par:Ic P[xSI x .local\/x5w x]
 nofree:Ee sc.names[x16 y.2]
def scB (N P:CI)(c:Scope):Bool:=CG c.kind .function&& ! c.isCoroutine&& ! c.isGenerator&&decide N.Nodup&&CG yh0 P&&P.all[λ x=>decide[TD yhE .local\/x58 yhE]]&&c.names.all λ y=>decide[x16 y.2]
def xen {N P:CI}{c:Scope}(h:Ty[scB N P c]):xyi N P c:=by
 simp only [scB,MW,decide_eq_true_eq,PV,Qa] at h;show(((((((a,b),d),e),f),g),i)=h,(a,b,d,e,f,g,i))
theorem xnh {kindOf:Str->x06}:cj binds m[EN v[((x,v))∉binds]][x1z binds m x=m x]
 | [],_,_=>rfl
 |((n,v))::r,m,h=>by
  show Fq bindL[xnh λ w hw=>lS w hw]
  split
  ·have:x≠n:=by show(EJ,yT v)
   show yed
  ·rfl
theorem xnT {kindOf:Str->x06}:cj binds m[EN v[((x,v))∉binds]][x1A binds m x=m x]
 | [],_,_=>rfl
 |((n,v))::r,m,h=>by
  show Fq bindC[xnT λ w hw=>lS w hw]
  split
  ·rfl
  ·have:x≠n:=by show(EJ,yT v)
   show yed
theorem xnN {kindOf:Str->x06}:∀{P:CI} {vs} {i:Nat} {m},P.Nodup->zv P->AD vs v->TD[kindOf x] .local->
  xCA[x1z xL7 m x]
 | [],_,_,_,_,h,_,_=>E2
 |_::_,[],_,_,_,_,h,_=>E2
 |p::P,w::vs,0,m,nd,h1,h2,hk=>by
  simp at h1 h2;subst h1;show xNN;show x1z[((p,w))::xL7] m p=_;unfold bindL;show nQ[xnh λ v hv=>x2v.1 (Oq hv).1][Ju hk]
 |p::P,w::vs,i+1,m,nd,h1,h2,hk=>by
  show x1z[((p,w))::xL7] m x=_;unfold bindL;exact xnN x2v.2 Uu x12 hk
theorem xnV {kindOf:Str->x06}:∀{P:CI} {vs} {i:Nat} {m},P.Nodup->zv P->AD vs v->jT[kindOf x] .local->
  xCA[x1A xL7 m x]
 | [],_,_,_,_,h,_,_=>E2
 |_::_,[],_,_,_,_,h,_=>E2
 |p::P,w::vs,0,m,nd,h1,h2,hk=>by
  simp at h1 h2;subst h1;show xNN;show x1A[((p,w))::xL7] m p=_;unfold bindC;show nQ[xnT λ v hv=>x2v.1 (Oq hv).1][Jk hk]
 |p::P,w::vs,i+1,m,nd,h1,h2,hk=>by
  show x1A[((p,w))::xL7] m x=_;unfold bindC;exact xnV x2v.2 Uu x12 hk
def start (N:CI) (vs:Sy):St:=vs.map some++yiH[N.length-vs.length]
def cxOf (CX:CXT) (P:Qv) (w:Qw) (K:Frag) (mg:Ι) (base:Qz) (N:CI) (qual:Str) (scope:Scope) (f:Qq) (cd:Qr) (A:Qy) (outer:rk) (s:Qu) (H:Hp) (E:XK):Cx where
 prog:=P
 w:=w
 K:=K
 mg:=mg
 base:=base
 A:=ykQ
 N:=N
 s₀:=s
 H₀:=H
 env:=xPG
 outer:=outer
 stack:=xPG::outer
 ex:=[]
 calm:=true
 fn:=RB
 pn:=[]
 xe:=λ e s'=>xvT P w ykQ[leaving xPG e][λ _ Uh=>yeb H s E e Uh][λ e' Uh=>yeb H s E e' Uh] s'
def xn7 {sc:Scope}(h:x5w x):∃c,TD[(cellsFrom n sc.names []).lookup x] c:=aH q[OE sc.names n [] x4b][Option.isSome_iff_exists.mp q]
def xnj {CX:CXT}{K:Frag}
  (S:xyi N ps scope) (e0:xQc K mg A s H) (hl:wu) (r:xH4)
  (x:InCallC s s.heap.objs.size[bindL (xPG).kindOf xLx xSZ][x9E Hl []][bindC (xPG).kindOf xLx xSZ] s1):
  xBV[ur CX P w K mg N f cd A outer s H E] xLE H s1:=by
 show(xwM Rv[ps.length≤N.length][x3[vC S.pre] Jc[uW [_,_,_] EH DG x8 Fb]] h1 tk rfl hk x.done,SC noA[∀b,b∉(ur CX P w K mg N f cd A outer s H E).ex][rV b z[Dx b ([]:AH) z] Z6] ((e0.mod,S.kind,rfl,rfl,ρ,λ y z c h1 h2=>?_,UF y hy,λ y c _ h=>?_,e0.qt,yfW,fV,rV b z z xNm,e0.bs,e0.bsz,λ b _ _=>xNm,rV b z z xNm,e0.funs,e0.frf),
  rfl,e0.bare,ycg,CS x.toInCall.ns[λ i y v h1 h2 h3=>?_],λ y c h=>EX[x.cell y c h],e0.hok.fresh ρ,Μ y c h,rV p hp[Dx p ([]:Κ) hp] Z6,e0.hok.kept hk,?_))
 ·exact name_of_addr x.apart[KF h1][KF h2]
 ·have hy:x5n y\/xSu y .free:=hy;rcases hy with hy|hy
  ·exact xn7 hy
  ·show xIB[S.nofree _[KF hy]]
 ·exact Jy[x.above y c[KF h]]
 ·show(Sc hi[i<vs.length][by
   show xMR start;by_cases hi:i<vs.length
   ·exact hi
   ·rw [Jz ych] at h2;rw [MF] at h2
    split at h2<;>cases h2] ha[AD vs v][by
   show xMR start;rw [JP ych,Jw] at h2;cases e:vs[i]? with
   |none=>show tO h2 h2
   |some a=>show tO h2 h2;rfl],xFT hu rv[r.get ha],A3 hp[AD ps y][xw8 S.pre[List.getElem?_take_of_lt[Jq hi hl]] h1] ndP ps.Nodup[Bg S.pre[S.nd.sublist xQu]][Cm u rv]);rcases S.par y[J7 hp] with k|k
  ·show DZ (k,xnN ndP hp hu k)
  ·show(sL c e[xn7 k][ja[.inl k] c e ?_],YC[x.cell y c e],Ε[xnV ndP hp hu[by show scope.names.lookup y≠_;show Hd k]] q q)
 ·exact e0.hok.fresh[Jy[x.above y c[KF h]]]
 ·unfold start;show _=N.length;show(mE IS JQ,Em Ω Uf WF Uf[NL.J'[uW [_,_,_] EH DG yq Rv]][EZ Uf Ω Uf WF W1])
def xf0 {P:Qv}{w:Qw}{K:Frag}{f:Qq}{dV kV doc pm QE ct oc:Qr}
    (lk:xZ2[x4Q dV kV doc pm an QE ct]) (Ue:xZS QE) (S:xyi N ps scope)
  (len:∀vs H Q E,qA->wu)
  (Vh:∀(A:Qy) (outer:rk) (s:Qu) (H:Hp) (vs:Sy) (Q:VK) (E:XK),xFq k[xK5 scope f QE]->qA->
   X6[xGv[ur CX P w K mg N f QE A outer s H E] t/\xEo]):
  uM P w K CX[k+1] f[x4Q dV kV doc pm an QE ct] ps sp:=by
 show(ZU len[λ A outer s H args us vs Q E hr e0 hb r Vd=>?_],DF hl[len _ _ _ _ Vd] KX o8[e0.mod.kin.keeps λ b o e=>(x4n o e).1] lim s.heap.NoLimit[e0.mod.nolimit.keeps λ b o e=>(x4n o e).1],(SQ:Ee xLx[x0R Vx\/(x5n Vx/\FY[(x9E Hl []).lookup Vx])])=λ⟨n,v⟩ hy=>by
  rcases S.par n (Oq hy).1 with q|q
  ·show DZ q
  ·show DM[xPO[OE _ _ _[.inl q]]],ω[yfX[KX _ _ lk] rfl S.co S.gen rfl[yi5 Ue][xCr _ _ _ ?_]][yfR SQ λ env he s1 x=>?_])
 subst he;show(XX (ygg,yh1) t ht hq[Vh A outer s H vs Q E[hr.deeper _] Vd],SC I[xBV[ur CX P w K mg N f QE A outer s H E] xLE H s1][xnj S e0 hl r x][KR[ht [] s1 xLE H _ I hq][xEr fl hs] λ e s' hs=>hs],(fin:∀{σ'} {H'} {v} {u},xBV[ur CX P w K mg N f QE A outer s H E] σ' H' s'->eh->xJk->yea P w H s Q u s')=λ {σ' H' v u} J rv q=>(v,H',J.os,J.bare,J.base,J.hok,rv,q))
 cases fl with
 |ret u=>
  show((v,σ',H',J,rv,q)=hs,fin J rv q)
 |next=>
  show C5 σ' H' J q hs[fin (v:=V.non) J rfl q]
 |brk=>
  show(x0N q,XZ q)
 |cont=>
  show(x0N q,XZ q)
section
variable {X:Cx}{x:Str}{p pos:Pos}{e:QA}{es:EB}{t:TA}{id T:String}{r:Rz}
def tCB (r:Rz)(t:TA):TE:=λ σ H Q=>ku vs[r vs H1 Q]
def xrx (hc:cS X id r)(hg:uj)(hm:Θ yF)(hv:xKJ x yfT)(ha:wO)(hn:sh xPF)(Xa:t8)
  (he:AJ[ml=yg::mz]) (Rv:vH):dj x p xw[tCB r t]:=by
 intro QD s σ H Q I h;show HU[Lk[xRO hv ?_ hn Xa]][PyProof.Rows.callWith_builtin1[xWR λ us s1 z9=>DR vs H1 I1 r1 q1 z9[xRL s1 H1 vs us Q I1 r1 q1]] he Rv]
def xeI (hc:xyv X x27 r)(hg:uj)(hm:Θ yF)(hv:xKJ x x27)(ha:wO)(hn:sh xPF)(Xa:t8)
  (he:AJ[ml=yg::mz]) (Rv:vH):dj x p xw[tCB r t]:=by
 intro QD s σ H Q I h;show HU[Lk[xRO hv ?_ hn Xa]][L9[xWR λ us s1 z9=>DR vs H1 I1 r1 q1 z9[xRL s1 H1 vs us Q I1 r1 q1]] he Rv]
universe s
universe L2
namespace HT
open PySem PyProof.Rows
section
open PySem.SeqAt
open PySem.AutoSeq1 (wpAny_loadPart')
open PySem.MeetsSeq PySem.MeetsSeq2 PySem.MeetsSeq3
universe s
section
variable {prog:Qv}{w:Qw}{A:Qy}{E:Ak}{s:Qu}
def sIx (n d:Nat):Rp UB
 |none=>d
 |some v=>if v<0 then UH v BU else ybQ
def xu1 (n d:Nat):vt d none=d:=rfl
def RG (n d k:Nat):vt d[some xu]=xHw k:=by
 show EM[xu<0][UH xu BU][xHw (xu).toNat]=xHw k;show Wf Z5 JH
def Fk (n d:Nat)(hd:YJ d)(o:UB):YJ[vt d o]:=by
 cases o with
 |none=>exact hd
 |some v=>
  show YJ[EM[v<0][UH v BU] ybQ];by_cases hv:v<0
  ·show w6 hv;omega
  ·show Zz hv Fb
def xqk (v:Int)(n d:Nat):EM[v<0][max[v+BU] 0][min v BU]=ST[vt d Ha]:=by
 show EM[v<0][max[v+BU] 0][min v BU]=ST[EM[v<0][UH v BU] ybQ];by_cases hv:v<0
 ·simp only [Ju hv];exact(Int.ofNat_toNat _).symm
 ·simp only [Jk hv];show(Ik k[Oh[yaE hv]],[JH],II[Qg k n])
  ·rw [J9 z,Qh[Bf z]]
  ·rw [LN z,yhp z]
def xhi (lo hi:UB)(n:Nat):yf2 hi 1 BU=((ST[vt 0 lo],ST[vt n hi])):=by
 have h1:¬(Il<0):=Z4;unfold Builtin.Slice.sliceAdjust;simp only [h1,Og];refine Prod.ext ?_ ?_
 ·cases lo with
  |none=>rfl
  |some v=>exact xqk v n 0
 ·cases hi with
  |none=>rfl
  |some v=>exact xqk v n n
def xhs (i j:Nat):x9t xJ xIx=j-i:=by
 unfold Builtin.Slice.slicePlaces;show((h1:Il>0)=(xn[xI [] Fp AM]),yci h1 Int.ediv_one)
 split<;>omega
def xnv {v:Qr}{o:UB}{Q:rO UB}(p:IsPart v o)(h:Q o s):uc[Builtin.Slice.slicePartIndex v]:=by
 cases p with
 |none=>exact slicePart_none h
 |int i t=>exact slicePart_int h
def xlD {sl:Qq}{vl vu:Qr}{lo hi:UB}{n:Nat}{Q:rO[Int×Int×Nat]}(hs:x0F vl vu .none)(pl:x2L lo)(pu:x2M hi)
  (h:Q ((ST[vt 0 lo],1,vt n hi-vt 0 lo)) s):uc[Builtin.Slice.sliceApplied x1u[pure BU]]:=by
 obtain⟨os,hos,Yi,hds⟩:=id hs;unfold Builtin.Slice.sliceApplied Builtin.Slice.sliceFields;show(qc[IX[KJ hos hds (x:=vl) rfl[IX[KJ hos hds (x:=vu) rfl[IX[KJ hos hds (x:=.none) rfl yG]]]]]][slicePart_none ?_],xEu[Il==0] _ _,mw[Jk Z9][xnv pl[IX[xnv pu[IX yG]]]],oP[match yf2 hi 1 BU with|((lo,hi))=>pure ((lo,Il,x9t lo hi))],[xhi lo hi n],oP[pure ((ST[vt 0 lo],Il,x9t[ST[vt 0 lo]][ST[vt n hi]]))],LT xhs[Jr h])
def xai (xs:Hb)(i k:Nat):((List.range k).filterMap λ(m:Nat)=>xs[UH xJ[xt*1]]?).toArray=(x8s).toArray:=by
 show(C7[(λ(m:Nat)=>xs[UH xJ[xt*1]]?)=λ m=>xs[i+m]?][by
  funext m;show xI8[UH xJ[xt*1]=i+m] Z4],xCQ,cX[pick_run xs i k] List.filterMap_map,Wv[((λ x=>xs[x]?)∘λ x=>i+x)=λ m=>xs[i+m]?] rfl,xSE e2,[this])
def xek {t sl:Qq}{items:Hb}{vl vu:Qr}{lo hi:UB}{Q:Ak}(ht:x5Z t)(hs:x0F vl vu .none)(pl:x2L lo)(pu:x2M hi)
  (hw:¬(aF=0/\yfm jU))
  (h:Q qx[mX[xSw "tuple"[xAf[x9o aF[jU-aF]]]]])
  (hsz:xF items.size):uc[yeR Z1]:=by
 show(Sc Y4[sizeOk[xAf[x9o aF[jU-aF]]]][by
  show xF (x9o aF[jU-aF]).toArray.size;show([Jj,Jc,Je,KD],DE [_,_,_,_] gs xV5 Re SL hsz Fb fj)] hj[jU≤items.size][Fk _ _ ρ hi],Zl os hos Yi hds[id hs] hTs[s.TypeIs x1u "slice"] (os,hos,Yi));unfold getItem
 try with_reducible refine x76
 first|show Gp yG|skip
 show(qc[yf6 Z9 ?_][Lz (name:=yga) ht.typeIs KY
  (yjX KY ht.typeIs ?_[ygF _])],oP[yfY>>= _],qc[yhF ?_][yhG ?_],iS Z9[xlD hs pl pu ?_],(hno:¬(IC[xYA==0&&Il==1&&x2w[jU-aF]]))=by
  intro q;rw [MW,MW] at q;show(Sc q1[xYA=0][eq_of_beq DO.1] q2[yfm[jU-aF]][eq_of_beq GZ],hw (xRp[qG Hc Hc[IR[pU q1]]],yd[xRN hj][CM [_,_,_] Φ HM SL Re[IR q2.symm] fj])),xEu[xYA==0&&Il==1&&x2w[jU-aF]] _ _,Wf hno xai)
 first
  |exact xZM x0u[MO x6x Y4]
  |exact xZM x0u[MO[xHp x6x] Y4]
  |exact IX[xZM x0u[MO[Jr x6x] Y4]]
  |exact IX[xZM x0u[MO x6x Y4]]
universe s
universe HT
namespace L2
open PySem PySem.Spec PyProof.Rows
abbrev xy3:=St->xI2[UT UB]
def xuG (X:Cx)(e:Option QA)(t:xy3):Prop:=
 ∀(QD:Κ) (s:Qu) (σ:St) H Q,Wp->xJv->
  zw[evalPart e X.env][λ u s'=>∃o H',mn/\IsPart u o/\oA o]
def xyb:xy3:=λ _ H Q=>Fc none
inductive xmt (Q:UT UB) (x:V) (H1:Hp):Prop
 |mk (i:_) (h0:x=Dz) (h1:Q[some i] H1):xmt Q x H1
def xx0 (t:TE):xy3:=λ σ H Q=>ku x[xmt Q x H1]
def xro:∀{us},pT Aq->IntsAre us ns:=by
 induction ns with
 |nil=>intro us r;show(AQ PH r r,yx)
 |cons n ns ih=>
  intro us r;rw [KH] at r;cases r with
  |cons r1 r2=>
   show((t,e)=r1,yA[.cons n t[ih r2]])
section
variable {X:Cx}{e:QA}{te:TE}{lo hi:Option QA}{tl th:xy3}{pos p2:Pos}
def xtj:xuG X none xyb:=by
 intro QD s σ H Q I h;show LT evalPart_none[Jr[yk none I .none h]]
def xxx (h:TO):xuG X[some e][xx0 te]:=by
 intro QD s σ H Q I hw;show(Γ evalPart_some[V7[xSp _ I hw] u],xKc x H1 I1 r1 q1,XG i q q1,xzS t r1 (some i,H1,I1,j7,q))
def SlR (X:Cx)(r:V->UB->xZc):Prop:=
 ∀(QD:Κ) (s:Qu) (σ:St) (H:Hp) x v vl vu lo hi sl Q,Wp->wQ->x0F vl vu .none->x2L lo->x2M hi->lJ lo hi H Q->
  ∃T id,ygL x27=pure[xTf id]/\s.TypeIs v T/\Ds[yeR v]
def SlR.or {r r':V->UB->xZc}(h:xB1 r)(h':xB1 r'):xB1[λ x lo hi H Q=>lJ lo hi H Q\/r' x lo hi H Q]:=by
 intro QD s σ H x v vl vu lo hi sl Q I rx hs pl pu q;rcases q with q|q
 ·exact xSp x v vl vu lo hi sl Q I rx hs pl pu q
 ·exact h' QD s σ H x v vl vu lo hi sl Q I rx hs pl pu q
def tSl (r:V->UB->xZc)(te:TE)(tl th:xy3):TE:=λ σ H Q=>ZJ[kI x[tl σ H1[jh l[th σ H2 λ u H3=>lJ l u H3 Q]]]]
def xzb {r:V->UB->xZc}(hr:xB1 r)(he:TO)(hl:xuG X lo tl)(hu:xuG X hi th):AN[xE8 e[.Slice lo hi none p2]][tSl r te tl th]:=by
 intro QD s σ H Q I h;show(kA[Subscript_[V7 xHl v]] x H1 I1 r1 q1,kA[wpAny_Slice[thn[hl QD s1 σ H1 _ I1 q1] λ vl s2 ⟨l,H2,I2,pl,q2⟩=>Hv[hu QD s2 σ H2 _ I2 q2] vu s3]] u H3 I3 pu q3,Γ evalPart_none yG,(I4:oa H3[x9H s3[yeN #[vl,vu,.none]]])=I3.kept (t':=s3.toks) λ b ob q=>TM,(T,id,hT,ht,hg)=hr QD[x9H s3[yeN #[vl,vu,.none]]] σ H3 x v vl vu l u s3.heap.objs.size Q I4 r1[Heap.IsSliceOf.new ..] pl pu q3,dC[sS[subscriptTail e[.Slice lo hi none p2] v[.ref s3.heap.objs.size]] oN[x9H s3[yeN #[vl,vu,.none]]]][tail_any ht hT hg[by with_unfolding_all rfl]])
def cutV (xs:Sy)(lo hi:UB):Sy:=Ew[xs.drop xCZ] xW9 xCZ
def xl3 (xs:Sy)(lo hi):EI[xVy lo hi] xs.length:=by
 show(xwF,XV Jc Je[xMJ fj])
inductive rSlT (K:Frag) (x:V) (lo:UB) (hi:UB) (H:Hp) (Q:VK):Prop
 |mk (a:_) (xs:_) (h0:x=AO) (h1:xDM) (h2:¬(xCZ=0/\x0L xW9)) (h3:∀p,Vu->lR[Hf H p[xVy lo hi]]):rSlT K x lo hi H Q
def xcg:xB1[rSlT X.K]:=by
 intro QD s σ H x v vl vu lo hi sl Q I rx hs pl pu h;show(vP a xs hx hw q,Z2,aV r ht hz hx,(hlen:yjJ)=LT Jj r.length.symm,ω[TX "tuple" _ KY.lookup ht.typeIs][HT.xek ht hs pl pu[xZu hw] ?_[xZu hz]],Γ hlen[ya qx[I.laid (t':=s.toks) (o:=.tup[xVy lo hi]) (λ b ob q=>TM) ρ ?_][Ww Am]],E3[IY[xl3 xs lo hi] hz] _[Ew[r.drop xCZ] xW9 xCZ][IsTup.new _ _])
universe s
def ixN (n:Nat) (i:Int):sQ:=if IA 0 then EM[i<n][some i.toNat] none else x8H[IA[-BU]][UH i n]
def atI {α:Type} (xs:EW) (i:Int):Option α:=(xTt i).bind[λ j=>xs[j]?]
def xpy {n:Nat}(h:TD[ixN n i] j):TD[seqIndex? i n] j/\j<n/\IA[-BU]/\i<n:=by
 show XO ixN;by_cases h0:IA 0
 ·show HG[Ju h0];by_cases h1:i<n
  ·show(HG[Ju h1],C7[i.toNat=j][JA h],E3[by rw [yal h1,e]] Z5 Z5 h1)
  ·show AQ Ru h h
 ·show HG[Jk h0];by_cases h1:IA[-BU]
  ·show(HG[Ju h1],C7[UH i n=j][JA h],E3[by rw [yaf h0 h1,e]] Z5 h1 Z5)
  ·show AQ Ru h h
def xqg {α:Type}{xs:EW}{v:α}(h:xNE xs i):∃j,TD[seqIndex? i xs.length] j/\u9 xs v/\xQf/\IA[-A6 xs.length]/\rQ:=by
 show XO atI;cases e:xTt i with
 |none=>show tO h h
 |some j=>
  show(HG e,C5 h1 h2 h3 h4[xpy e] (j,h1,h,h2,h3,h4))
def aA {j:Nat}{v:α}(h:u9 xs v):xNE xs xIx:=by
 show(Sc hj xQf[ZZ h] e[TD[xTt xIx] j][by
  unfold ixN;show nQ x7m[ydI hj]],Bz atI e h)
def xhP {α:Type}(xs:EW)(v:α):xNE[xs++[v]][-1]:=by
 show(Sc hl[DV xs [v]=xUr 1] Z6 e[TD[ixN[DV xs [v]][-1]] xs.length][by
  show Up ixN hl[Jk Z9][Ju Z4];congr 1;omega],Fq atI e);show Cs[xs++[v]] xs.length v;simp
def wE (b:QA):Prop:=∀o i,x00 b o i=ycj [o,i] o i
def IxR (X:Cx)(r:R2):Prop:=
 ∀(value slice:QA) (QD:Κ) (s:Qu) (σ:St) H x y v u Q,Wp->wQ->VL->lJ y H Q->
  x00 slice v u=ycj [v,u] v u->Ds[subscriptTail value slice v u]
def MtR (X:Cx)(id:String)(r:V->Rz):Prop:=
 ∀(QD:Κ) (s:Qu) (σ:St) (H:Hp) x xs v us Q,Wp->wQ->vX->lJ xs H Q->
  Ds[xz8 id[v::us]]
section
variable {X:Cx}{a b:QA}{ta tb:TE}{pos:Pos}
def xxy {r:R2}(hr:xXN r)(ha:oo)(hb:Um)(hs:wE b):AN[xE8 a b][xXL ta tb]:=by
 intro QD s σ H Q I h;exact Subscript_[yeU hb I h λ v u s2 x y H2 I2 rx ry q=>hr a b QD s2 σ H2 x y v u Q I2 rx ry q[hs _ _]]
inductive xsH (K:Frag) (x:V) (y:V) (H:Hp) (Q:VK):Prop
 |mk (p:_) (xs:_) (i:_) (v:_) (h0:x=FR) (h1:y=Dz) (h2:vB p xs) (h3:xNE xs i) (h4:Fc v):xsH K x y H Q
inductive rIxT (K:Frag) (x:V) (y:V) (H:Hp) (Q:VK):Prop
 |mk (p:_) (xs:_) (i:_) (v:_) (h0:x=FR) (h1:y=Dz) (h2:w4 p xs) (h3:xNE xs i) (h4:Fc v):rIxT K x y H Q
def xto:xXN[xsH X.K]:=by
 intro value slice QD s σ H x y v u Q I rx ry h hs;show((p,xs,i,z,rfl,rfl,hq,he,q)=h,Z2,gC ry,xEk r,(j,h1,h2,h3,h4,h5)=xqg he,(w,ew,rw')=r.get h2,Tl hl r.length hn xsW,(fin:oN w s)=yk z I rw' q);by_cases h0:IA 0
 ·show DC hj[i.toNat=j][Ε[yal h5] h1[JA h1]][item_listR pl.isList h0 Z5[by show([hj],yck)] fin hs]
 ·show DC hj[UH i ygU=j][by
   show(xXs[yaf h0 h4],EK Jj hl[JA h1])][subscriptTail_builtinR pl.isList.typeIs slot_list_getitem.lookup
   (wpAny_getItem_list_neg pl.isList[N8 h0][by rw [Jj]<;>exact Lw[congrArg Neg.neg[congrArg Nat.cast hl.symm]] h4] Z5[by show([hj],yck)][ZV fin]) hs]
def xlN:xXN[rIxT X.K]:=by
 intro value slice QD s σ H x y v u Q I rx ry h hs;show((p,xs,i,z,rfl,rfl,hq,he,q)=h,Z2,gC ry,aV r pl hz hq,(j,h1,h2,h3,h4,h5)=xqg he,(w,ew,rw')=r.get h2,Tl hl r.length hn xsW,DC fin[oN w s][yk z I rw' q][subscriptTail_builtinR pl.typeIs KY.lookup
  (getItem_tuple pl Z4 Z4[EK Jj hl h1] yck[ZV fin]) hs])
def xgH (its:Cb)(n j)(u):Obj.mapSeq (·.setIfInBounds j u) xHN=xKf[xAf[its.set j u] n]:=by
 simp [Obj.mapSeq]
theorem Inv.lst {QD:Κ}{σ:St}(I:Wp)(h:H p=Fh):
  ∃its n,xCg/\Ii p xHN/\wx:=DR z its n r e[F8 p h] (its,n,r,e,z)
def Inv.lstUpd {QD:Κ}{σ:St}{its its':Cb}(I:Wp)(h:H p=Fh)
  (ho:Ii p xHN) (hf:f xHN=xKf[yhc n']) (r:yfc its') (hz:x1I) (t):
  oa[oX p ys][mI[yac f] t]:=by
 show(SC e[VA[yac f] p[xKf[yhc n']]][by
  rw [Lm f ho[by rw [hf]<;>rfl],hf]][yeJ[by rw [h];trivial][λ b u hb q=>x0o xHu][EX e] ?_],xJ8 hz its' n' r e)
inductive rSetL (o:V) (i:V) (v:V) (H:Hp) (Q:xvW):Prop
 |mk (p:_) (xs:_) (k:_) (j:_) (h0:o=FR) (h1:i=x6U) (h2:H p=Fh) (h3:TD[xTt k] j) (h4:Q[oX p[xs.set j v]]):rSetL o i v H Q
def xtG:xiW X rSetL:=by
 intro QD s σ H o i v ov iv u Q I ro ri rv h;obtain⟨p,xs,k,j,rfl,rfl,hp,hj,q⟩:=h;cases ro;show(gC ri,(its,n,r,ho,hz)=I.lst hp,(h1,h2,h3,h4)=xpy hj,Tl hl r.length hn xsW,(I':oa[oX p[xs.set j v]] (mX (yac (Obj.mapSeq (·.setIfInBounds j u)))))=I.lstUpd hp ho[xgH its n j u][r.set rv j][LT My hz] s.toks)
 by_cases h0:0≤k
 ·show DC hk[k.toNat=j][Ε[yal h4] h1[JA h1]][PySem.W.ki_setAt ho h0 Z4[EK Jj hl h4][LT hk[CS I' q]]]
 ·show DC hk[UH k ygU=j][by
   show(xXs[yaf h0 h3],EK Jj hl[JA h1])][PySem.W.ki_setBack ho[N8 h0][EK Jj hl h3] Z4[LT hk[CS I' q]]]
def sbP {i:Int}{n:Nat}(h:¬i<0):x3n[xHw i]=ST[xHw i.toNat]:=by
 show(Ik k[Oh[yaE h]],[JH,Int.max_eq_right[Int.le_min.2 (Wk,Wk)]]);rcases Qg k n with e|e
 ·rw [J9 e,Qh[Bf e]]
 ·rw [LN e,yhp e]
def sbN {i:Int}{n:Nat}(h:i<0):x3n[xHw[i+n]]=A6[UH i n]:=by
 rw [Qh[Int.le_trans[Int.add_le_add_right[Qm h] n][Int.le_of_eq[Qj _]]],Int.toNat_eq_max,Int.max_comm]
def xfI (lo hi:UB)(n):(yam hi none n).1=ST[x3o 0 lo]/\AV[yam hi none n]=ST[x3o n hi]/\EU[yam hi none n]=1:=by
 refine ni ?_ ?_
 ·cases lo with
  |none=>simp [sliceBounds,HT.sIx]
  |some i=>
   simp only [sliceBounds,HT.sIx,Option.getD_none,show Il>0 by decide,if_true];by_cases h:i<0
   ·show yci h[sbN h]
   ·simp only [h,Og,sbP h]
 ·cases hi with
  |none=>simp [sliceBounds,HT.sIx]
  |some i=>
   simp only [sliceBounds,HT.sIx,Option.getD_none,show Il>0 by decide,if_true];by_cases h:i<0
   ·show yci h[sbN h]
   ·simp only [h,Og,sbP h]
def xfQ (its:Cb)(lo hi):slicePick its.toArray lo hi none=(Ew[its.drop[x9N 0 lo]][x9N its.length hi][x9N 0 lo]).toArray:=by
 show(x4Y h1 h3[xfI lo hi its.toArray.size],Up slicePick h1 h2 h3);simp only [sliceRange_one,pick_run,Jj]<;>rfl
inductive xts (K:Frag) (x:V) (lo:UB) (hi:UB) (H:Hp) (Q:VK):Prop
 |mk (a:_) (xs:_) (h0:x=AO) (h1:VH) (h2:∀p,Vu->lR[oX p[xVy lo hi]]):xts K x lo hi H Q
def xtn:xB1[xts X.K]:=by
 intro QD s σ H x v vl vu lo hi sl Q I rx hs pl pu h;show(yV a xs hx q,Z2,kW r ht hx,Vk hlen r.length[TX "list" _ slot_list_getitem.lookup ht.isList.typeIs][wpAny_getItem_list_slice ht.isList hs pl pu .none Z6 ?_[by rw [Jj]<;>exact(uW [_,_,_] HM Φ hz xAb)]],[xfQ,-hlen],HU[ya qx[I.laid (t':=s.toks) (λ b ob q=>TM) ρ ?_][Ww Am]] (IY[xl3 xs lo hi] hz,_,0,Ew[r.drop xCZ] xW9 xCZ,BH))
def flatV:xw4 V
 | .non=>true
 | .bl _=>true
 | .int _=>true
 | .str _=>true
 |_=>false
def eqV:V->xw4 V
 | .non,.non=>true
 | .bl a,.bl b=>a==b
 | .bl a,.int b=>EM a 1 0==b
 | .int a,.bl b=>a==EM b 1 0
 | .int a,.int b=>a==b
 | .str a,.str b=>a==b
 |_,_=>false
def xux (ry:VL)(rx:wQ)(fy:xMa y)(fx:xMa x):x1B s u v[xIQ y]:=by
 cases y with
 |non=>
  show xLw;cases x with
  |non=>show xEf[SeqAt.EqAt.same _]
  |bl b=>show xEf[SeqAt.EqAt.none_bool b]
  |int b=>show d5 t[SeqAt.EqAt.none_int b t]
  |str b=>show d5 t[SeqAt.EqAt.none_str b t]
  |_=>show xGd fx
 |bl a=>
  show xLw;cases x with
  |non=>show xEf[SeqAt.EqAt.bool_none a]
  |bl b=>show xEf[SeqAt.EqAt.bool_bool a b]
  |int b=>show d5 t[SeqAt.EqAt.bool_int a b t]
  |str b=>show d5 t[SeqAt.EqAt.bool_str a b t]
  |_=>show xGd fx
 |int a=>
  show Ik t' ry;cases x with
  |non=>show xEf[SeqAt.EqAt.int_none a t']
  |bl b=>show xEf[SeqAt.EqAt.int_bool a t' b]
  |int b=>show d5 t[SeqAt.EqAt.int_int a t' b t]
  |str b=>show d5 t[SeqAt.EqAt.int_str a t' b t]
  |_=>show xGd fx
 |str a=>
  show Ik t' ry;cases x with
  |non=>show xEf[SeqAt.EqAt.str_none a t']
  |bl b=>show xEf[SeqAt.EqAt.str_bool a t' b]
  |int b=>show d5 t[SeqAt.EqAt.str_int a t' b t]
  |str b=>show d5 t[SeqAt.EqAt.str_str a t' b t]
  |_=>show xGd fx
 |_=>show xGd fy
def eqU (x:V)(u:Qr):Bool:=match u with
 | .none=>xIQ .non
 | .bool b=>xIQ iW
 | .int i _=>xIQ Dz
 | .str z _=>xIQ[.str z]
 |_=>false
def xck {u:Qr}(r:VL)(f:xMa y):eqU x u=xIQ y:=by
 cases y with
 |non=>show pq
 |bl b=>show pq
 |int i=>show pZ
 |str z=>show pZ
 |_=>show xGd f
theorem xr5 (rx:wQ)(fx:xMa x):cj xs us vX[Ty yaX->xr us[x1B s u v[eqU x u]]]
 |_,_,.nil,_=>λ u hu=>by cases hu
 |y::xs,u::us,.cons r t,f=>λ u' hu=>by
  rw [List.all_cons,MW] at f;show rg hu hu
  ·show LT[xck r f.1][xux r rx f.1 fx]
  ·exact xr5 rx fx t f.2 u' hu
def xzA:cS X "len"[λ xs H Q=>∃p ys,xs=Cg/\(xJt ys\/xBF p ys)/\xTG H]:=by
 intro QD s σ H xs us Q I r h;show(yV p ys hq q,lE u rx r,Z2,hn=xsW);rcases hq with hq|hq
 ·show(xEk r',aH hlen r'.length[Calls.call_len_list pl.isList[by simp only [Jj]<;>lia][uE ys.length (xMw,by rw [Jj,hlen]) q]])
 ·show(aV r' pl hz hq,aH hlen r'.length[len_tuple pl[by simp only [Jj]<;>omega][uE ys.length (xMw,by rw [Jj,hlen]) q]])
def xlQ:xyv X xK0[λ xs H Q=>∃p ys,xs=Cg/\(xJt ys\/xBF p ys)/\∀l,Bv->xY8 ys]:=by
 intro QD s σ H xs us Q I r h;show(yV p ys hq q,lE u rx r,Z2,(fin:∀(its:Cb),Vals ys its->x1I->tK h' Qz c' Nat[∀b o',Ii b o'->p6 b o'][p6 s.heap.objs.size {cls:=xK0,dict:=none,data:=x0h c',slots:=#[]}->oN qx Zf])=λ its r' hz h' c' kp e=>
  ya qx[I.laid kp ρ[show xLK _ h' _[.lst ys] from(hz,its,c',r',e)]][Ww Am])
 rcases hq with hq|hq
 ·show(xEk r',hlen=r'.length,DR o ho hc n hd pl.isList[yh2 bK ho hc hd[λ h' c' kp e=>fin its r' hz h' c' kp e][by simp only [Jj]<;>exact yaY hz]])
 ·show(aV r' pl hz hq,hlen=r'.length,DR o ho hc n hd pl[yh2 xFP ho hc hd[λ h' c' kp e=>fin its r' hz h' c' kp e][by simp only [Jj]<;>exact yaY hz]])
def xlA:xyv X xKR[λ xs H Q=>∃p ys,xs=Cg/\((xJt ys/\∀l,Bv->Q Ct[Hf H l ys])\/(xBF p ys/\Fc FR))]:=by
 intro QD s σ H xs us Q I r h;show(Q9 p ys rfl h,lE u rx r,Z2);rcases h with⟨hq,q⟩|⟨hq,q⟩
 ·show(xEk r',χ hlen r'.length[call_tuple_list pl.isList[UF h' kp][by simp only [Jj]<;>exact yaY hz]],Sc I1 xWN[x2X kp] I2[oa[Hf H h'.objs.size ys][mX[h'.push[xEx "tuple" x0h]]]][ybU s.toks[λ b o e=>qH] ρ[show xLK _ _ _[.tup ys] from(hz,its,r',IsTup.new _ _)]],ya[.ref h'.objs.size] I2[Ww x0n])
 ·show C5 its r' pl hz[I.tuple hq][call_tuple_same pl[Xw FR I q]]
def tyV (K:Frag)(T:String)(x:V)(H:Hp):Prop:=match x with
 | .str _=>T="str"
 | .int _=>T="int"
 | .ref p=>(T="list"/\cg[vB p xs])\/(T="tuple"/\∃o,x1W p/\ui xKR/\Θ o.dict)\/
   (T="dict"/\(CU QN[pG p dF]\/∃QN,pG p Mg))\/(T="set"/\∃S n,pG p[.set S n])
 |_=>False
def xp3 {QD:Κ}{σ:St}{H:Hp}(I:Wp)(r:wQ)(ty:tyV X.K T x H):
  s.TypeIs v T/\∀a,v=AO->∃ob,Ii a ob/\Θ ob.dict:=by
 cases x with
 |str z=>
  show gC r;cases(BJ T "str" ty);show AU[typeIs_str s z t][xFH e e]
 |int i=>
  show gC r;cases(BJ T "int" ty);show AU[yjY i t][xFH e e]
 |ref p=>
  show iY;rcases ty with⟨rfl,xs,hq⟩|⟨rfl,o,hk,hc,hd⟩|⟨rfl,hk⟩|⟨rfl,S,n,hk⟩
  ·show((its,_,pl,_)=I.list hq,ZU pl.isList.typeIs[UF a e],xCN,x75 n e c hd pl,Dj o e hd)
  ·show(ZU[kc[x73 p hk] hc][UF a e],CR e[kc[x73 _ hk] hd])
  ·show((z:∃o,Ii p o/\o.ExactDict)=by
    rcases hk with⟨QN,hk⟩|⟨QN,hk⟩
    ·show((_,_,_,_,o,_,_,e,ex,_)=F8 p hk,Dj o e ex)
    ·show((_,_,_,_,o,_,_,e,ex,_)=F8 p hk,Dj o e ex),Dq o e ex z[nU[kc e ex.1] a e2],CR e2[kc e[AV ex]])
  ·show((o,_,_,_,e,ex,_)=F8 p hk,ZU[kc e ex.1][UF a e2],CR e2[kc e[AV ex]])
 |_=>show XZ ty
inductive tBM0_p (K:Frag) (T:String) (r:V->Rz) (Q:VK) (x:V) (H1:Hp):Prop
 |mk (h0:tyV K T x H1) (h1:lJ [] H1 Q):tBM0_p K T r Q x H1
def xeg (K:Frag)(T:String)(r:V->Rz)(to:TE):TE:=λ σ H Q=>to σ H[kI x[tBM0_p K T r Q x H1]]
inductive tBM_p (K:Frag) (T:String) (r:V->Rz) (t:TA) (σ:St) (Q:VK) (x:V) (H1:Hp):Prop
 |mk (h0:tyV K T x H1) (h1:xYx[jh xs[lJ xs H2 Q]]):tBM_p K T r t σ Q x H1
def tBM (K:Frag)(T:String)(r:V->Rz)(to:TE)(t:TA):TE:=λ σ H Q=>to σ H[kI x[tBM_p K T r t σ Q x H1]]
variable {o e:QA}{es:EB}{to:TE}{t:TA}{name:Str}{apos SN:Pos}{T id:String}{r:V -> Rz}
def xcA (pa:yaZ)(slot:Slot T name id)(hty:ydv=yfd)(hm:xXO id r)(ho:xDy to)
  (TN:AJ[xS9 o name jn=jn]) (Xs:xYY ybV):AN[xUd o name [] SN][xeg X.K T r to]:=by
 intro QD s σ H Q I h;show(wpAny_Call_method0_late TN Xs[V7[aR s H _ I h] v],(x,H1,I1,r1,ty,q1)=z9,Ib h1 h2[xp3 I1 r1 ty] (T,id,pa,slot,hty,h1,h2,Calls.callWith_builtin rfl[PySem.evalArgs_none[hm QD s1 σ H1 x [] v [] Q I1 r1 .nil q1]]))
def xrp (pa:yaZ)(slot:Slot T name id)(hty:ydv=yfd)(hm:xXO id r)(ho:xDy to)(ha:wO)
  (TN:AJ[xS9 o name jn=jn])
  (hfew:xYY[(backTo SN[xG xw]).all[λ x=> ! ke]&&(ybt SN).all[λ x=>(ke).isSome]
   &&HY[iT xw ([]:xTC).length+EM ([]:xTC).isEmpty 0 1] 30])
  (Xs:xYY ybV) (hs:AJ[ml=yg::mz]) (Tp:yfG):
  AN[xUd o name xw SN][tBM X.K T r to t]:=by
 intro QD s σ H Q I h;show(wpAny_Call_method_late TN hfew Xs rfl[V7[aR s H _ I h] v],(x,H1,I1,r1,ty,q1)=z9,sL h1 h2[xp3 I1 r1 ty] (T,id,pa,slot,hty,h1,h2,?_),hA=ha SN QD s1 σ H1 _ I1 q1);rw [hs] at hA ⊢;show HU (Calls.callWith_builtin (by show(false||(backTo SN[starEach es X.env]).any (·.1))=false;rw [Tp]<;>rfl)[Calls.evalArgs_plain ?_])[thn hA λ us s2 z9=>DR vs H2 I2 r2 q2 z9[hm QD s2 σ H2 x vs v us Q I2 r1 r2 q2]]
universe s
def MtM (X:Cx)(id:String)(r:V->Rz):Prop:=
 ∀(QD:Κ) (s:Qu) (σ:St) (H:Hp) x xs v us Q,Wp->wQ->vX->lJ xs H Q->
  Ds[xz8 id[v::us]]
theorem Vals.one:cj x us[pT Dt][∃u,us=YG/\rf]
 |_,_,.cons r .nil=>BV r
theorem Vals.zero:∀{us:Cb},pT []->us=[]
 |_,.nil=>rfl
theorem Vals.rep (h:vX):∀k,Vals[BC k xs][BC k us]
 |0=>.nil
 |k+1=>uA KG KG Ky Ky[Vals.append h[Vals.rep h k]]
theorem xnf (its:Cb):∀k acc,
  yfe[λ x1 x2=>x1++x2] acc.toArray k=x7r acc[BC k its]
 |0,acc=>by simp
 |k+1,acc=>by
  show(Sc e[acc.toArray++its.toArray=x7r acc its] Z6 e2[(acc++its)++BC k its=acc++BC[k+1] its][by
   rw [KG,Ky,IU]],[-e2,-xnf its k[acc++its],-e,KG,Pi])
section
variable {X:Cx}{QD:Κ}{σ:St}{H:Hp}{s:Qu}{l b:Qq}{xs ys zs:Sy}
def Inv.lset {its its':Cb}{n:Nat}{f:Hb->Hb}(I:Wp)(hH:pV=Fh)
  (e:Ii l xHN) (hf:f its.toArray=its'.toArray) (hv:yfc its') (hz:x1I):
  oa[WA ys][mI[s.heap.update l yil] t']:=by
 show(Dd q[PySem.IsL.update e f] hf q,HU[yeJ[LT hH trivial][λ b' u hb hu=>(Ks s.heap yil[MJ hb]).trans hu][EX q] ?_] (hz,its',_,hv,q))
def Inv.lnew {its:Cb}{t':Nat}(I:Wp)(hv:Vals ys its)(hz:x1I):
  oa[oX s.heap.objs.size ys][mI[xSw "list" x0h] t']:=
 I.laid[xTc TM] ρ (hz,its,0,hv,BH)
theorem Inv.fresh (I:Wp):ygV:=Am
def Inv.lstM (I:Wp)(hH:pV=Fh):wx/\∃(its:Cb) (n:Nat),xCg/\xLV xs.length/\Ii l xHN:=DR z its n r e[F8 l hH] (z,its,n,r,r.length,e)
def xmL (h:xF n):AG[Builtin.List.listTooLong n]:=by
 unfold Builtin.List.listTooLong;exact Kh[PU.mpr h]
universe s
section
variable {X:Cx}
inductive xmd (x:V) (vs:Sy) (H:Hp) (Q:VK):Prop
 |mk (l:_) (xs:_) (y:_) (h0:x=Ct) (h1:vs=[y]) (h2:pV=Fh) (h3:xSG xs.length) (h4:xAC[WA[xs++[y]]]):xmd x vs H Q
def xlO:MtM X "list.append" xmd:=by
 intro QD s σ H x vs v us Q I rx rv h;show(Fw l xs y rfl rfl hH hz q,Z2,XG u ru rv.one,bU z its n r hl e hH,ω[xRE Kl F.entry_list_append[F.args_list_append_2 _ _][PySem.list_append l its.toArray n u[LT Jj[IY Rd[Jy hz]]]][FQ e]][ya .non[ybW[its++YG] hH e Z6[r.append[lp ru]] ?_] q],iB LS)
 assumption
inductive xme (x:V) (vs:Sy) (H:Hp) (Q:VK):Prop
 |mk (l:_) (b:_) (xs:_) (zs:_) (h0:x=Ct) (h1:vs=yC b) (h2:pV=Fh) (h3:uC=Az zs) (h4:xF yiT) (h5:xAC[WA[xs++zs]]):xme x vs H Q
def xfl:MtM X "list.extend" xme:=by
 intro QD s σ H x vs v us Q I rx rv h;show((l,b,xs,zs,rfl,rfl,hH,hB,hz,q)=h,Z2,XG u ru rv.one);cases ru;show(bU z its n r hl e hH,bU z2 Rm n2 r2 Q0 e2 hB,Sc hsz[xF[its.toArray.size+Rm.toArray.size]][by show([Jj,Jj],DE [_,_,_,_,_][.a D7 WF][Aw D7] WF Uf hz Rd[IR Q0.symm])] hlong[¬IC[! its.toArray.isEmpty&&Builtin.List.listTooLong[its.toArray.size+Rm.toArray.size]]][XV[xmL hsz] Bool.and_false JF],ω[xRE L8 F.entry_list_extend[F.args_list_extend_2 _ _][AutoSeq1.list_extend_list_list_0 l its.toArray n b Rm.toArray n2 hlong[LT Jj[xUh z]][KN hsz]][Cm e e2]][ya .non[ybW[its++Rm] hH e Z6 yi6 ?_] q],ybX IQ)
inductive rClear (x:V) (vs:Sy) (H:Hp) (Q:VK):Prop
 |mk (l:_) (xs:_) (h0:x=Ct) (h1:vs=[]) (h2:pV=Fh) (h3:xAC x8j):rClear x vs H Q
def xhC:MtM X "list.clear" rClear:=by
 intro QD s σ H x vs v us Q I rx rv h;show(vP l xs rfl hH q,Z2,W7=rv.zero);subst W7;show(bU z its n r hl e hH,HU[xRE F.slot_list_clear F.entry_list_clear[F.args_list_clear_1 _][AutoSeq1.list_clear_list_0 l its.toArray n[LT Jj[xUh z]]][FQ e]][ya .non[ybW [] (ys:=[]) hH e rfl .nil B1] q])
inductive rCat (x:V) (y:V) (H:Hp) (Q:VK):Prop
 |mk (l:_) (b:_) (xs:_) (zs:_) (h0:x=Ct) (h1:y=Bh) (h2:pV=Fh) (h3:uC=Az zs) (h4:xF yiT) (h5:∀p,Vu->lR[oX p[xs++zs]]):rCat x y H Q
def xe7:rM .Add rCat:=by
 intro QD s σ H x y v u Q I rx ry h;show((l,b,xs,zs,rfl,rfl,hH,hB,hz,q)=h,xHi,bU z its n r hl e hH,bU z2 Rm n2 r2 Q0 e2 hB,DK[PySem.P.add_list e e2 ?_[by show([Jj,Jj],DE [_,_,_,_,_][.a D7 WF][Aw D7] WF Uf hz Rd[IR Q0.symm])]] ea[its.toArray++Rm.toArray=x7r its Rm] Z6,LT ea[ya[.ref _][I.lnew yi6[ybX IQ]][Ww I.fresh]])
inductive rRep (x:V) (y:V) (H:Hp) (Q:VK):Prop
 |mk (l:_) (k:_) (xs:_) (h0:x=Ct) (h1:y=x6U) (h2:pV=Fh) (h3:-(2^63)≤k) (h4:k<2^63) (h5:xF[xs.length*k.toNat]) (h6:∀p,Vu->lR[oX p[BC k.toNat xs]]):rRep x y H Q
def xbq {α:Type}(xs:EW)(k):(List.replicate k xs).flatten.length=k*xs.length:=by
 induction k with
 |zero=>simp
 |succ k ih=>rw [KG,Ky,IQ,ih,Nat.succ_mul,Mm]
def xff:rM .Mult rRep:=by
 intro QD s σ H x y v u Q I rx ry h;show((l,k,xs,rfl,rfl,hH,h1,h2,hz,q)=h,Z2,gC ry,bU z its n r hl e hH,Sc hlen[xF ybP][EK Jj hl hz] hcap[¬ybP>(2^63-1)/8][cw[Zx sizeLine≤(2^63-1)/8] Z9],Sc WL[¬IC[! Builtin.List.listFitsIndex k]][LT[fitsIndex_both h1 h2] JF] hlong[¬Ty[Builtin.List.listTooLong ybP]][LT[xmL hlen] JF],SC hnew[yfe[λ x1 x2=>x1++x2] #[][Uc its.toArray.isEmpty 0 k.toNat]=ygh k.toNat its][by
  show((f0:∀m,yfe[λ x1 x2=>x1++x2] #[] m=ygh m its)=λ m=>gN[xnf its m []] Kd,[f0]);cases its with
  |nil=>simp
  |cons a r'=>show w8 Z6][wpAny_binaryOp_repeat_ref Z9[Xi e][λ s'=>typeIs_int s' k t] noFill_list_mul F.fills_int_mul F.slot_int_rmul repeat_list F.slot_int_index.lookup
  (Pd F.slot_int_rmul[yjY k t] F.entry_int_rmul[F.args_int_rmul_2 _ _][int___rmul___int_list k t l its.toArray n]
   (VC e[Xi e][xRE F.slot_list_mul F.entry_list_mul[F.args_list_mul_2 _ _][AutoListH.list___mul___list_int_3 l its.toArray n k t WL hcap hlong][FQ e]]))],LT hnew[ya[.ref _][I.lnew[r.rep k.toNat][XV xbq KI hz]][Ww I.fresh]])
universe s
section
variable {prog:Qv}{w:Qw}{A:Qy}{E:Ak}{s:Qu}
set_option maxRecDepth 100000 in
universe s
section
variable {X:Cx}
universe s
universe L2
namespace Att
open PySem PySem.W PySem.Calls PyProof.Rows
def xfD:∀ns vs,WellAll P h vs yg2->xOV:=by
 intro ns
 induction ns with
 |nil=>
  intro vs w;show(AQ PH w w,yx)
 |cons n ns ih=>
  intro vs w;rw [KH] at w;cases w with
  |cons a b=>
   show CR a[.cons _ _[ih _ b]]
def xhM {l:OpenLaw}(hn:x31 n)
  (hpre:Ty[l.row.toRowW.claim.pre args]) (hwl:WellAll P h vals args):
  ∃a vs ns,vals=[aI]/\args=[WData.list yg2]/\vo xWj/\xOV/\x1Q:=by
 show(Sc hsh[Ty[WShape.hasAll [] args [.list .int]]] yhd.1 hc[Ty[l.pre.holds [] {args:=args}]] yhd.2,xZ8 d r h1 h2[hasAllW_cons hsh],xw9[hasAllW_nil h2],XG xs h3[hasW_list h1],Ik ns[items_int h3],(hlen:x1Q)=by
  unfold OpenLaw.pre at hc;show((h4:Ty[(WTm.not[.lt[.lit[.int BU]][.len[.arg 0]]]).holds [] {args:=[.list[ns.map .int]]}])=by
   show(h4=(holds_andW hc).1,Ε hn h4 h4),Dd h5[condW_of h4[w_not[w_lt w_lit[w_len_list[w_arg rfl]]]]] IS h5,DK[JX[Hy q]] q'[BU<A6 ns.length][xn[Dp q]])
  first
   |(show Ε[IZ q'] h5[absurd h5 Z9])
   |(simp at h5;omega))
 cases hwl with
 |cons w1 w2=>
  cases w2;cases w1 with
  |list ho QZ=>exact Hx _ _ ns rfl ho[xfD ns _ QZ] hlen
def xh6 (l:OpenLaw)(args:List WData):Ty[l.row.toRowW.claim.post args xz9 args]:=
 postW_of
  (show Ty[WShape.has [] xz9 .bool] by first|rfl|decide|simp [WShape.has,WShape.arms,WShape.armsAll])
  (show TD[(WTm.eq .res[.lit xz9]).value [] {args:=args,res:=some xz9,after:=args}][.bool[true==true]] from w_eq_bool[w_res rfl] w_lit) rfl
def xfb {l:OpenLaw}
  (hn:x31 n) (hdf:yag [])
  (call:∀(w:Qw) (s₀ s₁:Qu) (mg mb:Ι) (fa:Qq) (o:QB) (pm cd doc:Qr) (a:Qq) (vs:Cb) (ns:Za),
   Ground q loose [] XP w s₀ mg mb s₁.heap->YP w s₁.heap->
   xS3 fa->fQ[.func[docDef d.name d.params d.body d.scope pm cd doc]]->s₁.heap.CodeRec cd d.name->ydb=π fa->
   yaq a xWj->xOV->x1Q->s₁.gens=#[]->
   xAk[model l.prog w] callerA ydQ x5L[λ r s'=>r=.ok ydY/\ycH/\yeT/\xKG] s₁):
  WalkO q loose XP YP l.row.toRowW d [][λ f vs=>ya0 vs]:=by
 intro w s₀ s₁ mg mb G Y fa o pm cd doc dV kV ho hd Ue hD hmg hg args vals as hpre hlay hrd hwl VS;show(Hu[dV=.none][Dflts.none hD hdf],Hu[kV=.none][Dflts.noKw hD],(a,vs,ns,rfl,rfl,hobj,hints,hlen)=xhM hn hpre hwl,enter_call[Oc[call w s₀ s₁ mg mb fa o pm cd doc a vs ns G Y ho[fd_plain hd] Ue hmg hobj hints hlen hg][xEr r hq]],C5 rfl h2 h3 h4 hq (.inl (xz9,xz9,[],rfl,QO,xz9,xh6 l _,λ _=>(List.Pairwise.nil,λ _ hm=>(nomatch hm))),h2,h3,h4))
section
variable {prog:Qv}{w:Qw}{A:Qy}{E:Ak}{s:Qu}{K:Frag}
universe s
universe Att
namespace L2
open PySem PySem.Spec PyProof.Rows
def xhY (h:xOV):Vals Aq vs:=by
 induction h with
 |nil=>show yx
 |cons n t _ ih=>show xCB[Gs t]
def xeN (s:QC) (j:Nat):QC:=match s with
 | .ClassDef _ _ _ body _ _ _ _ _ _ _=>body.getD j[.Pass (0,0,0,0)]
 |_=>.Pass (0,0,0,0)
def xrw (s:QC):Arguments:=match s with
 | .FunctionDef _ a _ _ _ _ _ _ _ _=>a
 |_=>{posonlyargs:=[],args:=[],vararg:=none,kwonlyargs:=[],kw_defaults:=[],kwarg:=none,defaults:=[]}
def xtk (s:QC):kJ:=match s with
 | .FunctionDef _ _ b _ _ _ _ _ _ _=>b
 |_=>[]
def xtl (s:QC):Scope:=match s with
 | .FunctionDef _ _ _ _ _ _ sc _ _ _=>sc
 |_=>{kind:=.function,names:=[],isGenerator:=false,isCoroutine:=false}
abbrev QM:CXT:=λ _ _ _ _ _ _=>False
abbrev E0:XK:=x0W
def bA {X:Cx}:xyw QM X E0:=λ _ _ _ _ _ _ _ h=>h.elim
inductive Fex (K:Frag) (x qual:Str) (st:QC) (dV:Qr) (f:Qq) (fd:Qx):Prop
 |mk (oc:Qr) (od:FG) (kV doc pm:Qr) (an:FG) (QE ct:Qr) (osl:xwK) (h1:fd=xTy x qual dV doc pm an QE ct) (h2:xZ2 fd) (h3:xZS QE):Fex K x qual st dV f fd
structure xyE (K:Frag)(x qual:Str)(st:QC)(f:Qq)(fd:Qx):Prop where
 ex:Fex K x qual st .none f fd
 kp:ZI
section
variable {P:Qv}{w:Qw}{K:Frag}{mg:Ι}{base:Qz}
def xyE.ok {x qual:Str}{st:QC}(F:Bq x qual st)(S:XL N ps st)
  (Vh:∀(QE:Qr) (A:Qy) (outer:rk) (s:Qu) (H:Hp) (vs:Sy) (Q:VK) (E:XK),xFq k[xK5 AY f QE]->qA->
   let X:=(xFF QM P w K mg N AY f QE A outer s H E).nox;X6[xR0/\xEo]) (len:xLi[∀vs H Q E,qA->wu]):xI3[k+1]:=by
 show((oc,od,kV,doc,pm,an,QE,ct,osl,rfl,lk,Ue)=F.ex,xZL S λ A outer s H vs Q E hr Vd=>?_,ZQ t h q[Vh QE A outer s H vs Q E hr Vd] t h.nox q)
def fun_mk {st:QC}{kV doc pm QE ct:Qr}(l:xZ2[xTy x qual .none doc pm an QE ct])
  (c:xZS QE) (k:ZI):xyE K x qual st f[xTy x qual .none doc pm an QE ct]:=((oc,od,kV,doc,pm,an,QE,ct,osl,rfl,l,c),k)
universe s
def xnd (h:IK n):xSG n:=sk h
section
variable {X:Cx}
def pv (i){x:Str}{pos:Pos}(hN:AJ xGE)(hv:autoParam[x05 x] xlz)(hd:t8)
  (Ue:sh[AG[x==yg7]]):AN xBe xHS:=xoy hN hv hd Ue
universe s
def bp {A B:Prop}(h:B):Uc false A B:=Zz JF h
def bZ {A B:Prop}(h:A):Uc true A B:=LT CD h
def aZ {c A B:Prop} [xTR] (h1:c->A)(h2:¬c->B):x7y A B:=by
 by_cases h:c
 ·show oB h[h1 h]
 ·show Zz h[h2 h]
def xc0 {c A B:Prop} [xTR] (hc:c)(h:B):Uc[! decide c] A B:=LT[IZ hc][bp h]
def K' (H H':Hp):Prop:=∀b o,zc->rq
def K'.refl (H:Hp):gk H:=λ _ _ h=>h
def K'.trans {H H1 H2:Hp}(a:qa)(b:xHL):yi:=λ c o h=>b c o[a c o h]
def K'.seq {K:Frag}{H H':Hp}{a:Qq}{xs:Sy}(e:Χ)(h:VH):xY2 a xs:=by
 rcases h with(h|⟨o,h⟩)|h
 ·show xV2[e _ _ h]
 ·show DZ[x4 o[e _ _ h]]
 ·show DM h
def xaJ (n:Nat)(wi:TI)(g:TG)(te:TE):TE:=λ σ H Q=>xRU[kI J[∀l,UQ l->Ek[Sy->EE][xY9/\∀i m ys σ' H',jD->
  (xH8/\B8)\/(xId/\∀x H2,xJQ->xDU[xCK[λ y H4=>
   zh=de/\XU/\bY[m'<m/\lK[i+1]]]])]]]
def xjR (i:Nat)(t:TE):TS:=λ D σ H=>ku v[D.nx xWe H1]
def xpC {K:Frag}{g:TG}{te:TE}{R:xvW}(Pv:DQ xHo)(h0:Pv 0 [] kB)(hl:∀i ys H,WH->U8->VH)
  (hs:∀i x ys σ H,ue->U8->xRl->Vo[xCK[λ y H4=>zh=de/\XU/\xUI n/\Pv[i+1] xBG xUH]])
  (hd:∀ys H,ybh H->R H) (mg:∀x σ H (A B:EE),uN[x7s->x7t]->Vo A->Vo B) (mt:∀σ H (A B:VK),(uq v[xR4->xR5])->ZJ A->ZJ B):
  Ek[Sy->EE][xY9/\∀i m ys σ' H',jD->
   (ik vv H'/\R H')\/(gX vv H'/\∀x H2,YA vv H' x H2->xDU[xCK[λ y H4=>
    zh=de/\XU/\bY[m'<m/\lK[i+1]]]])]:=by
 show yI[λ i m ys σ H=>m=xQV/\WH/\xRl/\U8] (xs.length,Z6,B1,JQ,h0);rintro i m ys σ H ⟨rfl,hi,hn,p⟩;show YC[xDh ys H hi p];by_cases QF:rQ
 ·show(zJ[xR7 (xs,xs[(i)],q,xVn)] e y y,yA[mg _ _ _ _ _[λ σ3 H3 z=>mt _ _ _ _[λ y H4 z9=>C5 z1 z2 z3 z4 z9[Hx z1 z2[p9[i+1]] we QF z3 z4]] z][xDi x ys σ _ xXK p hn]])
 ·show HP xN8 xBA[Zp[xHv q ρ][hd ys H p]]
def xm7 (hc:bu):cS X "sum"[λ xs H Q=>∃(p:Qq) (ns:Za),xs=Cg/\xJt Aq/\XD ns.sum]:=by
 intro QD s σ H xs us Q I r h;show(yV p ns hq q,lE u rx r,Z2,xEk rv,hi=x7z,x21 ys hi.allInts.items,SC hl[x9y yi7][hx▸pl.isList][sum_intListG hc hl λ h' tk t' hk=>?_],G9[ns=x9C][xF5 nums_intItems hx (BJ ygi ns hi.numsOf).symm][preSum xUL ys.size=ns.sum][by
  rw [preSum_eq,xXJ,e1]],LT e2[yk[.int ns.sum][I.kept hk] CQ q])
def xyz:x1i X[λ xs H Q=>∃x c t b,xs=[x,.ty c]/\xsx X.K H x t/\SS[x0a X.K t c]/\xJz]:=by
 intro QD s σ H xs us Q I r h;show(Fw x c t b rfl ty e q,xZ8 u v ru rv[xs9 r],CR rv[xg7 I ru ty e λ tk=>Xw iW[I.tok tk] q])
def xeL (X:Cx) (N:CI) (scope:Scope) (cl:jx) (fp:AH) (s:Qu) (H:Hp):Cx where
 prog:=X.prog
 w:=X.w
 K:=X.K
 mg:=X.mg
 base:=X.base
 A:=X.A
 N:=N
 s₀:=s
 H₀:=H
 env:=yim cl s.heap.objs.size X.env
 outer:=X.stack
 stack:=X.stack
 ex:=fp
 fn:=ybl
 calm:=X.calm
 pn:=[]
 xe:=si
def cap (js:x4K)(σ:St):St:=js.map λ o=>match o with
 |none=>none
 |some j=>xLN[σ[j]?]
structure xeY (X:Cx)(N:CI)(scope:Scope)(cl:jx)(js:x4K):Prop where
 kind:xLl
 nocell:xPc
 names:qq[xZs->xYD]
 clos:yev=pure cl
 sub:∀x c,xLe x c->X2
 has:∀x,(x58[x95 x]\/TD[x95 x] .free)->∃c,xLe x c
 len:js.length=N.length
 slot:xP3 i x Str j Nat[zv N->AD js[some j]->u9 X.N x/\x8R x .cell/\x58[x95 x]/\∀c,X2->xLe x c]
def xhV {σ:St}{fp:AH}(I:Wp)(C:xGG X N cl js)
  (hf:xZb) (QF:rG[xv4 b]) (hn:ygx m) (hk:∀b o,DA->Et):
  xBV mD x7u H cv:=by
 show SC sub[cj x c[TD[yin mD] c] X2][λ {x c} e=>C.sub x c e] ((I.ok.mod,C.kind,I.ok.glob,I.ok.blt,ρ,λ x y c e1 e2=>I.ok.inj x y c[sub e1][sub e2],DX[C.has x hx],λ x c e _=>xCN,I.qt,I.ok.frames,bK,
  Bm (Kf[QF b hb],λ x c e=>Fn vS x c xVV),I.bs,x1R I.sz,λ b o e hb=>?_,Μ b hb hs,I.stack,I.stkFree),
  rfl,I.bare,ycg,(m,hn,λ i x v h1 h2 h3=>?_),fK x c,Am,λ x c e=>xVP xVV,wc,yi8,by unfold cap;show Gk C.len)
 ·show II[eA vS]
  ·exact ybw o e z
  ·show tN[Ja FU[x1R z]]
 ·show XJ[x2f hs] z z
  ·exact AV vS z
  ·exact AV vS.2 z
 ·show(xMR cap,kH h2);cases ej:js[i]? with
  |none=>show AQ ej h2 h2
  |some o=>
   rw [ej] at h2;cases o with
   |none=>cases h2
   |some j=>
    show((W2:xCA[xLN[σ[j]?]])=JA h2,Zl hj1 hk1 Uk hc[C.slot i x j h1 ej] VN[u9 σ Ha][by
     cases e:σ[j]? with
     |none=>show tO W2 W2
     |some w'=>show lG W2[aS W2]],(mo,hno,hl)=I.loc,Dq u r l[hl j x v hj1 VN[.inr[.inl hk1]]][Cm u r]);rcases l with⟨q,_⟩|⟨_,c,ec,o,ho,hd⟩
    ·show(vO xQ8 q,AQ hk1 q' q')
    ·show DM (.inl Uk,c,hc c ec,o,hk c o ho,hd)
 ·show C5 v o ho hd[xVQ xVV] (v,o,hk c o ho,hd)
 ·show E9[Dx p ([]:Κ) hp] Z6
def ul {σ:St}{σ':St}(I:Wp)(hf:xZb)(I':Inv mD Rq σ' H' s'):mn:=
 I.call' I'.os I'.base I'.hok I'.bare[Bm (eA vS,AV vS,Fn vS,xBP vS)]
def xjr (js:x4K)(wi:TI)(g:TG)(te:TE):TE:=λ σ H Q=>xRU[kI J[∀l,UQ l->Ek[Sy->EE][xGB x7u kB/\∀i m ys σ' H',jD->
  (xH8/\B8)\/(xId/\∀x H2,xJQ->xDU[xCK[λ y H4=>
   zh=de/\XU/\bY[m'<m/\lK[i+1]]]])]]]
def xrl (js:x4K)(wi:TI)(g:TG)(tt:TT)(te:TE):TE:=λ σ H Q=>xRU[kI J[∀l,UQ l->Ek[Sy->EE][xGB x7u kB/\∀i m ys σ' H',jD->
  (xH8/\B8)\/(xId/\∀x H2,xJQ->xDU[xIm[λ c H5=>xJ4 c[λ y H4=>
   zh=de/\XU/\bY[m'<m/\lK[i+1]]][bY[m'<m/\xLM[i+1] ys H5]]]])]]]
def xiE (n:Nat)(wi:TI)(g:TG)(tt:TT)(te:TE):TE:=λ σ H Q=>xRU[kI J[∀l,UQ l->Ek[Sy->EE][xY9/\∀i m ys σ' H',jD->
  (xH8/\B8)\/(xId/\∀x H2,xJQ->xDU[xIm[λ c H5=>xJ4 c[λ y H4=>
   zh=de/\XU/\bY[m'<m/\lK[i+1]]][bY[m'<m/\xLM[i+1] ys H5]]]])]]]
def xpS (prog:Qv)(w:Qw)(A:Qy)(elt QG iter:QA)(cs:EB)(scope:Scope)(pos:Pos)(tw:Env->(x4M)->rO[Ak]):Prop:=
 ∀(R:rO Result) (s:Qu) (it acc:Qr) (env:Env) (J:DQ[BY Qu]),(∀n z,J n z->nD[pyNext it][λ r z1=>match r with
   |none=>R[.ok .next] z1
   |some v=>nD[letOwnedTupleGo QG it v][λ _ z2=>nD[assign QG env v][λ _ z3=>tw env[λ b z6=>Uc b[nD[eG elt][λ x z4=>
     nD[xz8 "list.append" [acc,x]][λ _ z5=>∃m,m<n/\J m z5][xR1 λ e s'=>xRb] z4][xR1 λ e s'=>xRb] z6][∃m,m<n/\J m z6]][xR1 λ e s'=>xRb] z3][xR1 λ e s'=>xRb] z2][xR1 λ e s'=>xRb] z1][xR1 λ e s'=>xRb] z)->
  ∀n,J n s->codeAny bM A[ykR 0 it acc env] R s
def twI (prog:Qv)(w:Qw)(A:Qy)(cnd:QA):Env->(x4M)->rO[Ak]:=λ env Q E z=>xFM[isTrue cnd env[eG cnd]] z
def tw0:Env->(x4M)->rO[Ak]:=λ _ Q _ z=>xNj z
def xyM
    (h:CU cnd[cs=[cnd]/\tw=twI prog w A cnd]\/(cs=[]/\tw=tw0)):xpS prog w A elt QG iter cs scope pos tw:=by
  intro R s it acc env J turn n h0
  show(codeAny_loop rfl J[Μ k z hz] n h0,V' _[(compTurn xIP 0 it acc env).onRaise[EA[do noteFrame q env;theTreesLotGoes q]]] z,wpAny_noted ?_,mw compTurn_list[x96[ZW[turn k z hz][Μ r z1 g1] q q]])
  cases r with
  |none=>show Bw g1
  |some v=>
    show Gp[ZW g1[λ _ z2 g2=>IX[ZW g2[λ _ z3 g3=>?_] q q]] q q]
    rcases h with⟨cnd,rfl,rfl⟩|⟨rfl,rfl⟩
    · show Gp[wpAny_tests_one[ZW g3[Μ b z6 g6] q q]]
      cases b with
      |false=>show Bw[ZV g6]
      |true=>exact IX[IX[ZW g6[λ x z4 g4=>IX[ZW g4[λ _ z5 g5=>Jr[Jr[ZV g5]]] q q]] q q]]
    · exact xHp[IX[IX[ZW g3[λ x z4 g4=>IX[ZW g4[λ _ z5 g5=>Jr[Jr[ZV g5]]] q q]] q q]]]
def PTw (X:Cx)(tw:Env->(x4M)->rO[Ak])(tt:TT):Prop:=∀QD s σ H Q Q' E,Wp->xXP H Q->(∀b s',CU H'[mn/\oA b]->Q' b s')->tw X.env Q' E s
def ttT:TT:=λ _ H Q=>Fc true
def xiN:PTw X tw0 ttT:=λ _ _ _ H _ _ _ I h k=>bD (H,I,h)
def xjm (ht:kR cnd tt)(hx:∀e s,X.xe e s->False):PTw X[twI X.prog X.w X.A cnd] tt:=
 λ QD s σ H Q Q' E I h k=>ZW[ht QD s σ H Q I h][λ b s' z9=>Ie H' x y z9[k b s' (H',x,y)]] z (hx _ _ z).elim
def xnE {N:CI}{σ:St}:cap x2F σ=yiH N.length:=Bz cap K1 Pg
def xud (SQ:xLl)(SA:qq x6m)(SR:xPc)(Tq:qq[xZs->xYD]):xGG X N [] x2F:=by
 show SC rl[Ic (x94).names[x∈scope.names]][by
  show(xEw,((n,k),m,e)=LI.mp hx,(hk:x16 k)=SA _ m);have:X0[k==NameKind.free]:=by simpa using hk
  simp [this] at e;show Bg e m] (SQ,SR,Tq,closureFor_none SA,λ x c h=>xy,UF x h,IS ..,λ i x j h1 h2=>?_)
 ·show xBu h h
  ·show xIB[SR _[rl _[KF h]]]
  ·show xIB[SA _[rl _[KF h]]]
 ·show kH h2;cases e:N[i]? with
  |none=>show tO h2 h2
  |some y=>show tO h2 h2
def xjc {N:CI}{te:TE}{σ:St}{H:Hp}(h:ybz wi g te σ H Q):xQv x2F g ttT te σ H Q:=Bz xrl xnE h
def xdT {N:CI}{wi:TI}{g:TG}{tt:TT}(h:xiE N.length wi g tt te σ H Q):xQv x2F g tt te σ H Q:=Bz xrl xnE h
inductive xkl (cl:jx) (X:Cx) (N:CI) (scope:Scope) (fp:AH) (tn:cI Qz) (W:dD[Sy->EE]) (H3:Hp) (s3:Qu) (n:Nat) (s':Qu):Prop
 |mk (i:Nat) (ys:Sy) (σ':x4I) (H':Hp) (h0:xBV xYC σ' H' s') (h1:xIw s'.heap) (h2:(xOW)) (h3:W i n ys σ' H'):xkl cl X N scope fp tn W H3 s3 n s'
def lf {X:Cx}{N:CI}{scope:Scope}{σ:St}{RR:Qr->Qq->rO Result}{Wx:AH->Qu->Hp->Ak}
  (hc:FA) (Cp:xGG X N cl js)
  (hi:xDV) (hg:∀fp s H,xY6 g) (LR:ydc X.w X.A elt QG iter cs scope pos tw) (ht:∀fp s H,PTw mD tw tt) (he:∀fp s H,xC6[(mD).wish[Wx fp s H]])
  (I:Wp) (h:xQv js g tt te σ H Q)
  (hR:∀(l C:Qq) (H':Hp) (s':Qu),mn->lQ C->CU m[s'.heap.Ns C m]->B8->RR Ct C[.ok .next] s')
  (hE:∀(l:Qq) (fp:AH) (s3:Qu) (H3:Hp) (e:Qr) (s':Qu),oa H3 s3->(rG[x0J H3 b])->Wx fp s3 H3 e s'->Av[noteFrame e X.env][xPy[x9L Ct x9g s']][λ e s'=>x9L Ct x9g s'] s'):
  zw ydS[λ x s₁=>sS[pyIter x][λ it s₂=>sS[newList []][λ acc s₃=>
   sS[newFunctionEnv scope X.env.globals cl [] X.env.qual none .none[some X.env]][λ cenv s₄=>
    x2q X.A[.compStart xIP 0 it acc {cenv with scope:=x94}][RR acc cenv.locals] s₄] s₃] s₂] s₁]:=by
 show(thn[xI1 s H _ I h] λ v s1 h1=>xvY h1 itv s2 h2,(it,fp,tn,J,H2,e,I2,T,Ut,f2,hw)=h2,DD,(Q0:Θ[H2 s2.heap.objs.size])=yhN,(W,(m0,w0),turn)=hw s2.heap.objs.size Q0,SC lt2[rG[b<s2.heap.objs.size]][Bm[let(o,e,_):=xRv Ut b hb;FU]] x0Q,Sc I3[oa[Fj H2 s2.heap.objs.size []] {s2 with heap:=x1c[xAf ([]:Cb)]}][I2.laid (t':=s2.toks) (λ b u e=>qH) ρ (B1,[],0,.nil,BH)] RU[tn 0[x1c[xAf ([]:Cb)]]][xUQ _ _ Ut λ b hb o e=>qH],xNp lt3[rG[b<(x1c[xAf ([]:Cb)]).objs.size]][Bm[LT N4[NX[lt2 b hb]]]] f3[rG[x0J[Fj H2 s2.heap.objs.size []] b]][Bm (Δ[Kf[lt2 b hb]] x74.1,x74.2)] s2.heap.objs.size l,az H2 l [] H3,xMv hs3[∃s3:Qu,s3={s2 with heap:=x1c[xAf ([]:Cb)]}] CQ s3 e3 hs3);rw [<-e3] at I3;show([-e3],Sc RU[tn 0 s3.heap][LT e3 RU] lt3[rG[b<s3.heap.objs.size]][LT e3 lt3])
 clear e3;show(DK[wpAny_newFunctionEnv Cp.nocell[by intro y hy;simp at hy][Μ h4 hns hsb] Cp.kind] kp[∀b o,Uz[Gr[s3.heap.get? b]][h4.get? b]][λ b o e=>yjZ o xWb qH],DF I4[xhV (N:=N) (t':=s3.toks+([]:xEH Qr).length) I3 Cp f3 lt3 hns kp] S3[tn 0 h4][xUQ _ _ RU λ b hb o e=>kp b o e] Yq[∀{H':Hp},(xOW)->rG[xsz xYC [] H' b]][λ hn b hb=>
  (hn b hb,(I4.ok.exf b hb).1,I4.ok.exfs b hb,.inl hb,(I4.ok.exf b hb).2,rV p hp[Dx p ([]:Κ) hp] Z6)],DC loop[x2q X.A[ykR 0 pj Ct[yim cl s3.heap.objs.size X.env]][x9L Ct] {s3 with heap:=h4,toks:=s3.toks+([]:xEH Qr).length}][by
  refine LR _ _ _ _ _[xkl cl X N scope fp tn W H3 s3] ?_ m0 (0,[],_,_,I4,S3,xQ6[f3 b hb],w0);rintro n s5 ⟨i,ys,σ5,H5,I5,st5,fr5,w5⟩;rcases turn i n ys σ5 H5 w5 with⟨stop,q⟩|⟨go,step⟩
  ·show(zJ[Hv[T.done xYC rfl rfl rfl hc i [] s5 σ5 H5 _ I5[Yq fr5] st5 stop] r s6] hr I6 z9,DN hr[hR _ _ _ _[ul I3 f3 I6][I3.fpOk ρ I6.free][let(m,hn,_):=I6.loc;(m,hn)] q])
  ·show XX[Hv[T.item xYC rfl rfl rfl hc i [] s5 σ5 H5 _ I5[Yq fr5] st5 go] r s6] u hr h6 z9;subst hr;show(xZ0 h6 s7,(x,H7,I7,r7,y7,st7,fr7)=z9,χ I7'[I7.pinned[Yq fr7][xRv st7]][ZW[hg fp s3 H3 _ s7 σ5 H7 x u _ I7' r7[step x H7 y7]][λ _ s8 z9=>?_] z xKL],(σ8,H8,I8,q8)=z9,XX[ht fp s3 H3 _ s8 σ8 H8 _ _ _ I8 q8[Μ bb s85 z85]] H85 I85 q85 z85);cases bb with
   |false=>
    rw [Jk JF] at q85 ⊢;show(Dq m' hm' w9 q85 (m',hm',i+1,ys,σ8,H85,I85.unpinned,xUQ _ _ st7 λ b hb o e=>(I85.pin ((b,o)) xC4).1,qE,w9),Ie o e d[xRv st7 b hb][AV[I85.pin ((b,o)) xC4]])
   |true=>
   rw [CD] at q85 ⊢;show(KR[he fp s3 H3 _ s85 σ8 H85 _[I85.wish _] q85][Μ v s9 z9] λ e s' z=>hE l fp s3 H3 e s' I3 f3 z,(y,H9,I9',r9,hl9,hz9,m',hm',w9)=z9,χ I9 I9'.unwish[ZW[xlO (X:=xYC) _ s9 σ8 H9 Ct [y] Ct [v][λ z Hz=>Hz=IJ H9 xBG] I9 rfl[lp r9][Hx l ys y rfl hl9 hz9 rfl]][λ _ s10 ⟨z,Hz,I10,_,eH⟩=>?_] z xKL])
   subst eH;show((m',hm',i+1,xBG,σ8,_,I10.unpinned,xUQ _ _ st7 λ b hb o e=>(I10.pin ((b,o)) xC4).1,qE,w9),Ie o e d[xRv st7 b hb][AV[I10.pin ((b,o)) xC4]])][codeAny_compStart_list loop[T.self X.A 0 _ _ _ S3 loop]])
def xtK {X:Cx}{N:CI}{scope:Scope}{cl:jx}(hc:FA)(Cp:xGG X N cl js)
  (hi:xDV) (hg:∀fp s H,xY6 g) (LR:ydc X.w X.A elt QG iter cs scope pos tw) (ht:∀fp s H,PTw mD tw tt) (he:∀fp s H,xC6 mD)
  (hs:qp x[xDE=xBC]):AN xIP[xQv js g tt te]:=by
 intro QD s σ H Q I h;show Γ eval_ListComp[yf3 hs Cp.clos Cp.kind Cp.names[lf hc Cp hi hg LR ht he I h ?_[yhQ z]]]
 rintro l C H' s' I' fC ⟨m,hn⟩ q;show Dj m hn[λ h' sb'=>sP Ct H'[I'.turned[λ b o hb e=>x6 sb' b hb e] fC.1[AV fC][eA fC][Fn fC][xBP fC]] q]
def xbt {X:Cx}{N:CI}{scope:Scope}{cl:jx}{i:Nat}{y:Str}{py spos:Pos}(hN:X.N.Nodup)(hiy:AD X.N y)(hy:xKF y)
    (hc:FA) (Cp:xGG X N cl js)
    (hi:xDV) (hg:∀fp s H,xY6 g) (LR:ydc X.w X.A elt QG iter cs scope pos tw) (ht:∀fp s H,PTw mD tw tt) (he:∀fp s H,xC6 mD)
    (hsw:x9f xIP[some xNw] spos.line=pure true)
    (hs:qp x[xDE=xBC]) (hf:xAn[Ty[X.fn y]\/xTb y]):
    xL1 [xNw] xIP spos[xjR i[xQv js g tt te]]:=by
  intro QD s σ H D I h
  show(mw[exec_Assign_Name_used _ _ _ _ hsw][x96 ?_],V' X.A[do let _<-comprehension xIP scope X.env _[newList []] false ydS[some[x15 xNw]]] s,Gp[ZW[yf3 hs Cp.clos Cp.kind Cp.names[lf hc Cp hi hg LR ht he I h ?_[yhQ z]]][λ _ s' hq=>Jr[Jr hq]] e e])
  rintro l C H' s' I' fC ⟨m,hn⟩ q
  show(V' X.A[x15 xNw Ct] _,XX[wpAny_assign_Name[xnc I' hN hiy hy[show RelV Ct Ct from rfl][Μ s2 I2 z9] hf]] a sb ha z9,(hCa:C≠a)=by
    rcases ha with ha|ha
    · show LT ha[AV fC]
    · exact MJ[Fn fC y a ha],Dj m[hn.sameBut sb hCa][λ h' sb'=>ll H'[I2.turned[λ b o hb e=>x6 sb' b hb e] fC.1[AV fC][eA fC][Fn fC][xBP fC]] q])
def xt4 (hc:FA)(SQ:xLl)(SA:qq x6m)(SR:xPc)(Tq:qq[xZs->xYD])(hi:xDV)(hg:∀fp s H,PG[Rk X N [] s H] QG g)(he:∀fp s H,xC6[Rk X N [] s H])(hs:qp x[xDE=xBC]):
  AN[xFE [xHr []]][ybz wi g te]:=
 λ QD s σ H Q I h=>xtK hc[xud SQ SA SR Tq] hi hg[xyM fV] yau he hs QD s σ H Q I[xjc h]
def xbl {py spos:Pos}(hN:X.N.Nodup)(hiy:AD X.N y)(hy:xKF y)(hc:FA)(SQ:xLl)(SA:qq x6m)(SR:xPc)(Tq:qq[xZs->xYD])(hi:xDV)(hg:∀fp s H,PG[Rk X N [] s H] QG g)(he:∀fp s H,xC6[Rk X N [] s H])(hsw:x9f[xFE [xHr []]][some xNw] spos.line=pure true)(hs:qp x[xDE=xBC])(hf:xAn[Ty[X.fn y]\/xTb y]):
  xL1 [xNw][xFE [xHr []]] spos[xjR i[ybz wi g te]]:=
 λ QD s σ H D I h=>xbt hN hiy hy hc[xud SQ SA SR Tq] hi hg[xyM fV] yau he hsw hs hf QD s σ H D I[xjc h]
def xtT {X:Cx}{N:CI}{scope:Scope}{elt:QA}(hc:FA)(SQ:xLl)(SA:qq x6m)(SR:xPc)(Tq:qq[xZs->xYD])(hi:xDV)(hg:∀fp s H,PG[Rk X N [] s H] QG g)(ht:∀fp s H,PT[Rk X N [] s H] cnd tt)(he:∀fp s H,xC6[Rk X N [] s H])(hs:qp x[xDE=xBC]):
  AN[xFE [xHr [cnd]]][xiE N.length wi g tt te]:=
 λ QD s σ H Q I h=>xtK hc[xud SQ SA SR Tq] hi hg[xyM x4Z][λ _ _ _=>xjm[ht _ _ _] xLI] he hs QD s σ H Q I[xdT h]
def xlJ {X:Cx}{N:CI}{scope:Scope}(hc:FA)(Cp:xGG X N cl js)(hi:xDV)(hg:∀fp s H,xY6 g)(he:∀fp s H,xC6 mD)(hs:qp x[xDE=xBC]):
  AN[xFE [xHr []]][xjr js wi g te]:=
 λ QD s σ H Q I h=>xtK hc Cp hi hg[xyM fV] yau he hs QD s σ H Q I[h]
def xgQ {X:Cx}{N:CI}{scope:Scope}(hc:FA)(Cp:xGG X N cl js)(hi:xDV)(hg:∀fp s H,xY6 g)(ht:∀fp s H,PT mD cnd tt)(he:∀fp s H,xC6 mD)(hs:qp x[xDE=xBC]):
  AN[xFE [xHr [cnd]]][xQv js g tt te]:=
 λ QD s σ H Q I h=>xtK hc Cp hi hg[xyM x4Z][λ _ _ _=>xjm[ht _ _ _] xLI] he hs QD s σ H Q I[h]
def xiy {lo:Int}{g:TG}{te:TE}{R:xvW}(Pv:DQ[Sy->EE])(h0:Pv 0 [] σ0 kB)
  (hs:∀i ys σ H,i<k->ybg σ H->g[.int[lo+Zx i]] σ H[xCK[λ y H4=>zh=de/\XU/\Pv[i+1] xBG σ3 xUH]])
  (hd:∀ys σ H,Pv k ys σ H->R H) (mg:∀x σ H (A B:EE),uN[x7s->x7t]->Vo A->Vo B) (mt:∀σ H (A B:VK),(uq v[xR4->xR5])->ZJ A->ZJ B):
  Ek[Sy->EE][xGB σ0 kB/\∀i m ys σ' H',jD->
   (ik[xBB k] H'/\R H')\/(gX[xBB k] H'/\∀x H2,YA[xBB k] H' x H2->xDU[xCK[λ y H4=>
    zh=de/\XU/\bY[m'<m/\lK[i+1]]]])]:=by
 show yI[λ i m ys σ H=>m=k-i/\i≤k/\ybg σ H] (k,Z6,B1,h0);rintro i m ys σ H ⟨rfl,hi,p⟩;by_cases QF:i<k
 ·show zJ[xR7 QF] e y y;subst e y;exact mg _ _ _ _ _[λ σ3 H3 z=>mt _ _ _ _[λ y H4 z9=>Ie z1 z2 z4 z9[zE z1 z2[k-(i+1)] we QF z4]] z][xDi ys σ _ QF p]
 ·show HP[i=k] xBA[Zp ρ[hd ys σ H p]]
structure Sa (K:Frag)(x qual:Str)(st:QC)(dV:Qr)(f:Qq)(fd:Qx):Prop where
 ex:Fex K x qual st dV f fd
 kp:ZI
def Sa.ok {K:Frag}{st:QC}(F:xEs x qual f fd)(S:XL N ps st)
  (hb:∀(QE:Qr) (A:Qy) (outer:rk) (s:Qu) (H:Hp) (vs:Sy) (Q:VK) (E:XK),xFq k[xK5 AY f QE]->qA->
   let X:=(xFF QM P w K mg N AY f QE A outer s H E).nox;X6[xR0/\xEo]) (len:xLi[∀vs H Q E,qA->wu]):xI3[k+1]:=by
 show((oc,od,kV,doc,pm,an,QE,ct,osl,rfl,lk,Ue)=F.ex,xZL S λ A outer s H vs Q E hr Vd=>?_,ZQ t h q[hb QE A outer s H vs Q E hr Vd] t h.nox q)
def xoT (P:Qv)(w:Qw)(h:Qz)(d:Qq)(a b:Int):Prop:=∃t t':Tok,h.MapOf[intKind P w] d[valueAt [((wX,xFt a)),((16,.int b t'))]]
def at8 (a b:Qr):TD[valueAt [((wX,a)),((16,b))] 8] a:=rfl
def xed (a b:Qr):SS[valueAt [((wX,a)),((16,b))] 16]:=rfl
def xxD (K:Frag)(d:Qq)(a b:Int):Prop:=ycy d/\∃(t1 t2 t3 t4:Tok) (ep:Nat),xSD d (x1q,none,x43 #[xNO 8 8 t1[x8f a],xNO 16 16 t3[.int b t4]],#[])
def xxD.map {K:Frag}{d:Qq}{a b:Int}{h:Qz}(P:Qv)(w:Qw)(T:xxD K d a b)(X:gR):xoT P w h d a b:=by
 show((_,t1,t2,t3,t4,ep,e)=T,(t2,t4,_,_,ep,X _ _ e,ni rfl rfl,rfl,?_,?_))
 ·intro en hen;show((hen':en=xNO 8 8 t1[x8f a]\/en=xNO 16 16 t3[.int b t4])=by simpa using hen,oH hen')
  ·show Dj 8[yj0 w 8 t1][xz6[wX=hashInt 8]]
  ·show Dj 16[yj0 w 16 t3][xz6[A6 16=hashInt 16]]
 ·intro k;show findBy Value.isInt _ k=_;unfold findBy valueAt;by_cases h8:k=8
  ·subst h8;show yi9
  ·by_cases h16:k=16
   ·subst h16;show yi9
   ·show G9[¬wX=k][SZ[h8 z.symm]][¬A6 16=k][SZ[h16 z.symm]]
    simp [Value.isInt,e1,e2]
def xei (P:Qv)(w:Qw)(d:Qq)(a b:Int):HO:=.ext[jl[xoT P w h d a b]]
def Sq2 (X:Cx)(H:Hp)(d:Qq)(a b:Int):Prop:=xxD X.K d a b\/pG d[xei X.prog X.w d a b]
def Inv.map2 {X:Cx}{QD:Κ}{σ:St}{H:Hp}{s:Qu}{d:Qq}{a b:Int}(I:Wp)(h:Sq2 X H d a b):xoT X.prog X.w s.heap d a b:=by
 show xBu h h
 ·exact h.map _ _ I.kIn
 ·exact(F8 d h).1
inductive rIx2 (X:Cx) (x:V) (y:V) (H:Hp) (Q:VK):Prop
 |mk (d:_) (i:_) (a:_) (b:_) (h0:x=Ed) (h1:y=Dz) (h2:Sq2 X H d a b) (h3:((i=8/\XD a)\/(i=16/\XD b))):rIx2 X x y H Q
def xvu {X:Cx}:xXN[rIx2 X]:=by
 intro value slice QD s σ H x y v u Q I rx ry h hs;show(Fw d i a b rfl rfl hm hq,Z2,gC ry,(t1,t2,hm)=I.map2 hm,ybA hq q rfl q)
 ·exact ykN[yio[ya1 _ _ _][at8 _ _][uE a CQ q]] hs
 ·exact ykN[yio[ya1 _ _ _][xed _ _][uE b CQ q]] hs
inductive xi0 (X:Cx) (x:V) (y:V) (H:Hp) (Q:VK):Prop
 |mk (d:Qq) (i:Int) (a:Int) (b:Int) (h0:x=Dz) (h1:y=Ed) (h2:xxD X.K d a b) (h3:(i=8\/i=16)) (h4:Fc XS):xi0 X x y H Q
def xf5 {X:Cx}:Wj .NotIn[xi0 X]:=by
 intro QD s σ H x y v u Q I rx ry h;show((d,i,a,b,rfl,rfl,hT,hi,q)=h,Rr,xLw,Dq t1 t2 hm[hT.map X.prog X.w I.kIn][wpAny_notIn_of[ya1 _ i t] hT.1 hm ?_],oH hi)
 ·exact Xw XS AK q
 ·exact Xw XS AK q
inductive xsg (X:Cx) (x:V) (y:V) (H:Hp) (Q:VK):Prop
 |mk (p:Qq) (q:Qq) (ns:Za) (ms:Za) (h0:x=FR) (h1:y=ig) (h2:xJt Aq) (h3:xFz q yav) (h4:wo[CG ns ms]):xsg X x y H Q
def xfL {X:Cx}(hu:xO3):x7d[xsg X]:=by
 intro QD s σ H x y v u Q I rx ry h;show((p,q,ns,ms,rfl,rfl,h1,h2,k)=h,xHi,kW rv pl h1,C5 Rm YN X9 Vc x2N[PySem.W.eq_intsK pl.isList x7z X9.isList[xro YN] hu[Xw[.bl _] I k]])
universe L2
namespace QQ
open PySem
def xgd {os:OsState}
  (hC:jI C[yan q C N bs bm hdct sn sub ab col dd k0 k1 k2 k3 k5 newId]) (hD:jI D[yh3 q' D N' bs' bm' hdct' sn' sub' ab' col' dd' j0 j1 j2 j3 j5 newId'])
  (he:jI e oe) (Yv:oe.cls=C4) (TN:Ty yht) (hm:Ty[xLh C bm x3O]) (ne:C≠D)
  (hq:xNj[xDj h g d t]):jq[yjH x3O] Q[xDj h g d t]:=by
 show eN hcB[Ty[xLh D bm' xKg]][by rw [List.contains_cons,TN,Bool.or_true]] f tc_notTuple;unfold excMatches
 repeat (first|(with_reducible show tI[OK he ?_] Yv)|with_reducible refine OK hD ?_|(with_reducible show tI[Oa hD ?_] hcB)|(with_reducible show tI[Oa hC ?_] hm)|wp_step)
 exact hq
universe QQ
set_option maxHeartbeats 8000000
namespace L2
open PySem PySem.Spec PyProof.Rows QQ
def xyC.there (x:qv o):∃ob,vo ob:=by
 cases o with
 |lst xs=>show(yjU x,TV)
 |tup xs=>show((_,_,_,ob,e,_)=x,TV)
 |dK QN=>show(x0A e x,TV)
 |dT QN=>show(x0A e x,TV)
 |set S n=>show((o,_,_,_,e,_)=x,TV)
 |ins C dx fs=>show(x9U x,TV)
 |own y=>exact x
 |xd fs=>show(ygv x,TV)
 |rng lo hi=>show((_,_,_,e)=x,TV)
 |frz ob u=>show((e,_)=x,TV)
 |tbl ps=>show AU _[x7V _ x]
 |met f y=>show AU _[x7V _ x]
 |ext φ=>show((_,e,_)=x,xCP)
def xwl.gone (x:ZG)(e:Θ[h.get? a]):xQG:=by
 cases q:Υ with
 |none=>rfl
 |some u=>
  show((ob,r)=(x a u q).there,tO r r)
def Bk (h0:Qz)(H:Hp)(e:Qq)(c:Qr):Prop:=WG H e/\∀b,c=Bh->Θ[h0.get? b]
inductive Cxd (D:oj) (P:Qv) (w:Qw) (outer:rk) (H:Hp) (s:Qu) (E:XK) (e:Qr) (s':Qu):Prop
 |mk (ea cls fp H') (h0:e=xA4) (h1:yfq) (h2:xKG) (h3:Un ycf [] H H' s.heap s'.heap) (h4:xA5 H' s'.heap) (h5:∃c,D c/\xwf s'.heap ea cls fp c/\Bk s.heap H' ea c) (h6:rG[Θ xTu/\xAX]) (h7:E cls none H'):Cxd D P w outer H s E e s'
def CXD (D:oj)(P:Qv)(w:Qw):CXT:=Cxd D P w
abbrev xel:Qv->Qw->CXT:=CXD λ _=>True
structure NewA (X:Cx)(QD:Κ)(b:Qq):Prop where
 s0:xYk
 loc:zf
 cel:∀x c,X2->ZM
 pin:xDX
def BkX (X:Cx)(QD:Κ)(H:Hp)(e:Qq)(c:Qr):Prop:=WG H e/\∀b,c=Bh->xY7 b
structure xze (X:Cx)(QD:Κ)(H:Hp)(b:Qq):Prop where
 s0:xYk
 h:Hg
 loc:zf
 cel:∀x c,X2->ZM
 pin:xDX
def Inv.newA {σ:St}(I:Wp)(e:Θ xTu)(hx:xVE):xY7 b:=by
 show xBL ?_ A4[λ x c ec z=>?_][Μ p hp z]
 ·cases q:xZ9 with
  |none=>rfl
  |some o=>
   show(x3f r[yiK q],tO r r)
 ·show x9w m o ho;rw [<-z,e] at ho;cases ho
 ·show((v,o,ho,_)=xVQ ec,FZ e ho ho)
 ·show(xOa xHh,Tg e)
def Inv.new {σ:St}(I:Wp)(e:Θ xTu)(n:xAX)(hx:xVE):xCp b:=
 let a:=I.newA e hx
 (a.s0,n,a.loc,a.cel,a.pin)
def xze.ch (n:xVg H b):(xRJ\/xYk)/\zf/\(∀x c,X2->ZM)/\xDX:=(.inr n.s0,n.loc,n.cel,n.pin)
def Inv.landed {σ:St}{fp:AH}(I:Wp)(hn:rG[xVg H b])(k:∀b o,DA->b∉fp->b∉yf4->Et)
  (sl:∀b o,DA->b∉fp->∃z,p6 b {o with slots:=z}) (th:∀b o,DA->xC5):xWN:=by
 show A3 nf[∀b,xMx->zf->b∉yf4][λ b h1 h2 z=>by
  show XJ[x2f z] q q
  ·exact h2 q
  ·exact h1 q] tr[∀b u,xQl->∀o,DA->Et][λ b u e o g=>by
  refine xDK g A4 A4
  ·show yb (hn b z).h
  ·show yb[I.stkFree b z]][I.step0[Bm (hn b hb).ch][λ b o h1 h2 h3 g _=>xDK g h3[nf b h2 h1]][λ b o _ _ h3 g _=>sl b o g h3][λ _ _ _ _ n=>n][λ b o _ g=>th b o g]
  (λ _ _ e=>e) x8t[λ b ps e=>xMI[Di e]][UF m hm][fK a o] I.bare]
 ·show((o,es,ep,ho,r)=hm,Ib z q[sl _ o ho λ y=>(eM y).loc rfl][cm es ep q r])
 ·show(xFu a o e[λ c v hc q=>?_] xZr xCe,II hc)
  ·show DN z[tr c _ e v q]
  ·exact tr c _ z v q
inductive Tre (X:Cx) (QD:Κ) (σ:St) (D:oj) (E:XK) (e:Qr) (s':Qu):Prop
 |mk (ea cls fp H') (h0:e=xA4) (h1:mn) (h2:∃c,D c/\xwf s'.heap ea cls fp c/\BkX X QD H' ea c) (h3:rG[xCp b]) (h4:E cls none H'):Tre X QD σ D E e s'
def Inv.thrown {σ:St}(I:Wp)(hx:yfo X.stack H s E e s')(hX:X.ex=[]):Tre X QD σ D E e s':=by
 show((ea,cls,fp,H',rfl,os,bare,un,hok,(c,dc,F,bk,bn),fr,q)=hx,Q6 ea cls fp H'[I.call' os un hok bare[rV b z z Z6]] (c,dc,F,bk,λ b e=>I.newA xPX[Di hX])[Bm[I.new xZN.1 xZN.2[Di hX]]] q)
def bJ {K:Frag}:
  xyw xJB[ur xJB P w K mg N f cd A outer s₀ H₀ E] E:=by
 intro QD σ H s e s' I hx;obtain⟨ea,cls,fp,H',rfl,I',⟨c,dc,F,bk,bn⟩,fr,q⟩:=I.thrown hx rfl;show xvT P w _[leaving _ xA4] _ _ _;show(gD leaving[xo3 I'.ok.frames I'.stack rfl F λ h' T F' hT f3 f4 f5=>?_],χ J[I'.landed fr f3 f4 f5] (ea,cls,[ea,T],H',rfl,J.os,J.bare,J.base,J.hok,(c,dc,F',bk,λ b e=>(xPX).s0),qE,q),XJ hb hb hb)
 ·subst hb;show(YE[fr b F.here],AU z.s0 z.h)
 ·show xGD JC;subst hb;show ZU ?_[I'.hok.fresh hT];cases z:s₀.heap.get? b with
  |none=>rfl
  |some o=>
   show(x3f r[I'.base.there b o z[by simp [cxOf]]],tN[xHn r hT])
def xjd:xyw xJB X E0:=by
 intro _ _ _ _ _ _ _ h;show((_,_,_,_,_,_,_,_,_,_,_,q)=h,q.elim)
def xyE.okE {K:Frag}{st:QC}(F:Bq x qual st)(S:XL N ps st)
  (hb:∀(QE:Qr) (A:Qy) (outer:rk) (s:Qu) (H:Hp) (vs:Sy) (Q:VK) (E:XK),xFq k[xK5 AY f QE]->qA->
   let X:=(xFF xJB P w K mg N AY f QE A outer s H E);X6[xR0/\xEo]) (len:xLi[∀vs H Q E,qA->wu]):uM P w K xJB[k+1] f fd ps sp:=by
 show((oc,od,kV,doc,pm,an,QE,ct,osl,rfl,lk,Ue)=F.ex,xZL S λ A outer s H vs Q E hr Vd=>hb QE A outer s H vs Q E hr Vd)
def Sa.okE {D:oj}{P:Qv}{w:Qw}{K:Frag}{mg:Ι}{base:Qz}{x qual:Str}{st:QC}{dV:Qr}{f:Qq}{fd:Qx}{N ps:CI}{k:Nat}{sp:Sp}(F:xEs x qual f fd)(S:XL N ps st)
  (hb:∀(QE:Qr) (A:Qy) (outer:rk) (s:Qu) (H:Hp) (vs:Sy) (Q:VK) (E:XK),xFq k[xK5 AY f QE]->qA->
   let X:=(xFF xJB P w K mg N AY f QE A outer s H E);X6[xR0/\xEo]) (len:xLi[∀vs H Q E,qA->wu]):uM P w K xJB[k+1] f fd ps sp:=by
 show((oc,od,kV,doc,pm,an,QE,ct,osl,rfl,lk,Ue)=F.ex,xZL S λ A outer s H vs Q E hr Vd=>hb QE A outer s H vs Q E hr Vd)
abbrev bmV:Cb:=[yg8,.type "Exception",xKg,xTk]
def ExC (K:Frag)(C:Qq):Prop:=iG[(yeV C).bind λ cd=>XW[K.lookup C] o[(o.cls== .type "type"&&o.slots.toList.length==6&&o.slots.toList[4]?==some[xTf "ValueError.__new__"]&&cd.mro.head?==zl)&& ! cd.hasDel&&tailIn K bmV cd.mro.tail&&nsOkIn K cd.ns&&nsIn K cd.ns "__init__"==some none]]
theorem xfj:∀{l:EW} {n},x6D[n+1]->∃a t,l=a::t/\t.length=n
 |a::t,_,h=>sV a t[Nat.succ.inj h]
def xc5 {l:List xZ5}(h:x6D 6)(g:Cs l 4 x):∃k0 k1 k2 k3 k5,l=[k0,k1,k2,k3,x,k5]:=by
 show(xL8 a l1 e1 h h,xL8 b l2 e2 h h,xL8 c l3 e3 h h,xL8 d l4 e4 h h,xL8 e l5 e5 h h,xL8 f l6 e6 h h);rw [e6,O0 h] at e5;rw [e1,e2,e3,e4,e5] at g ⊢;show Z0 a b c d f[rn g]
def xdf {cd:ClassData}(em:cd.mro=m::bm)(hd:AG cd.hasDel):cd=(cd.name,cd.bases,m::bm,cd.ns,cd.qualname,cd.hasDict,cd.slotNames,cd.subclasses,cd.abstract,cd.collection,false):=by
 cases cd;cases em;show rn hd
def xcL {o:QB}(e1:ui cl)(e2:fQ d)(e3:o.slots.toList=l):o=(cl,o.dict,d,⟨l⟩):=by
 cases o;cases e1;cases e2;show rn e3
def xcM {K:Frag}(h:TD[yeV C] cd)(hl:x1W C):fQ[.cls cd]:=by
 show(XO clsIn,HG hl,x0I)
 ·next z=>show(xCO,rn h)
 ·show xy
inductive ExO (K:Frag) (C:Qq):Prop
 |mk (bm N nm q bs hdct sn sub ab col dd k0 k1 k2 k3 k5) (hl:xSD C[yan q C N bs bm hdct sn sub ab col dd k0 k1 k2 k3 k5 "ValueError.__new__"]) (hc:TD[yeV C] (nm,bs,C4::bm,N,q,hdct,sn,sub,ab,col,false)) (hf:∀h,gR->CU mN[h.Ns N mN/\Θ[mN "__init__"]]/\OwnTail h bmV bm):ExO K C
def xyc {K:Frag}(c:yM C):ExO K C:=by
 show XH cd hc c[Option.bind_eq_some_iff.1 c] o hl c[xSO c];simp only [MW,beq_iff_eq,PV] at c;show((((((((e1,e2),e3),e4),hdel),ht),hok),hni)=c,(k0,k1,k2,k3,k5,e2)=xc5 e2 e3,(bm,e4)=List.head?_eq_some_iff.1 e4);rw [e4] at ht;show aH Ue[xdf e4 hdel] (bm,_,_,_,_,_,_,_,_,_,_,k0,k1,k2,k3,k5,hl.trans[aS[xcL e1[(xcM hc hl).trans[congrArg Data.cls Ue]] e2]],hc.trans[aS Ue],λ h X=>(CS[.of_isNs[PySem.W.isNs_of_in X hok]][PySem.W.nsMap_none_of_in X hok hni],PySem.W.tail_of_in X ht))
def xcX (C:Qq)(E:XK)(te:TE):TS:=λ _ σ H=>ZJ λ _ H1=>E C4 none H1
def xe1 {D:oj}{X:Cx}{np SN pos:Pos}(hx:xyw yfo X E)(hh:bu)(hg:uj)(hm:yF=zl)(c:xVo C)(he:TO)
  (RQ:AJ[xG [e]=yg::xG []]) (hd:t8) (hD:D .none:=by trivial):ki[.Raise[some[xSB x np [e] [] SN]] none pos][xcX C E te]:=by
 intro QD s σ H D I h;show((bm,N,nm,q,bs,hdct,sn,sub,ab,col,dd,k0,k1,k2,k3,k5,hl,_,hf)=xyc c,((mN,hN,hni),T)=hf X.base I.mod.kin,tI[wpAny_Raise_call_subT (nm:=nm) (q:=q) (N:=N) (bs:=bs) (hdct:=hdct) (sn:=sn) (sub:=sub) (ab:=ab) (col:=col) (dd:=dd) (k0:=k0) (k1:=k1) (k2:=k2) (k3:=k3) (k5:=k5)
  PySem.F.excBase_ValueError (mN:=mN) (T.hasType Z8) hh[Ar RQ] hni[ydz Ej hd]] RQ,WC[Calls.evalArgs_plain[Calls.spliced_cons[thn xHl λ u s1 ⟨y,H1,I1,r1,q1⟩=>Calls.spliced_nil ?_]]] (rfl,TY,I1.kIn C _ hl,hN.keeps I1.bk,T.keeps I1.bk,qr ea md)[hx QD σ H1 s1 _ _ I1 (ea,_,[ea],H1,rfl,rfl,I1.bare,Un.kept md.keeps,I1.hok.kept md.keeps,cm hD[xwf.made md] bK[λ b e=>nomatch e],Bm[by
  show(xGD JC,YI hb md.new[I1.hok.gone md.new])],q1)])
def xyN (X:Cx) (pn:Κ) (σ0:St) (E:XK) (D:oj:=λ _=>True):Cx:={X with
 pn:=pn
 xe:=Tre {X with pn:=pn} [] σ0 D E}
def cxHand (X:Cx) (e:Qq) (G:Hp):Cx:={X with
 A:=ycw e
 H₀:=G
 xe:=si}
def xtI (CX:CXT)(X:Cx)(E:XK)(σ0:St):Prop:=∀QD H s e s',oG σ0 H s->CX X.stack H s E e s'->X.xe e s'
def Cx.Ok.repn {X:Cx}(ok:X.Ok)(pn)(W):Cx.Ok[xFh pn W]:=
 (ok.mod,ok.kind,ok.glob,ok.blt,ok.above,ok.inj,ok.has,ok.cab,ok.hd,ok.frames,ok.stk,ok.exf,ok.bs,ok.bsz,ok.noex,ok.exfs,ok.funs,ok.frf)
def Cx.Ok.unpn {X:Cx}{pn:Κ}(ok:Cx.Ok[xFh pn W]):X.Ok:=
 (ok.mod,ok.kind,ok.glob,ok.blt,ok.above,ok.inj,ok.has,ok.cab,ok.hd,ok.frames,ok.stk,ok.exf,ok.bs,ok.bsz,ok.noex,ok.exfs,ok.funs,ok.frf)
def Inv.lift {σ:St}(I:Wp)(W):Inv[xFh cy W] [] σ H s:=
 (I.ok.repn _ W,I.os,I.bare,I.base,I.loc,I.cell,I.free,I.freeC,X5[xFc xLf],I.hok,I.len)
def Inv.unlift {σ:St}(I:Inv[xFh cy W] Rq σ H s):Wp:=
 (I.ok.unpn,I.os,I.bare,I.base,I.loc,I.cell,I.free,I.freeC,X5[xFc xXa],I.hok,I.len)
theorem Inv.repn {X:Cx}{σ:St}(I:xzL[xFh pn W] H s):Inv[xFh pn W'] [] σ H s:=
 (I.ok.unpn.repn _ W',I.os,I.bare,I.base,I.loc,I.cell,I.free,I.freeC,X5[xFc[by simp at hp;exact xXa]],I.hok,I.len)
theorem xwm.unlift (h:xwm[xFh cy W] [] D f s'):xJG s':=by
 cases f with
 |next=>show C5 σ' H' I q h[yfl H']
 |brk=>show C5 σ' H' I q h[yfl H']
 |cont=>show C5 σ' H' I q h[yfl H']
 |ret u=>show(xv0 v σ' H' I r q,Z0 v σ' H' I.unlift r q)
def xoX {X:Cx}{pn:Κ}{σ0:St}(hX:X.ex=[])(hD:∀c,D c->D' c:=by intros;trivial):xtI yfo[xyN X pn σ0 E D'] E σ0:=by
 intro QD H s e s' I hx;show((ea,cls,fp,H',rfl,I',F,fr,q)=I.thrown hx hX,DR c dc F bk bn F[Q6 ea cls fp H' I'.repn (c,hD c dc,F,bk,λ b e=>let n:=xPX;(n.s0,n.loc,n.cel,xN5[by simp at hp;exact xXa]))[Bm[let n:=xZN;(n.s0,n.h,n.loc,n.cel,xN5[by simp at hp;exact xXa])]] q])
def tAt (σ0:St)(t:TE):TE:=λ σ H Q=>σ=σ0/\xJv
def xpD (F:Uq)(hr:oq)(hb:jO)(hd:jS)(hx:xtI CX X E σ0)
  (I:oG σ0 H s) (r:xH4) (h:sp[vs++SJ] H Q E):zw[xTF us][xuL X QD σ0 Q]:=by
 show A3 r2[Vals[vs++SJ][us++ds]] ybk hl[xET[DV us ds]][Bg r2.length[x4m _ _ _ h]][OJ[Oc[x1L X.A s H[sG us][us++ds][vs++SJ] Q E hr I.env0[hb s us I.kIn hl] r2 h][xEr r hq]]];cases r with
 |error e=>exact hx QD H s e s' I hq
 |ok fl=>
  cases fl with
  |ret u=>exact I.after hq
  |next=>show S5
  |brk=>show S5
  |cont=>show S5
def xmS {p:Pos}{pos:Pos}(F:Uq)(hr:oq)(hg:uj)(hm:yF=kZ)(hk:xv2 X.K HW)(hb:jO)(hd:jS)(hx:xtI CX X E σ0)
  (ha:wO) (Xa:t8) (he:AJ[ml=yg::mz]) (Rv:vH):
  dj x p xw[tAt σ0[xxo sp SJ E t]]:=by
 intro QD s σ H Q I h;show(xAs rfl h,WC xPJ[yh4 hk[xWR[x98 s1 ydl]] he Rv][xpD F hr hb hd hx I1 r q])
def xh9 {pos:Pos}{apos:Pos}{pl:xF6}(he:xDz)(c:xBE)(hm:x7f m f)(F:Uq)(hr:oq)(hb:jO)(hd:jS)(hx:xtI CX X E σ0)(ha:wO)
    (RQ:AJ[ml=yg::mz]) (Rv:vH)
    (ht:AJ[xE xC3=(do
      let ov<-jn
      xER
      let((f,first))<-xE0 xJb ov m pl
      xJI x5X)]):
    AN xC3[tAt σ0[xQt m sp SJ E ta t]]:=by
  intro QD s σ H Q I h
  show(sL rfl h h[M5 xOk ht],(x,H1,I1,rx,a,dx,fs,ex,ea,l,q)=z9,WR[u=aI],WC[xZg c hm l ?_][yh4 hm.kp[thn[x1k s1 H1 _ I1 q][x90 s2 ydk]] RQ Rv][xpD (vs:=AO::vs) F hr hb hd hx I2[x2T r] q2])
def Inv.know {σ:St}(I:Wp)(n:xY7 b)(hb:wj[XI ob b]):xzL[xLp x4P] H s:=by
 show(Sc neF[∀c∈X.fs,ZM][λ c hc z=>by
  show(x0z o ho hc,xQi ho ho)] VQ[∀c o,Gr yg3->ZM][λ c o q z=>xQi q q],SC neB[∀c o,x0l c->ZM][λ c o q=>xJc o (xFg c q).1] ((I.ok.mod,I.ok.kind,I.ok.glob,I.ok.blt,I.ok.above,I.ok.inj,I.ok.has,I.ok.cab,?_,I.ok.frames,I.ok.stk,I.ok.exf,λ c o q=>FQ (xFg c q).1,I.ok.bsz,I.ok.noex,I.ok.exfs,I.ok.funs,UF c hc),
  I.os,I.bare,(λ c o q z hc hx=>?_,λ c o q z hc hx=>?_,λ c o q z hx=>?_,I.base.there,uS c xs,λ c o u q=>?_,uS c ps),I.loc,I.cell,I.free,I.freeC,I.pin,I.hok,I.len))
 ·rcases I.ok.hd with q|⟨a,o,vs,c,e,f,d,z,k⟩
  ·show DZ q
  ·show((up:∀x o u,TD[X.H₀ x] oE->TD[x4P x] oE)=λ x o u g=>by
    by_cases hx:x=b
    ·have:=yiZ _ _ g;rw [hx,hb] at this;show XV hx ad this
    ·show Δ hx g,DM (a,o,vs,c,e,up _ _ _ f,d,z,k.keep up))
 ·show Θ[xzR b _ c];show Δ[neB c o q] (xFg c q).2
 ·show Θ[xzR b _ c];show Δ[neF c hc][I.ok.frf c hc]
 ·show((z':Θ xDf)=z,Xq[xJc o q] z'[yja o q z' hc hx])
 ·show((z':Θ xDf)=z,Xq[xJc o q] z'[xE9 c q z' hc hx])
 ·show((z':Θ xDf)=z,Xq[xJc o q] z'[yjb o q z' hx])
 ·show vO[iN xDf] q;by_cases hc:c=b
  ·show Zw hc ad q' q'
  ·show Xq hc q'[xKU c q']
 ·show vO[TD xDf oE] q;by_cases hc:c=b
  ·rw [hc] at q' ⊢;rw [ad] at q';show LT hb q'
  ·show Xq hc q'[yaF o u q']
 ·show vO[TD xDf rZ] q;by_cases hc:c=b
  ·show Zw hc ad q' q'
  ·show Xq hc q'[xKV c q']
def Inv.unknow {σ:St}{σ1:St}(I0:Wp)(n:xY7 b)(hb:wj[XI ob b])(I:xzJ[xLp x4P] σ1 H1 s1):oG σ1 H1 s1:=by
 show A3 VQ[∀c u,uV yg3->ZM][λ c u q z=>xQi q q] tr[∀c,ZM->xDf=X.H₀ c][λ c hc=>aj hc] (I0.ok,I.os,I.bare,(λ c u q z hc hx=>yja u q[xL4 c[xJc u q] z] hc hx,λ c u q z hc hx=>I.base.slot c u q[xL4 c[xJc u q] z] hc hx,λ c u q z hx=>yjb u q[xL4 c[xJc u q] z] hx,I.base.there,uS c xs,λ c u v q=>?_,uS c ps),I.loc,I.cell,I.free,I.freeC,I.pin,I.hok,I.len)
 ·show(pY[xKU c[xPR c A4]][I0.base.tups c xs q],Tg hb)
 ·by_cases hc:c=b
  ·have:=I0.base.frzs c u v q;rw [hc,hb] at this;refine yaF u v ?_;show xDf=_;show XV hc ad this
  ·exact yaF u v[xPR c hc]
 ·show(zJ[xKV c[xPR c A4]] m this[I0.base.tbls c ps q],Tg hb)
def Inv.ready {σ:St}(I:Wp)(bk:BkX X QD H e c):∃G,xzL[xLp G] H s/\WG G e/\∀σ1 H1 s1,xzJ[xLp G] σ1 H1 s1->oG σ1 H1 s1:=by
 obtain⟨bk,bn⟩:=bk;rcases bk with bk|⟨b,ob,us,rfl,n,f,r⟩
 ·show E3 X.H₀ I[.inl bk][x3P z]
 ·exact ll[I.know[bn b rfl] f][.inr[Aa b ob us n ad r]][x3P[I.unknow[bn b rfl] f z]]
def Inv.hand {σ:St}(I:Wp)(n:xVg H e)(g:Ii e UD)(h2:xEp 2 c/\xDA)(bk:WG X.H₀ e):
  xzL[xFd e[xEn e e]][zB e[XI UD e]] s:=by
 show(Sc neF[E5 X.fs Vy][λ b hb z=>by
  show(x0z o ho hb,xQi ho ho)] VQ[∀b o,xH3->Vy][λ b o q z=>xQi q q],A3 neB[∀b o,xQU->Vy][λ b o q=>xJJ (xFg b q).1] bk'[WG[xEn e e] e][by
  rcases bk with bk|⟨b,ob,us,e1,n1,f1,r⟩
  ·show DZ bk
  ·show DM (b,ob,us,e1,n1,xk n1 f1,r)] ((I.ok.mod,I.ok.kind,I.ok.glob,I.ok.blt,I.ok.above,I.ok.inj,I.ok.has,I.ok.cab,.inr[Q6 e _ vs c ad rfl h2 bk'],I.ok.frames,I.ok.stk,I.ok.exf,λ b o q=>FQ (xFg b q).1,I.ok.bsz,I.ok.noex,I.ok.exfs,I.ok.funs,qE),
  I.os,I.bare,(λ b o q z hb hx=>?_,λ b o q z hb hx=>?_,λ b o q z hx=>?_,I.base.there,uS b xs,λ b o u q=>?_,uS b ps),I.loc,I.cell,?_,Μ x c ec,wc,uS a o,I.len))
 ·show Θ[xzR e _ b];show Δ[neB b o q] (xFg b q).2
 ·show Θ[xzR e _ b];show Δ[neF b hb][I.ok.frf b hb]
 ·show((z':Θ[xEn e e b])=z,Xq[xJJ q] z'[xQ2 q z' hb hx])
 ·show((z':Θ[xEn e e b])=z,Xq[xJJ q] z'[xE9 b q z' hb hx])
 ·show((z':Θ[xEn e e b])=z,xwA[aj[xJJ q]] z'[xSL o q z' hx])
 ·show vO[iN[xEn e e b]] q;by_cases hb:b=e
  ·show Zw hb ad q' q'
  ·show xwA UG q'[xKU b q']
 ·show vO[TD[xEn e e b] oE] q;by_cases hb:b=e
  ·rw [hb] at q' ⊢;show xwA ad q' q'
  ·show xwA UG q'[x1l o u q']
 ·show vO[TD[xEn e e b] rZ] q;by_cases hb:b=e
  ·show Zw hb ad q' q'
  ·show xwA UG q'[xKV b q']
 ·show Θ[zB e _ X.env.locals];show Δ[MJ n.loc] I.free
 ·show Δ[n.cel x c ec][xVP ec]
 ·show ZQ a1 a2 a3 xHh a1[Δ[n.pin p hp] a2] a3
 ·by_cases ha:a=e
  ·show(FD ha ad q q,Dj g _ g)
  ·rw [aj ha] at q;show DC nt[∀b u,xQl->Vy][λ b u r z=>FZ n.h r r][xFu a o q[λ b u _ r=>r][λ b r=>Δ[nt b _ r] r][λ b xs r=>Δ[nt b _ r] r]]
def Inv.unhand {σ:St}{σ1:St}(I0:Wp)(n:xVg H e)(I:xzJ[xFd e[xzR e[XI o e]]] σ1 H1 s1):oG σ1 H1 s1:=by
 show A3 VQ[∀b u,uV xZ9->Vy][λ b u q z=>xQi q q] tr[∀b,Vy->(xFd e[xzR e[XI o e]]).H₀ b=yd5][Bm UG] (I0.ok,I.os,I.bare,(λ b u q z hb hx=>yfB u q[xL4 b[VQ b u q] z] hb hx,λ b u q z hb hx=>I.base.slot b u q[xL4 b[VQ b u q] z] hb hx,λ b u q z hx=>xSL u q[xL4 b[VQ b u q] z] hx,I.base.there,uS b xs,λ b u v q=>?_,uS b ps),I.loc,I.cell,I.free,I.freeC,I.pin,I.hok,I.len)
 ·show(pY[xKU b[xPR b A4]][I0.base.tups b xs q],Tg n.h)
 ·show(pY[x1l u v[xPR b A4]][I0.base.frzs b u v q],Tg n.h)
 ·show(zJ[xKV b[xPR b A4]] m this[I0.base.tbls b ps q],Tg n.h)
def Inv.nameGoes {σ:St}(I:Wp)(hN:X.N.Nodup)(hi:AD X.N y)(hl:xTb y)
    (h:∀s',oG x3j H s'->xYG):An[do yip y .none;ygb y pos]:=by
  show(Sc hiσ[i<σ.length][LT I.len[ZZ hi]] Yv[X0[x0Z .class||(x0Z .module&&X.env.locals !=X.env.globals)]][Ar I.ok.kind],SC hk[x1h y .local] hl[IX[wpAny_bindName[xtH (v:=.non) I hN hi x28 rfl[UF s1 I1][.inr hl]]]])
  unfold unbindBehindTheSuite
  show(wpAny_onRaise ?_,gD unbindName[wpAny_point[IX ?_]])
  unfold deleteName
  simp only [hk,Yv]
  show(w8 Z9,XH m hn hm[id I1.loc] u ru lk[hm i y .non hi[by rw [x4j]] x28],qm hmy[uV[m y]][by
    rcases lk with⟨_,q⟩|⟨q,_⟩
    · show HL
    · rw [hk] at q
      rcases q with q|q<;>cases q][IX[wpAny_nsDel_keeps hn λ h2 v TK TJ=>?_]] hmy)
  simp only [if_true,Option.isSome_some,Bool.not_true,LH,Og]
  show(Jr[wpAny_point x8h],(oL,_,_,hoL,_)=id hn,SC VQ[∀b o,xH3->zf][λ b o e=>xXB I1.ok.above] (I1.ok,I1.os,I1.bare,(λ b o e n hb hx=>x6 TJ b[xJJ e][I1.base.keep b o e n hb hx],λ b o e n hb hx=>?_,I1.base.free,λ b o e hx=>?_,I1.base.tups,I1.base.frzs,I1.base.tbls),CS TK[λ j z v' e1 e2 e3=>?_],fK z c,I1.free,I1.freeC,wc,y8 ob,yaD))
  · show aw sl e1[I1.base.slot b o e n hb hx] sl[x6 TJ b[xJJ e] e1]
  · show aw o' e1[I1.base.there b o e hx] o'[x6 TJ b[xJJ e] e1]
  · show(UN hj[j≠i][EA[Zw q x4j e2 e2]] x71 e2,Dq u' r' q[hm j z v' e1[LT x71 e2] e3][Cm u' r'])
    rcases q with⟨kk,e⟩|⟨kk,c,e,zz⟩
    · show xVB[FQ kk]
      have:z≠y:=EA[hj[xqr hN e1[q▸hi]]]
      simp [this,e]
    · show DM (kk,c,e,zz.sameBut TJ[I1.cne z c e])
  · show aw w' q[I1.cell z c e] w'[q.sameBut TJ[I1.cne z c e]]
  · show DR e n ne nf d[I1.pin p hp] (x6 TJ BS ne e,n,ne,nf,d)
  · refine(I1.hok b ob e).stay[λ c w' hc q=>x6 TJ c A4 q] xZr xCe
    rcases hc with hc|hc
    · rw [<-hc,z,I1.free] at e;show xCN
    · show FZ I1.free hc hc
def xoW (i:Nat)(D:Ends):Ends:=(λ σ H=>D.nx x3j H,D.rt,λ σ H=>D.bk x3j H,λ σ H=>D.ct x3j H)
def xex (K:Frag)(D0:Qq)(i:Nat)(tb:St->XK->TS)(th:TS):TS:=λ D σ H=>
 tb σ[λ cls _ H'=>∃C,cls=C4/\yM C/\C≠D0/\iG[xBh C xUO]/\
  ∀e vs,Θ[H' e]->th[xoW i D][xSU[π e]][jZ H' e iF e]] D σ H
def xc4 {s:Qu}(RQ:xXE)(Yb:xTq)(hX:X.ex=[])
  (hb:xGv[xyN X cy σ W D'] tb) (I:Wp) (h:tb D σ H)
  (k:∀(ea T:Qq) (cls c:Qr) (H':Hp) (s1:Qu) (vs ts:Hb) (oT:QB),D' c->WG H' ea->EN b[c=Bh->xY7 b]->W cls none H'->xwf s1.heap ea cls [ea,T] c->F7 s1->xCp ea->xCp T->TD[s1.heap.get? ea] UD->(xEp 2 c/\xDA)->vs[1]?=π T->T≠ea->TD yao oT->oT.data=x2e->xLk ts 3->sS[handleBy xA4 X.env[h₀::hs]] xMQ s1):
  zw[yey[xUB[h₀::hs] [] [] pos]] xMQ:=by
 refine yah[hb [] s σ H D[I.lift _] h][uS f s1][uS e s1]
 ·show vO[xJG s1][xwm.unlift q];cases f with
  |next=>exact Ng q'
  |brk=>show cZ
  |cont=>show cZ
  |ret u=>show cZ
 ·show((ea,cls,fp,H',rfl,I1,(c,dc,F,bk,bn),fr,q)=q,Sc I1[F7 s1][Inv.unlift I1] fr[rG[xCp b]][Bm[let n:=xZN;(n.s0,n.h,n.loc,n.cel,xN5 xLf)]],SC hf[yb4 x9K][RQ▸I1.ok.frames][xo3 hf[RQ▸I1.stack] Yb F λ h' T F' hT f3 f4 f5=>?_])
  obtain⟨vs,ge,z2,⟨_,r⟩|⟨T',oT,ts,v1,neT,gT,dT,zT,r⟩⟩:=id F'
  ·show iY
  ·show CR r[k ea T cls c H' _ vs ts oT dc bk[λ b e=>let n:=xPX;(n.s0,n.loc,n.cel,xN5 xLf)] q F'[yj1[LT RQ f3] f4 f5][fr ea F.here][I1.new[by
    cases z:yao with
    |none=>rfl
    |some o=>show tN[xHn z hT]] yhe[Di hX]] ge z2 v1 neT gT dT zT]
structure ExI (K:Frag)(C:Qq):Prop where
 ga:xEv "__getattribute__"[xTf "BaseException.__getattribute__"]
 gt:x8N "__getattr__"
 hd:Ty x8o
 ha:xEv "__class__"[some xvX]
 hn:TD[specialIn K xvX "__get__"][some xSC]
 htk:iG[takesIn K xvX]
 hm:iG[xBh C xTk]
 be:iG[xBh C xKg]
def xiJ {os:OsState}(L:Looks M h[isInstance E4 xKg] true)
  (hq:xL6[xDj h g d t]):jq[checkBuiltinCall "BaseException.__getattribute__"[sG [E4,nv]]] Q[xDj h g d t]:=by
 show(Sc hk[TD[builtinKind "BaseException.__getattribute__"] .slot] Z8 YH[TD[splitId "BaseException.__getattribute__"] (("BaseException","__getattribute__"))] Z8,ha=PySem.F.args_bexc_ga E4 nv);simp only [checkBuiltinCall,hk,YH];show Gp[L.at ?_]
 repeat (first|exact hq|wp_step)
def xam {os:OsState}{K:Frag}(Y:gR)(I:x45 h ox C none)
  (L3:Looks bM h[Builtin.ObjectAttr.find E4 C4 "__class__"][.bind xSC xvX]) (hm:iG[xBh C xTk])
  (hq:Q[ycO C4][xDj h g d t]):xFM[Builtin.«object.__getattribute__»[sG [E4,.str "__class__" tk]]][xDj h g d t]:=by
 show(L0=I.type (M:=bM),qc[xHp yG][Jr[IX[L0.at[IX[L3.at ?_]]]]],V' _[xVe[Value.builtin "object.__class__"][call xSC [xvX,E4,C4]]>>= ret] _,xNM[OJ[PySem.W.class_get Y I hm[Jr hq]]])
def xip {K:Frag}(c:oC C)(Y:o8)(I:x45 s.heap ox C none)
  (h:Q zl xWs):uc[getAttr? E4 "__class__"]:=by
 show((hf:TD[findObj K C none "__class__"][.bind xSC xvX])=by
  show yez hc yeW;unfold findObj;rw [hc,Option.bind_some,c.ha,Option.bind_some];simp [c.hn,c.htk],(hh,g,d,t,os)=s,Hs L0[I.type (M:=bM)] L1[NZ (M:=bM) Y c.ga] L2[NZ (M:=bM) Y c.gt] L3[PySem.W.looks_find (M:=bM) Y I hf],L4=PySem.W.looks_mroIn (M:=bM) Y c.be);unfold getAttr? getAttrBy? getAttrBy;show(Gp[wpAny_mkText[IX[Nu[KW[IX[L0.at[IX[L1.at ?_]]]]]]]],V' _[getAttrByItsOwn _ _ _ _ _ _] _);unfold getAttrByItsOwn;show(qc[show wpAny _ _[typeLookup C4 "__getattr__"] _ _ _ from L2.at ?_][Nu x76],V' _[boundAndCalled _ _ _] _);unfold boundAndCalled;show(xz4[ybj[PySem.F.attr_ValueError.ga.bind _]][OJ[codeAny_call_builtin PySem.F.attr_ValueError.ga.plain PySem.F.entry_bexc_ga ?_]],xiJ[L0.andThen L4][xam Y I L3 c.hm ?_],V' _[handedOut C4] _,Bw[Jr h])
def xaX {K:Frag}(c:oC C):KitX K E4 C4[jl[x45 h iF C none]] where
 ty:=λ _ _ _ I=>I.type
 it:=λ M h Y _=>by
  show yez hc yeW;unfold clsIn at hc
  split at hc
  ·rename_i ho
   intro A' Q' E' s' k q;unfold isType loadHead;exact IX[wpAny_loadPart[bD[Y _ _ ho]][Jr q]]
  ·cases hc
 ne:=λ h tp dd its n sl Y htp=>by
  show(yez hc yeW,DK[Bool.eq_false_iff.mpr[Hy q]] e[C=tp][Value.ref.inj[Kb.mp q]],DD);unfold clsIn at hc
  split at hc
  ·rename_i ho
   show(xLc z[Y _ _ ho] htp,xCO)
  ·cases hc
 ca:=λ Y I k=>xip c Y I k
def xiZ:Qr->V
 | .ref a=>AO
 | .type n=>.ty n
 |_=>.non
def xhw:x1i X[λ xs H Q=>∃a C vs c b,xs=zR[xiZ c]/\CU n[c=.ref n\/X6[c=yeA]]/\lD[XI iF a]/\ExI X.K C/\SS[kitOne X.K C4 c]/\xJz]:=by
 intro QD s σ H xs us Q I r h;show((a,C,vs,c,b,rfl,hc,hf,ci,e,q)=h,xZ8 u v ru rv[xs9 r]);cases ru;have ev:v=c:=by
  obtain⟨n,hc|⟨t,hc⟩⟩:=hc
  ·show DN hc rv
  ·show DN hc rv
 subst ev;show((g,_)=F8 a hf,xKK[xaX ci][sV g rfl trivial] e Ab λ tk=>Xw iW[I.tok tk] q)
def xn0 {K:Frag}{g:TG}{tt:TT}{te:TE}{R:xvW}(Pv:DQ xHo)(h0:Pv 0 [] kB)(hl:∀i ys H,WH->U8->VH)
  (hs:∀i x ys σ H,ue->U8->xRl->Vo[xIm[λ c H5=>xJ4 c[λ y H4=>zh=de/\XU/\xUI n/\Pv[i+1] xBG xUH][xUI n/\Pv[i+1] ys H5]]])
  (hd:∀ys H,ybh H->R H) (mg:∀x σ H (A B:EE),uN[x7s->x7t]->Vo A->Vo B) (mtt:∀σ H (A B:xw5),(uq v[xR4->xR5])->xXP H A->xXP H B) (mt:∀σ H (A B:VK),(uq v[xR4->xR5])->ZJ A->ZJ B):
  Ek[Sy->EE][xY9/\∀i m ys σ' H',jD->
   (ik vv H'/\R H')\/(gX vv H'/\∀x H2,YA vv H' x H2->xDU[xIm[λ c H5=>xJ4 c[λ y H4=>
    zh=de/\XU/\bY[m'<m/\lK[i+1]]][bY[m'<m/\xLM[i+1] ys H5]]]])]:=by
 show yI[λ i m ys σ H=>m=xQV/\WH/\xRl/\U8] (xs.length,Z6,B1,JQ,h0);rintro i m ys σ H ⟨rfl,hi,hn,p⟩;show YC[xDh ys H hi p];by_cases QF:rQ
 ·show(zJ[xR7 (xs,xs[(i)],q,xVn)] e y y,DD,mg _ _ _ _ _[λ σ3 H3 z=>mtt _ _ _ _[Μ c H5 z] z][xDi x ys σ _ xXK p hn]);cases c with
  |true=>
   show xwA CD z[mt _ _ _ _[λ y H4 z9=>C5 z1 z2 z3 z4 z9[Hx z1 z2[p9[i+1]] we QF z3 z4]] z]
  |false=>
   rw [Jk JF] at z ⊢;show Z0[p9[i+1]] we rfl QF u6 VJ
 ·show HP xN8 xBA[Zp[xHv q ρ][hd ys H p]]
universe L2
namespace L2
open PySem
def xcr {dV kV doc pm QE ct oc:Qr}
    (lk:xZ2[x4Q dV kV doc pm an QE ct]) (Ue:xZS QE) (S:xyi N ps scope)
  (len:∀vs H Q E,qA->wu)
  (Vh:∀(A:Qy) (outer:rk) (s:Qu) (H:Hp) (vs:Sy) (Q:VK) (E:XK),qA->
   X6[xGv[ur CX P w K mg N f QE A outer s H E] t/\xEo]):
  uM P w K CX 0 f[x4Q dV kV doc pm an QE ct] ps sp:=by
 show(ZU len[λ A outer s H args us vs Q E hr e0 hb r Vd=>?_],DF hl[len _ _ _ _ Vd] KX o8[e0.mod.kin.keeps λ b o e=>(x4n o e).1] lim s.heap.NoLimit[e0.mod.nolimit.keeps λ b o e=>(x4n o e).1],(SQ:Ee xLx[x0R Vx\/(x5n Vx/\FY[(x9E Hl []).lookup Vx])])=λ⟨n,v⟩ hy=>by
  rcases S.par n (Oq hy).1 with q|q
  ·show DZ q
  ·show DM[xPO[OE _ _ _[.inl q]]],ω[yfX[KX _ _ lk] rfl S.co S.gen rfl[yi5 Ue][xCr _ _ _ ?_]][yfR SQ λ env he s1 x=>?_])
 subst he;show(XX (ygg,yh1) t ht hq[Vh A outer s H vs Q E Vd],SC I[xBV[ur CX P w K mg N f QE A outer s H E] xLE H s1][xnj S e0 hl r x][KR[ht [] s1 xLE H _ I hq][xEr fl hs] λ e s' hs=>hs],(fin:∀{σ'} {H'} {v} {u},xBV[ur CX P w K mg N f QE A outer s H E] σ' H' s'->eh->xJk->yea P w H s Q u s')=λ {σ' H' v u} J rv q=>(v,H',J.os,J.bare,J.base,J.hok,rv,q))
 cases fl with
 |ret u=>
  show((v,σ',H',J,rv,q)=hs,fin J rv q)
 |next=>
  show C5 σ' H' J q hs[fin (v:=V.non) J rfl q]
 |brk=>
  show(x0N q,XZ q)
 |cont=>
  show(x0N q,XZ q)
def xyE.ok0 (F:Bq x qual st)(S:XL N ps st)
  (Vh:∀(QE:Qr) (A:Qy) (outer:rk) (s:Qu) (H:Hp) (vs:Sy) (Q:VK) (E:XK),qA->
   let X:=(xFF QM P w K mg N AY f QE A outer s H E).nox;X6[xR0/\xEo]) (len:xLi[∀vs H Q E,qA->wu]):xI3 0:=by
 show((oc,od,kV,doc,pm,an,QE,ct,osl,rfl,lk,Ue)=F.ex,xcr lk Ue S len λ A outer s H vs Q E Vd=>?_,ZQ t h q[Vh QE A outer s H vs Q E Vd] t h.nox q)
universe L2
namespace L2
open PySem PySem.Spec PyProof.Rows QQ
def aq (h:∀R:EE,(∀σ H,u D σ H->R σ H)->Sr {D with nx:=R} H):xwc t u D σ H:=h[u D] xLI
def xq3 {X:Cx}{K:Frag}(hK:X.K=K):xXN[rIxT K]:=DN hK xlN
inductive rNeL (K:Frag) (x:V) (y:V) (H:Hp) (Q:VK):Prop
 |mk (p q:Qq) (ns ms:Za) (h0:x=FR) (h1:y=ig) (h2:xQ5 p) (h3:vB q yav) (h4:wo[! CG ns ms]):rNeL K x y H Q
def xfU {X:Cx}(hu:xO3):x2Y[rNeL X.K]:=by
 intro QD s σ H x y v u Q I rx ry h;show((p,q,ns,ms,rfl,rfl,h1,h2,k)=h,xHi,kW rv pl h1,C5 Rm YN X9 Vc x2N[PySem.W.ne_intsK pl.isList x7z X9.isList[xro YN] hu[Xw[.bl _] I k]])
def xxj (xs)(k:Nat):xVy none[some xu]=xs.take k:=by
 show(xwF,[HT.xu1,HT.RG,Lv,MM]);by_cases h:xEI k
 ·rw [J9 h]
 ·rw [LN[O3 h],Ki,Jo[O3 h]]
def xxl (xs)(k:Nat):xSM xs xu none=xs.drop k:=by
 show(xwF,[HT.xu1,HT.RG]);by_cases h:xEI k
 ·rw [J9 h,<-Je,Ki]
 ·rw [LN[O3 h],P7,List.drop_of_length_le[O3 h],List.take_nil]
def xyg (xs:Sy){m n:Nat}(hm:YJ m)(hn:xEI n):jv xs m7[ST n]=Ew[xs.drop m] n m:=by
 show(xwF,[HT.RG,HT.RG,J9[show xEI m from IY hm hn],J9 hn])
def xys {a x:Str}{b c:Qq}(h:xAa x [((a,b))] c):x=a/\c=b:=by
 show HG List.lookup_cons;cases hx:x==a with
 |true=>show Ε hx h (eq_of_beq hx,xGg h)
 |false=>show AQ hx h h
def none_of (s:Χ)(h:Θ[H' q]):B7 q:=by
 cases e:H q with
 |none=>rfl
 |some o=>show AQ xPE h h
def am (h:Vu):gk[zB p o]:=λ b u e=>Eh h e
def xhQ:∀x,xMa x->Ty[xIQ x]:=by
 intro x h;cases x<;>simp [flatV,eqV] at h ⊢
def xab {X:Cx}{QD:Κ}{σ:St}{H:Hp}{s:Qu}(I:Wp){a b:Qq}{xs:Sy}(ha:xBF a xs)(hb:xBF b xs)(fl:Ty yaX){A:Qy}(hu:A.units<cLine):x1B s AO Bh true:=by
 by_cases e:a=b
 ·show yA[.same _]
 ·show(aV rv pl hz ha,(Rm,YN,X9,Vc)=I.tuple hb,ju l1 rv.length l2 YN.length[.of_refs e ?_],R=SeqAt.RcAt.tuples (A:=A) (e:=RB) (x14 a pl)[x85 b Rm.toArray X9] hu[Μ j h1 h2])
  ·show(Wv[IC[yjc[min its.toArray.size Rm.toArray.size] RB&&its.toArray.size==Rm.toArray.size]][by
    rw [Jj,Jj,<-l1,<-l2];simp],Ε e2 R R)
  ·show((j1:xQf)=by show(x4R,yc [_,_,_] tF Φ xTO h1),XH u1 e1 r1[xH9 j xs[(j)][by simp [j1]]] u2 e2 r2[ydJ j (x:=xs[(j)]) (by simp [j1])],Sc g1[xT2 j=u1][by
    show(xEX z e1,zk)] g2[x2O j=u2][by
    show(xEX z e2,zk)],(f1:xMa xs[(j)])=Qa.mp fl _[KZ j1],[g1,g2,-xhQ _ f1],xux r1 r2 f1 f1)
def xsO (K:Frag)(H:Hp)(p q:Qq):Prop:=∃ps qs:AH,vB p xTz/\vB q[qs.map V.ref]/\ps.length=qs.length/\∀(i:Nat) (a b:Qq),AD ps a->AD qs b->∃xs:Sy,xDM/\w4 b xs/\Ty yaX
def xnX {X:Cx}{QD:Κ}{σ:St}{H:Hp}{s:Qu}(I:Wp){p q:Qq}(h:xsO X.K H p q){A:Qy}(hu:A.units<cLine):∃its Rm:Cb,yiR/\s.heap.IsList q Rm.toArray/\x89 Rm.toArray.size/\∀j (h1:j<its.toArray.size) (h2:j<Rm.toArray.size),x1B s[xT2 j][x2O j] true:=by
 show(xv0 ps qs h1 h2 hl hi,kW rv pl h1,(Rm,YN,X9,Vc)=x2N,Tl l1 rv.length l2 YN.length);rw [IS] at l1 l2;show((its,Rm,pl.isList,X9.isList,by show([Jj,Jj],BW[G6 [_,_,_,_] gs[BE DG] SL yq xTO[IR l2]][Bx [_,_,_,_][BE DG] gs SL Re Rd[IR l1][IR l2.symm]]),Μ j j1 j2),Sc k1[j<ps.length][by simp at j1;show yc [_,_,_] tF Φ xTO j1] k2[j<qs.length][CM [_,_,_] tF Φ SB SL yq k1],XH u1 e1 r1[xH9 j[.ref ps[(j)]][by simp [k1]]] u2 e2 r2[ydJ j (x:=.ref qs[(j)]) (by simp [k2])],xYf);cases r2;show(Sc g1[xT2 j=.ref ps[(j)]][by
  show(xEX z e1,zk)] g2[x2O j=.ref qs[(j)]][by
  show(xEX z e2,zk)],x7x q1 q2 fl[hi j ps[(j)] qs[(j)][by simp [k1]][by simp [k2]]],XV g1 g2[xab I q1 q2 fl hu])
inductive rNeLT (K:Frag) (x:V) (y:V) (H:Hp) (Q:VK):Prop
 |mk (p q:Qq) (h0:x=FR) (h1:y=ig) (h2:xsO K H p q) (h3:Fc XS):rNeLT K x y H Q
def xbj {X:Cx}(hu:xO3):x2Y[rNeLT X.K]:=by
 intro QD s σ H x y v u Q I rx ry h;show(vP p q rfl h k,xHi,(its,Rm,pl,X9,hz,he)=xnX (A:=X.A.in1) I h[by show x88 1<_;show tS [_,_] xM3 PL hu],ω[SeqAt.RcNeAt.lists (e:=RB) pl X9 hz[xGe xM3 hu] he _ _ _ _ ?_][yk XS I ?_ k]);show xAh=xAh;simp
inductive rEqLT (K:Frag) (x:V) (y:V) (H:Hp) (Q:VK):Prop
 |mk (p q:Qq) (h0:x=FR) (h1:y=ig) (h2:xsO K H p q) (h3:xCk):rEqLT K x y H Q
def xbT {X:Cx}(hu:xO3):x7d[rEqLT X.K]:=by
 intro QD s σ H x y v u Q I rx ry h;show(vP p q rfl h k,xHi,(its,Rm,pl,X9,hz,he)=xnX (A:=X.A.in1) I h[by show x88 1<_;show tS [_,_] xM3 PL hu],ω[yiq RB pl X9 hz[xGe xM3 hu] he _ _ _ _ ?_][yk x5 I ?_ k]);show xAh=xAh;simp
def xvw (hb:xGv X.nox tb):ki[xUB[h₀::hs] [] [] pos] tb:=by
 intro QD s σ H D I h;show DK[yah[hb QD s σ H D[I.wish _] h][uS f s1][λ e s1 q=>q.elim]] q'[xJG s1][xwm.unwish q];cases f with
 |next=>exact Ng q'
 |brk=>show cZ
 |cont=>show cZ
 |ret u=>show cZ
universe L2
namespace QQ
open PySem PyProof.Rows
def xgx {items}(hq:xDB)
  (hit:x9B l i) (hl:x9T l) (hx:Θ items[i]?)
  (hE:∀h' e,xZk->CU o[p6 e o/\ui x0B]->x0e e Zf):
  uc[Builtin.SmallTypes.nextOf pj]:=by
 show((o,ho,hc,hd)=x6A,(ol,hol,_,nl,hdl)=hl,gD Builtin.SmallTypes.nextOf[yaC Oy[yhy Oy ?_ ygu]],Xp[xwL 0>>= _] ho hd,xEu[xAe l] _ _,w8[xXI[IC[xAe l]] JF],Xp[xwL 1>>= _] ho hd,oP[xLF Ct _],Gp[N5 hol hdl ?_],x3e JH hx[Nf[IX[Mt ho hd Z6 ?_]]],χ sb1[x84 (h:=s.heap) it][ycM[λ a o' us e d' z'=>yaU o'[xuw ho hd Z6 e d' z'] e][λ h' e k he=>?_]],hE _ e[λ b ob hb e1=>xCn[yaV ob hb e1]] he)
universe QQ
namespace L2
open PySem PySem.Spec PyProof.Rows QQ
universe L2
namespace QQ
open PySem PyProof.Rows
universe QQ
namespace L2
open PySem PySem.Spec PyProof.Rows
def xyJ (lo c:Int)(n:Nat):It:=(λ i _=>i<n,λ i H x H'=>H'=H/\x=.int[lo+i*c],λ i _=>IA n)
def rc {K:Frag}(it)(lo c)(n):xWD w K tg[xyJ lo c n] [it] it[λ i h=>xTv h[lo+Zx i*c][BU-Zx i] c] where
 mem:=Z6
 obj:=λ i h st b hb=>HP[b=it] A7[CS st[λ v z=>by
   show((z':xU3 _ ybx)=z,xBJ)]]
 keep:=λ i h h' st k=>k it Z6 _ st
 item:=by
  intro X hP hw hK hc i QD s σ H E I hf st hg;subst hP hw hK;show(o1 f0 f1 f2 f3 f4 f5 it Z6,yf9[by have:i<n:=hg;omega][qr YL sb],Sc st'[xTv h'[lo+VF*c][BU-VF] c][by
   show(G9[lo+VF*c=lo+xJ*c+c][xIE[CA VF[xJ+1]] Int.add_mul][BU-VF=BU-xJ-1] Z5,XV e1 e2 YL)] I1[Zu[mI h' xMw]][eO[λ b o hb e=>ybv o hb e]],BK[xs7 st' rfl rfl Z9 (.int[lo+i*c],H,I1,Gs s.toks,qg,st',xQ6 vS)])
 done:=by
  intro X hP hw hK hc i QD s σ H E I hf st hg;subst hP hw hK;show(o1 f0 f1 f2 f3 f4 f5 it Z6,QQ.xkq I.hq st[cw[IA n] hg] λ h' eb=>ZV[eO[λ b o hb e=>eb b o hb e]])
 self:=xT5 h[yge h]
inductive xma (R:jG) (vs:Sy) (H1:Hp):Prop
 |mk (i j c:Int) (n:Nat) (h0:vs=[Dz,D8,x2p]) (h1:FL 0) (h2:Ty[Builtin.Range.small i j c]) (h3:ygj j c=BU) (h4:AG[Builtin.divisionGoesByPylong[j-i] c]) (h5:R[xyJ i c n] H1):xma R vs H1
def xdJ (ta:TA):TI:=λ σ H R=>xVR vs[xma R vs H1]
def xix {X:Cx}{tg:QA}{p pos:Pos}(hg:ycA)(hm:ycD)(ha:Gu [a,b,c] ta)(hs:AJ[xG [a,b,c]=[sH a,sH b,sH c]])(TJ:AJ[xG [b,c]=[sH b,sH c]]):
  xZX[xVl "range" p [a,b,c]][xdJ ta]:=by
 intro QD s σ H R I h;show(kA[Call_[yca I[L9 xQZ[by rw [hs,TJ]][Ar TJ]]]] vs H1 I1 r1 q1,(i,j,c,n,e,h0,h1,h2,h3,q)=q1,DD);cases r1 with
 |cons r rr=>
  cases rr with
  |cons r' rr=>
   cases rr with
   |cons r'' rr=>
    cases rr;show(gC r,Ik t' r',Ik t'' r'',ω[call_range_3 h0 ?_[.inl h3]][yf1 .. h1 ?_],SC I2[oa H1 {s1 with heap:=s1.heap.push[xUK #[j7,D8 t',x7k]],toks:=s1.toks}][I1.kept λ b o e=>qH] (x9p[xUK #[j7,D8 t',x7k]],[x9p[xUK #[j7,D8 t',x7k]]],_,_,H1,rfl,
     I2.kept λ b o e=>qH,rc _ i c n,?_,qE,q))
    ·show G9[i+xDq*c=i] Z6[BU-xDq=ygj j c][pI h2]
     show yi3 _[i+xDq*c][BU-xDq] c;show XV e1 e2 BH
    ·show HP[b=x9p[xUK #[j7,D8 t',x7k]]] A7[I2.fpOk ρ yhN]
def xgE {lo c:Int}{g:TG}{tb:TS}{D:Ends}(Pv:xYv)(h0:E1 0)
  (hs:∀i σ H,i<n->T2->g[.int[lo+i*c]] σ H[Ry D[Pv[i+1]][Pv[i+1]]]) (hd:∀σ H,E1 n->tQ):
  Ek EE[xYP H/\∀i m σ H,xYO H->
   (ik[xyJ lo c n] H/\tQ)\/(gX[xyJ lo c n] H/\∃N,uN[xPo->bY[m'<m/\xZC[i+1] H']]/\uq x[YA[xyJ lo c n] H x H'->xYJ[Ry D N N]])]:=by
 show yI[λ i m σ H=>m=n-i/\xRs/\T2] (n,Z6,B1,h0);rintro i m σ H ⟨rfl,hi,p⟩;by_cases QF:i<n
 ·show zJ[ja QF[Pv[i+1]][λ σ' H' p'=>jE[n-(i+1)] we QF p'] xXC] e y y;subst e y;exact xDi σ _ QF p
 ·show HP[i=n] xBA[Zp ρ[hd σ H p]]
universe L2
namespace L2
open PySem PySem.Spec PyProof.Rows QQ
def xc6:TE:=λ _ H Q=>∀p,Vu->lR[zB p xMG]
def Inv.bigM {X:Cx}{QD:Κ}{σ:St}{H:Hp}{s:Qu}(I:Wp):yjD:=DC h yiG (I.ok.mod.glob.keeps I.bk).lt[MN Z9 h]
def xiM {X:Cx}{pos:Pos}:AN[.Dict [] [] pos] xc6:=λ QD s σ H Q I h=>
 wpAny_Dict_empty[ya qx[I.laid (a:=s.heap.objs.size) (o:=xMG) (t':=s.toks) (xTc TM) ρ (B1,MU.mpr[MJ[Kf I.bigM]],[],.nil,Heap.DictOf.new s.heap)][X3 Am]]
def xnH {X:Cx}(hc:bu):cS X "all"[λ xs H Q=>∃(p:Qq) (n:Nat),xs=Cg/\xJt[xv1 x5]/\xCk]:=by
 intro QD s σ H xs us Q I r h;show(yV p n hq q,lE u rx r,Z2,xEk rv,(QF:xv4 p)=by show((_,e,_)=pl.isList,gL),Dd hl rv.length JQ hl,ω[call_all_walk yiS] (s.heap.objs.size,[s.heap.objs.size,p],[s.heap.objs.size],its.toArray.size,_,_,RB,rfl,Walks.list (A:=X.A.in1) hc _ p[Kf QF] its.toArray,
  (x8L,pl.isList.push _),λ i v s' Q' E' hP hQ=>?_,qr tk hk))
 ·show((hi:i<n)=by
   have:=ZZ[show AD its v by show xTS];show yc [_,_,_] tF Φ Rd this,xFT e r[xH9 i x5[Vr MF hi]],xQ[v=u][by
   show((hv:AD its v)=xTS,lG hv[xGg hv])],CR r[LC hQ])
 ·show(C7[IC[yjc its.toArray.size RB]] Z6,xCQ,DC kept[∀b o,DA->Et][λ b x e=>hk b x[λ hm=>Ε[JC.mp hm] e[xFG FU]] qH][Xw x5[x9k tk kept] q])
structure MkB (K:Frag)(C:Qq):Prop where
 makes:xFC K C
 init:xFr K C4[some xSJ]
 kp:xv2 K C4
def xcV (C:Qq):TE:=λ _ H Q=>∀x dx,B7 x->B7 dx->dx≠x->Q E4[mQ[xw3 dx x] x C []]
def xtO (M:MkB X.K C)(hg:uj)(hm:yF=zl)(Xa:t8):dj x p [][xcV C]:=by
 intro QD s σ H Q I h;show(ω xPJ[yec M.kp ?_],ju I2[Inv.made (C:=C) I] hq[yi4 Hl yhR Am[Kf QI]][OJ[xir I.kIn M.makes M.init[λ self=>Looks.of_pure[PySem.W.oi_bind self]] ?_]],DF Y[P9 (M:=xFs) I.kIn M.makes] e2[VA xG3 Hl xUA][by
  have:=JW xSy (o:=xUA) rfl
  rwa [N4] at this] t1[Looks xFs xG3[typeOf xMi] C4][(Looks.ld e2).andThen .now],SC t2[Looks xFs xG3[isInstance xMi xTk] true][t1.andThen[Y.top.keeps λ b o e=>Ze qH]][codeAny_call_builtin PySem.W.oi_plain PySem.W.entry_oi[@PySem.W.check_slot xFs _ _ _ "object.__init__" "object" "__init__" xMi [] [] _ PySem.W.oi_kind PySem.W.oi_split t2[PySem.W.oi_args xMi] ?_]],LT oi_run[Jr[And.intro rfl[ya xMi I2 hq]]])
universe L2
namespace L2
open PySem PyProof.Rows
theorem xfP (a f):yhf F5 xEb=(do
    let items<-Builtin.List.listItems[.ref a]
    Builtin.List.listUpdate[.ref a] λ _=>#[]
    let before<-seqEpoch a
    let held<-newTuple items.toList
    let keyStore<-newList []
    holding [held,keyStore] do
      rule "list.sort.key"
      for x in items do
        match<-(call[.ref f] [x]).attempt with
        | .ok k=>Builtin.List.listUpdate keyStore (·.push k)
        | .error e=>
          rule "list.sort.key-raised"
          let made<-Builtin.List.listItems keyStore
          Builtin.List.listUpdate keyStore λ _=>#[]
          letGo made.toList.reverse [e]
          Builtin.List.listUpdate[.ref a] λ _=>items;throw e
      let keys<-Builtin.List.listItems keyStore
      let kind<-if items.size<2 then pure general' else keyKind' keys
      let(((),s))<-(if items.size<2 then pure () else sortRuns').run[SortSt.mk' kind[keys.zip items] #[] 7 none]
      let sorted:=(arrOf s).map (·.2)
      Builtin.List.listUpdate keyStore λ _=>#[]
      letGo ((arrOf s).map (·.1)).toList (failedOf s).toList
      let touched:=(<-seqEpoch a) !=before
      Builtin.List.listUpdate[.ref a] λ _=>sorted
      if let some e:=failedOf s then rule "list.sort.comparison-raised";throw e
      if touched then rule "list.sort.modified";raiseError "ValueError" "list modified during sort"
      ret .none):=by
  first|rfl|(fail "not by rfl")
def xfk (a v):argsOk "list.sort" (uP,[ydV v]):=by unfold argsOk;kernel_rfl
def xfC (a v):argsOk "sorted" (uP,[ydV v]):=by unfold argsOk;kernel_rfl
def xht (h:xOV):IntsAre[vs++[Ud n]][ns++[n]]:=by
 induction h with
 |nil=>exact xMf n t
 |cons m u _ ih=>exact .cons m u ih
def xtZ:∀v,(seqObj c xs n).data≠ xGx:=λ v h=>xy
def Inv.turn {σ:St}(I:Wp)(fa:jM a):xYr[yfF g]:=
 I.turned[λ b o hb e=>xD6 hb e] fa.1[AV fa][eA fa][Fn fa][xBP fa]
universe L2
namespace L2
open PySem PyProof.Rows QQ
def Inv.adopt {σ:St}(I:Wp)(fa:jM a)(rv:xCg)(hz:wx)
  (ho:Ii a[xTp n]):oa[oX a xs] s:=by
 show χ hn fa.1[ycP uP qE[λ b o _ _ _ e _=>e][λ b o _ _ _ e _=>xFm e][λ b o hb e n=>?_][λ b o _ e=>xZA e][y8 ys][λ b o u e=>?_][λ b ps e=>FQ #[]][λ m hm=>hm][y8 u] I.bare]
 ·show xEg (eA fa,AV fa,Fn fa,xBP fa)
 ·show Δ[Yz EV] n
 ·show Eh hn e
 ·show Eh hn e
 ·show nQ[oQ hn] e
 ·by_cases hb:b=a
  ·show(FD hb ad e e,xJ8 hz its n rv ho)
  ·show Ε UG e[xFu b u e[λ c v _ q=>q][λ c q=>CZ q hn q][λ c xs q=>CZ q hn q]]
inductive PR:HZ Qr Qr->BY[HZ Int V]
 |nil:PR [] []
 |cons {k v:Qr} {n:Int} {x:V} {l:HZ Qr Qr} {m:HZ Int V}:CU t[k=Ud n]->wQ->xSa->PR[((k,v))::l][((n,x))::m]
def xdm (h:x2h ks)(g:xCg):PR xAu[ks.zip xs]:=by
 induction h generalizing xs its with
 |nil=>show yx
 |cons n t _ ih=>cases g with
  |nil=>show yx
  |cons r rs=>exact .cons[Gs t] r[ih rs]
def xbK (h:xSa):Vals (m.map (·.2)) (l.map (·.2)):=by
 induction h with
 |nil=>show yx
 |cons _ r _ ih=>show xCB r
def xdn (h:xSa):x6D m.length:=by
 induction h with
 |nil=>rfl
 |cons _ _ _ ih=>exact xS4 ih
def xd5 (h:xSa):∀{i:Nat} {q},AD m q->∃t v,AD l ((Ud DO,v)):=by
 induction h with
 |nil=>intro i q hq;cases hq
 |cons e _ _ ih=>
  intro i q hq;cases i with
  |zero=>obtain⟨t,e⟩:=e;cases hq;show yA[ni t _]
  |succ i=>exact ih hq
def xjx (e1:ns=x9C)(h:xAO i):xUL i=ns[(i)]:=by
 show(i8,Ua KD h);simp [numAt,h]
def xik (hc:bu):cS X "max"[λ xs H Q=>∃(p:Qq) (ns:Za),xs=Cg/\xJt Aq/\xAO 0/\∀n∈ns,uB m ns[YJ m]->XD n]:=by
 intro QD s σ H xs us Q I r h;show(vP p ns hq RI q,lE u rx r,Z2,xEk rv,hi=x7z,x21 ys hi.allInts.items,Sc hl[x9y yi7][hx▸pl.isList] e1[ns=x9C][xF5 nums_intItems hx (BJ ygi ns hi.numsOf).symm],SC hsz[ns.length=ys.size][Di e1][max_intList hc hl[Jq RI hsz] λ v h' tk hv hk=>?_],gC[intItems_at hv],(h1,h2)=argBest_gt xUL[ys.size-1]);generalize argBest[λ i j=>decide[xUL i>xUL j]][ys.size-1]=b at*;show((hb:xAO b)=(Bx [_,_,_,_] xWq xV5 SB SL xK3 h1[NL.J'[CM [_,_][m8 Fp] WF AM SL RI[IR hsz]]]),χ eb[xjx e1 hb][yk[.int ns[(b)]][I.kept hk] (t,by rw [eb])[Ww[KZ hb][UF m hm]]],Dr j hj[Pj hm],jL[h2 j[Mf[Jq hj hsz]]][xjx e1 hj] eb this)
universe L2
namespace L2
open PySem PySem.Spec PyProof.Rows QQ
universe L2
namespace W16
def Pc.size:Rp Pc
 | .sg _=>1
 | .cp _ z=>z
def al (S:LE) (p b:Nat):ET
 |0=>0
 |m+1=>if qM=m/\S[p+m]?=S[p+m-b]? then m+1 else qM
theorem xs5 (S:LE)(p b:Nat):∀m,qM≤m
 |0=>ρ
 |m+1=>by
  unfold al;have:=xs5 S p b m
  split<;>lia
theorem xsV {S:LE}{p b:Nat}:∀{m:Nat},∀i<qM,S[p+i]?=S[p+i-b]?
 |0,i,h=>x6E al
 |m+1,i,h=>by
  show xIq al
  ·rename_i c
   by_cases e:i=m
   ·show yA ZP
   ·exact xsV (m:=m) i[LT ax[Ko[KC h] e]]
  ·exact xsV (m:=m) i h
theorem xoi {S:LE}{p b:Nat}:∀{m:Nat},(∀i<m,S[p+i]?=S[p+i-b]?)->qM=m
 |0,_=>rfl
 |m+1,h=>Fq al[Ju (xoi λ i hi=>h i[Qc 1 hi],h m[ON _])]
theorem xjq {S:LE}{p b r:Nat}(h:∀i<r,S[p+i]?=S[p+i-b]?)(hn:S[p+r]?≠S[p+r-b]?):∀m,r≤m->qM=r
 |0,hm=>by
  show xQ[r=0][xRp[qG Hc Hc hm]];rfl
 |m+1,hm=>by
  by_cases e:r=m+1
  ·show yA[xoi h]
  ·show(ZR[xjq h hn m Z5],Fq al ih)
   split
   ·rename_i c
    rw [<-ax] at c;show E9 ZP hn
   ·rfl
def xbO {S:LE}{p b m:Nat}(h:qM<m):S[p+qM]?≠S[p+qM-b]?:=by
 induction m with
 |zero=>show x6E al
 |succ m ih=>
  by_cases c:qM=m/\S[p+m]?=S[p+m-b]?
  ·show DC e[pL b[m+1]=m+1][Fq al[Ju c]][yR [_,_] xBw xM1[IP h zL]]
  ·show(C7[pL b[m+1]=qM][by rw [al,Jk c]],xCQ);by_cases q:qM=m
   ·show LT q[SZ[c[xPO z]]]
   ·exact ih[kG[xs5 S p b m]]
def lc (S:LE) (p m:Nat):DQ gO
 |0=>((0,0))
 |n+1=>if xBS m n<pL[n+1] m then((n+1,pL[n+1] m)) else xPY
theorem wv (S:LE)(p m:Nat):∀n,xBS m n≤m
 |0=>B1
 |n+1=>by
  show xL2 lc
  ·exact xs5 ..
  ·exact wv S p m n
theorem xpI {S:LE}{p m k:Nat}(h:xBS m k=m):∀n,xJA->xPY=ydA k
 |0,hk=>by
  show xQ[k=0][xRp[qG Hc Hc hk]];rfl
 |n+1,hk=>by
  by_cases e:k=n+1
  ·show DD;rfl
  ·show(ZR[xpI h n Z5],[lc,ih,h,Jk],HI[xs5 S p[n+1] m][PU.mpr this])
def xbw {S:LE}{p m n:Nat}(h:S[p+xBS m n]?≠S[p+xBS m n-(n+1)]?):ydA[n+1]=xPY:=by
 rw [lc,Jk];intro c;exact h[xsV _ c]
theorem xqa {S:LE}{p m:Nat}:∀{n:Nat},0<xBS m n->AL xPY.1/\YJ xPY.1/\xBS m n=pL xPY.1 m
 |0,h=>x6E lc
 |n+1,h=>by
  show xAL lc
  split
  ·show Dj[Ml B1] ρ rfl
  ·rename_i c
   show(HG[Jk c],ZQ a b e[xqa h] a[KN b] e)
def most (S:LE)(p:Nat):Nat:=min 18[eE p]
def far (p:Nat):Nat:=min 255 p
def lcAt (S:LE)(p:Nat):gO:=lc S p HF UM
def pcAt (S:LE)(p:Nat):Pc:=if zS GD then .cp xIr GD else .sg[S.getD p 0]
def Walk (S:LE):DQ[M'->gh]
 |p,[],q=>p=q
 |p,x::xs,q=>xJn/\x=fg/\Walk S[p+x.size] xs q
theorem xxr {S:LE}:∀{P:M'} {p q:Nat},xDD P q->Zh q->xDD[P++[xP2]][q+(xP2).size]
 | [],p,q,h,hq=>CR h[ni hq rfl]
 |x::P,p,q,h,hq=>(EO,ji,xxr xCs hq)
def xrR {S:LE}{p:Nat}(h:xJn):AL xU1/\z8[p+xU1]:=by
 show xL2 pcAt
 ·rename_i c
  have:=wv S p HF UM;show AL GD/\z8[p+GD];unfold lcAt at c ⊢;unfold most at this c ⊢;show AU[HH DH Re AM Re c][Bx [_,_,_,_,_][Ρ[BE xGU]][BE gq] Ω Uf this Fb[rA [_,_] SB Re h]]
 ·show dC[AL 1/\z8[p+1]] ygM
theorem xwX {S:LE}:∀{P:M'} {p q:Nat},xDD P q->p+P.length≤q
 | [],p,q,h=>by show xy;simp
 |x::P,p,q,h=>by
  have:=xwX xCs;show eK (xrR EO).1;rw [<-ji] at h1;simp;show Bj [_,_,_,_][AS xV6] Fs Dw Uf this h1
def xb3 {S:LE}{p b z:Nat}(hp:xJn)(h:fg=x0G z):Hh/\b≤p/\xDJ/\aP/\SY/\z8[p+z]/\(∀i<z,S[p+i]?=S[p+i-b]?)/\(z<18->Zh[p+z]->S[p+z]?≠S[p+z-b]?):=by
 show xIq pcAt
 ·rename_i c
  show G9[xIr=b][by injection h][GD=z][by injection h]
  rw [e2] at c;show Tl g[xqa (S:=S) (p:=p) (m:=HF) (n:=UM) (by show 0<GD;show Bj [_,_] Xg Ω Fp Re c[IR e2.symm])] l[wv S p HF UM];change AL xIr/\xIr≤UM/\GD=pL xIr HF at g;change GD≤HF at l;rw [e1,e2] at g;rw [e2] at l;show A3 hf[UM≤255/\UM≤p][by unfold far;show AU G8 Fb] hm[HF≤18/\HF≤eE p/\(HF=18\/HF=eE p)] (G8,Fb,(Qg 18[eE p]).imp J9 LN) (g.1,IY[AV g] hf.2,IY[AV g] hf.1,c,IY l hm.1,(Bx [_,_,_,_,_][Ξ[BE xV9]][BE gq] WF Uf l[AV hm][rA [_,_] SB Re hp]),λ i hi=>xsV (m:=HF) i[Ja hi[IR[EU g]]],UF h1 h2);have:=xbO (S:=S) (p:=p) (b:=b) (m:=HF) (by rw [<-EU g];lia);rw [<-EU g] at this;show xMu
 ·show xy
def xb4 {S:LE}{p s:Nat}(hp:xJn)(h:fg=V5):Cs S p s:=by
 show xIq pcAt
 ·show xy
 ·show(xUo h,[-h],x1C hp)
universe W16
namespace BP
def val (B:LE):Nat:=xXg a b[a*256+b] 0
def xnL (B:LE):∀a,xXg a b[a*256+b] a=a*bo+Wu:=by
 induction B with
 |nil=>intro a;simp [val]
 |cons b B ih=>
  intro a;have h0:val[b::B]=b*bo+Wu:=XC[xXg a b[a*256+b][0*256+b]=_] ih Od Kq
  show xXg a b[a*256+b][a*256+b]=_;rw [ih,h0,Jn,KQ,LV,KL,KI 256,J8]
def xpd:val []=0:=rfl
def xyl (b:Nat)(B:LE):val[b::B]=b*bo+Wu:=XC[xXg a b[a*256+b][0*256+b]=_] xnL Od Kq
def xnz (A B:LE):val[A++B]=xXQ*bo+Wu:=YB[xQw[A++B] a b[a*256+b] 0=_] Lx xnL
def xu7 (A:LE)(b:Nat):val[A++Wz]=xXQ*256+b:=zG[xQw[A++Wz] a b[a*256+b] 0=_] Lx
def xy0 {B:LE}(h:xRe):Wu<bo:=by
 induction B with
 |nil=>simp [val]
 |cons b B ih=>
  show([xyl,Jn,KQ],DF h1[ih[DX[lS x hx]]] h2 xIK[yT b] h3[b*bo≤255*bo][O5 _[KC h2]],Bj [_,_,_] xM1[Aw[XY 255]] rS[xBU Uf] h1 h3)
def xyX (n:Nat):256^n=2^(8*n):=by rw [Nat.pow_mul]
def xsh (n:Nat):0<2^n:=Gm
def xhB {B:LE}(h:xRe)(n:Nat)(hn:sC n):val x2C=Wu/256^(xKl n):=by
 show Sc e[Wu=val x2C*xZO x2x+val x2x][xXb xnz] hd[val x2x<xZO x2x][xy0[Bm[h b[JZ hb]]]]
 rw [Je] at e hd;rw [e,KI,Pe Gm,OY hd,Mv]
def xpi {B:LE}(h:xRe){m n:Nat}(hmn:YJ m)(hn:sC n):val xJm=Wu/256^(xKl n)%256^(n-m):=by
 show(Sc e[val x2C=val[(x2C).take m]*xZO xJm+val xJm][xXb xnz] hl[BD xJm[n-m]][by rw [Je,Jc,J9 hn]],(hd:val xJm<xZO xJm)=xy0[Bm[h b[JK[JZ hb]]]])
 rw [hl] at e hd;rw [<-xhB h n hn,e,KI,Qe,Lq hd]
def bits_cut {B:LE}(h:xRe){p s:Nat}(hp:p+s≤xMH 8):
  val[xKh[(p+s+7)/8][p/8]]/2^(8*((p+s+7)/8)-(p+s))%2^s=Wu/2^(xMH 8-(p+s))%2^s:=by
 show(Sc h1[p/8≤(p+s+7)/8][zQ 8 [_,_,_,_][jt[Ft Fs 7]][Aw x5H] SL DB zV] h2[sC[(p+s+7)/8]][zQ 8 [_,_,_,_][.a Fs HE][ou[CN Fs 7]] SL hp DB],[xpi h h1 h2,xyX,xyX],Sc ha[8*(p/8)≤p][xX HE SL HE DB] hb[p+s≤8*((p+s+7)/8)][EZ[Ft WF 7] x5G WF EG zV],xEF[p/8] a[(p+s+7)/8] b);generalize B.length=n at*;show(Ik c[K9 h1],Ik y[K9 ha],x21 x[K9 hb],Ik z[K9 h2],[Kv,Kv,hx,Kv,show 8*c=x+(s+y) by show BW[jK [_,_,_,_,_][HD xV9][IM[HQ[xPk Cv]]] HE xBt[IR hx]][jK [_,_,_,_,_][IM[HQ[xPk Cv]]][HD xV9] xBt HE[IR hx.symm]],show 8*(a+c+z)-(8*a+y+s)=8*z+x by show El[Dg [_,_,_,_,_,_,_][DT 8 D7[Ρ[.a x6i xNS]]][.a[HQ[.a x6i xNS]][HD[IM D7]]][ou Uf][IR hx][DI [_,_,_,_,_][oI[ou Cv]][HD Φ][oI[ou Cv]][HD[m8 Φ]] hb]] [_,_,_,_,_,_,_][.a[HQ[.a x6i xNS]][HD[IM D7]]][DT 8 D7[Ρ[.a x6i xNS]]][ou Uf][IR hx.symm] W1],[LW 2 x,Px,Nat.div_div_eq_div_mul,-LW,LW 2 s,Nat.mod_mul_right_mod])
structure BR (N T:Nat)(B:LE)(r k:Nat):Prop where
 tot:T=xMH 8+k
 num:N=Wu*2^k+r
 low:r<2^k
 byt:xRe
def BR.init:BR 0 0 [] 0 0:=VC rfl Z9[xFH h h]
def BR.put {N T:Nat}{B:LE}{r k:Nat}(h:BR N T B r k){n s:Nat}(hn:n<2^s):BR[N*2^s+n][T+s] B[r*2^s+n][k+s]:=by
 show xBL[LT h.tot xZ1] ?_ ?_ h.byt
 ·rw [h.num,LW,LV,KL,J8]
 ·show Sc h1[r+1≤2^k] h.low h2[(r+1)*2^s≤2^k*2^s][O5 _ h1];rw [LV,P1] at h2;show LT LW[Ja[LP hn _] h2]
def BR.move {N T:Nat}{B:LE}{r k:Nat}(h:BR N T B r[k+8]):BR N T[B++[r/2^k]][r%2^k] k:=by
 show χ e[LL r[2^k]] (by show(AR h.tot LS,qL[jt xHF][DT 8 SB SL][DT 8 SB SL][jt xHF]),?_,Im[xsh k],qE)
 ·rw [h.num,xu7,LV,LW];have:Wu*(2^k*2^8)=Wu*256*2^k:=by rw [KI[2^k],<-KL]
  show([this,J8],[KI[r/2^k],e])
 ·show sJ hb hb hb
  ·exact h.byt b hb
  ·show([xE3],x3 h.low LW[O6 this])
structure xxH (N T:Nat)(R:LE):Prop where
 len:xNk[(T+7)/8]
 byt:wR
 num:xHU=N*2^(C8-T)
def BR.row0 {N T:Nat}{B:LE}{r:Nat}(h:BR N T B r 0):xxH N T B:=by
 show(χ h1 h.low[Cm[LT h.tot[yd[NL.xuB 8 [_,_][Ft[Y9 HE] 7] x5H Re SL zV rfl][NL.xuB 8 [_,_] Bp[CN[Y9 HE] 7] SL Re DB rfl]]] h.byt],[h.num,h.tot],xQ[r=0] Uu);simp
def BR.row1 {N T:Nat}{B:LE}{r k:Nat}(h:BR N T B r k)(h0:0<k)(h8:k<8):xxH N T[B++[r*2^(8-k)]]:=by
 show yI[by show(AR h.tot LS,BW[Zc 8 [_,_,_][.a Fp[Ft[jt Uf] 7]][Aw x5H] SB SL h0 zV][Zc 8 [_,_,_][Fg Bp][oy[CN[jt Uf] 7]] SL SB h8 DB])] qE
 ·show sJ hb hb hb
  ·exact h.byt b hb
  ·show([xE3],(h2:r*2^(8-k)<2^k*2^(8-k))=ygr[xsh _] h.low);rw [<-LW] at h2;have:k+(8-k)=8:=xXh h8;show Ε this h2 h2
 ·show(Sc e[8*DV B [r*2^(8-k)]-T=8-k][by show(AR h.tot LS,El[uW [_,_,_,_][oy[Ρ[wm Uf]]][xIe[HD dQ]] W1[DI [_,_] SB Dv[ou Re][HD Β] h8]] [_,_,_,_][DT 8 dQ Φ][Eg[Ρ[wm Uf]]] SL W1[DI DU SB Dv Re Dv h8])] e2[256=2^k*2^(8-k)][by
   show([-LW],xI8[k+(8-k)=8][yd[Dh Ω Dv WF Dv[DI DU SB Dv Re Dv h8]][Dh Dv Ω Dv WF W1]])],[e,xu7,h.num,LV,KL,-e2])
def dU:B4->ET
 | [],N=>N
 |p::ps,N=>ze[N*2^Wd+BS]
def tots (ps:B4):Nat:=(ps.map (·.2)).sum
def xxB (a b:B4)(N:Nat):uL[a++b]=dU b[uL a]:=by
 induction a generalizing N with
 |nil=>rfl
 |cons p a ih=>exact ih _
def aU (a b:B4):tots[a++b]=tots a+tots b:=by simp [tots,Ji,Mw]
def cW (p:gO)(b:B4):tots[p::b]=Wd+tots b:=by simp [tots]
def Good (ps:B4):Prop:=gj ps[BS<2^Wd]
def num (bs:Au):Nat:=bs.foldl[λ a b=>Tv[2*a]] 0
def xh2 (bs:Au):∀a,bs.foldl[λ a b=>Tv[2*a]] a=a*xU4 2+x6F:=by
 induction bs with
 |nil=>intro a;simp [num]
 |cons b bs ih=>
  intro a;have h0:num[b::bs]=b.toNat*xU4 2+x6F:=XC[bs.foldl[λ a b=>Tv[2*a]][Tv[2*0]]=_] ih Nat.mul_zero Kq
  show bs.foldl[λ a b=>Tv[2*a]][Tv[2*a]]=_;rw [ih,h0,Jn,KQ,LV,KI 2 a,KL a 2,KI 2[xU4 2],J8]
def xyo (a b:Au):num[a++b]=num a*2^b.length+num b:=YB[xQw[a++b] a b[Tv[2*a]] 0=_] Lx xh2
def num_snoc (a:Au)(b:Bool):num[a++Wz]=Tv[2*num a]:=zG[xQw[a++Wz] a b[Tv[2*a]] 0=_] Lx
def xtF (b:Bool)(bs:Au):num[b::bs]=b.toNat*xU4 2+x6F:=by
 have:=xyo Wz bs;simpa [num] using this
def xxL (bs:Au):x6F<xU4 2:=by
 induction bs with
 |nil=>decide
 |cons b bs ih=>
  rw [xtF,Jn,KQ];cases b<;>simp<;>omega
def dig (n:Nat):DQ Au
 |0=>[]
 |k+1=>CG[n/2^k%2] 1::xB2 k
def QS (n k:Nat):BD[xB2 k] k:=by
 induction k with
 |zero=>rfl
 |succ k ih=>show lP[iT[xB2 k] 1=k+1] ih
def xxf (n k:Nat):num[xB2 k]=n%2^k:=by
 induction k with
 |zero=>simp [dig,num,Nat.mod_one]
 |succ k ih=>
  show num[CG[n/2^k%2] 1::xB2 k]=_;show([xtF,QS,ih,KQ,Nat.mod_mul],(h2:n/2^k%2<2)=xG9);by_cases h:n/2^k%2=1
  ·show(nQ[IZ h] h,BW[Iz WF Ω][Iz Ω WF])
  ·show((h0:n/2^k%2=0)=Z4,nQ[Kh h] h0)
theorem xpk:∀{A B:LE},me A->xJs->A.length=B.length->xXQ=Wu->A=B
 | [],[],_,_,_,_=>rfl
 | [],_::_,_,_,h,_=>xy
 |_::_,[],_,_,h,_=>xy
 |a::A,b::B,hA,hB,hl,hv=>by
  have hl':A.length=B.length:=ycl
  rw [xyl,xyl,hl'] at hv;show(Sc h1[xXQ<bo][Bg hl'[xy0[DX[hA x xM5]]]] h2[Wu<bo][xy0[xXG xM5]],Sc p[0<bo] Gm e1[a=b][by
   show(Sc q1[(a*bo+xXQ)/bo=a][by rw [KI,Pe p,OY h1,Mv]] q2[(b*bo+Wu)/bo=b][by rw [KI,Pe p,OY h2,Mv]],[-q1,hv,q2])],i8,[xpk[DX[hA x xM5]][xXG xM5] hl'[Pf hv]])
universe BP
namespace W13
def run (a:Nat):Rp LE
 | []=>0
 |x::xs=>Hn x a[xz1 xs+1] 0
theorem xyS (a:Nat):∀L:LE,nJ Eu
 | []=>ρ
 |x::xs=>by
  unfold run;have:=xyS a xs
  split<;>simp<;>assumption
theorem xvc {a:Nat}:∀{L:LE} {i:Nat},i<Eu->AD L a
 | [],i,h=>x6E run
 |x::xs,0,h=>by
  show xIq run
  ·rename_i c;simp [c]
  ·exact yR [] Fp Hc h
 |x::xs,i+1,h=>by
  show xIq run
  ·simpa using xvc (L:=xs) (i:=i) (Nat.succ_lt_succ_iff.mp h)
  ·show rB PL Hc h
theorem xvI {a:Nat}:∀{L:LE} {n:Nat},(∀i<n,AD L a)->n≤Eu
 | [],0,_=>B1
 | [],n+1,h=>by simpa using h 0[Y6 Fp]
 |x::xs,0,_=>B1
 |x::xs,n+1,h=>by
  show((h0:x=a)=by simpa using h 0[Y6 Fp],Vr run h0,HI[xvI (L:=xs) (n:=n) (λ i hi=>by simpa using h[i+1][Nat.add_lt_add_right hi 1])][Kx this 1])
def xp6 {a:Nat}{L:LE}{n:Nat}(h:∀i<n,AD L a)(hn:jT L[n]? a):Eu=n:=by
 show(eK[xvI h],iq n Eu h2 h2)
 ·show E9[xvc h2] hn
 ·exact IT h2 h1
inductive Itm where
 |one (x:Nat)
 |rep (r:Nat)
def Itm.size:Rp Itm
 | .one _=>1
 | .rep r=>r
def Itm.cost:Rp Itm
 | .one _=>3
 | .rep _=>9
def Itm.next (a:Nat):Rp Itm
 | .one x=>x
 | .rep _=>a
def Itm.puts:Itm->B4
 | .one x=>[((x,3))]
 | .rep r=>[((7,3)),((r-3,6))]
def stAt (L:LE)(p a:Nat):Itm:=if zS x7X then .rep x7X else .one[xzM p]
def Walk (L:LE):dD[F2->DQ gh]
 |p,a,[],q,b=>p=q/\a=b
 |p,a,x::xs,q,b=>pB p/\x=iX p a/\x68[p+x.size][x.next a] xs q b
theorem xxr {L:LE}:∀{P:F2} {p a q b:Nat},xLm L a P q b->zu->xLm L a[P++[iX q b]][q+(iX q b).size][(iX q b).next b]
 | [],p,a,q,b,h,hq=>j6 h[xAY hq rfl]
 |x::P,p,a,q,b,h,hq=>(EO,ji,xxr xCs hq)
def xnZ {L:LE}{p a:Nat}(h:pB p):AL (iX p a).size/\nJ[p+(iX p a).size]:=by
 show xL2 stAt
 ·rename_i c
  show cX[xyS a wG] Je;show AL x7X/\nJ[p+x7X];show AU[HH DH Re AM Re c][Bx [_,_,_,_,_][BE[Ρ xGU]][Gh xY] Ω Uf this Fb[rA [_,_] SB Re h]]
 ·show dC[AL 1/\nJ[p+1]] ygM
theorem xwX {L:LE}:∀{P:F2} {p a q b:Nat},xLm L a P q b->p+P.length≤q
 | [],p,a,q,b,h=>by show zN h;simp
 |x::P,p,a,q,b,h=>by
  show yY[xwX xCs] (xnZ (a:=a) EO).1;rw [<-ji] at h2;simp;show Bj [_,_,_,_][AS xV6] Fs Dw Uf h1 h2
def nxtS (a:Nat):Rp F2
 | []=>a
 |x::xs=>nxtS[x.next a] xs
def xpT {L:LE}{p a:Nat}(hp:pB p):EN x[iX p a=.one x->xN1 p 1=xU0++Dt/\xv p x]/\EN r[iX p a=.rep r->zS r/\r≤66/\nJ[p+r]/\xN1 p r=xU0++xE2 r]:=by
 show(Dd hle[xyS a wG] Je hle,xL2 stAt)
 ·rename_i c
  show(ZU[λ x h=>xy][UF r h],xUo h,qm hr[r≤xz1 wG][uW [_,_,_] EH DG RA Fb] (le_of_le_of_eq c h,(Dg [_,_] WF[sN 66][.n 66] RA G8),OW[Jy hp][IY hr hle],?_) Oj);congr 1;show(Xv i,[L5,MF])
  split
  ·rename_i hi
   exact xvc[Ja hi hr]
  ·rfl
 ·show(ZU[UF x h][λ r h=>xy],xUo h,C7[xv p x][by show([-h],x1C hp)],AU[Ai Kj e] e)
def RF (a:Nat):F2->LE
 | []=>[]
 | .one x::P=>x::RF x P
 | .rep r::P=>xE2 r++RF a P
def StOk:BY Itm
 | .one x=>x≤6
 | .rep r=>zS r/\r≤66
theorem xty {L:LE}:∀{P:F2} {p a q b:Nat},xLm L a P q b->L.take q=xU0++RF a P
 | [],p,a,q,b,h=>by show zN h;simp [RF]
 |x::P,p,a,q,b,h=>by
  show((hp,hx,hw)=h,Tl ih[xty hw] ht[xpT (a:=a) hp],[ih]);cases x with
  |one y=>
   show eK (ht.1 y hx.symm).1;show xN1 p 1++RF y P=xU0++y::RF y P;show Di h1
  |rep r=>
   show eK[xT3[ht.2 r hx.symm]];show xN1 p r++RF a P=xU0++(xE2 r++RF a P);show xJo h1
theorem xst {L:LE}(hL:E5 L[b≤6]):∀{P:F2} {p a q b:Nat},xLm L a P q b->Ic P[StOk x]
 | [],p,a,q,b,h,x,hx=>by simp at hx
 |y::P,p,a,q,b,h,x,hx=>by
  show rg hx hx
  ·have ht:=xpT (a:=a) EO;cases x with
   |one y=>exact hL _[J7 (ht.1 y (ji).symm).2]
   |rep r=>show xCM[ht.2 r (ji).symm] xVp ydT
  ·exact xst hL xCs x hx
def puts (P:F2):B4:=P.flatMap Itm.puts
def xl5 (P Q:F2):puts[P++Q]=puts P++puts Q:=by simp [puts]
theorem xrC:∀P:F2,((puts P).map (·.2)).sum=x2i Itm.cost
 | []=>rfl
 | .one x::P=>by
  show XC (((Itm.puts[.one x]++puts P).map (·.2)).sum=_) Ji Mw[xrC P];simp [Itm.puts,Itm.cost]
 | .rep r::P=>by
  show XC (((Itm.puts[.rep r]++puts P).map (·.2)).sum=_) Ji Mw[xrC P];simp [Itm.puts,Itm.cost]
def puts_good {P:F2}(h:Ic P[StOk x]):ZA[puts P][DO<2^GZ]:=by
 intro q hq;show((x,hx,hq)=P8.mp hq,ok=h x hx);cases x with
 |one y=>
  have:y≤6:=ok;show x4o Itm.puts;subst hq;show dC[y<2^3][sk this]
 |rep r=>
  obtain⟨h1,h2⟩:zS r/\r≤66:=ok;show(x4o Itm.puts,oH hq)
  ·decide
  ·show r-3<2^6;omega
universe W13
namespace W17
open BP W13
def bitsP (ps:B4):Au:=ps.flatMap[EA[dig DO GZ]]
def bC (q:gO)(ps:B4):bitsP[q::ps]=dig DO GZ++xAN:=by simp [bitsP]
def xzB (a b:B4):bitsP[a++b]=xBg a[bitsP b]:=by simp [bitsP]
theorem xzC:∀ps:B4,BD xAN Gj
 | []=>rfl
 |q::ps=>by rw [bC,IQ,QS,xzC ps,cW]
theorem xna:∀{ps:B4},x4p->∀N,ze N=N*2^Gj+num xAN
 | [],_,N=>by simp [dU,tots,bitsP,num]
 |q::ps,h,N=>by
  show eN h1[DO<2^GZ][yT q] ih[xna (ps:=ps) λ z hz=>lS z hz]
  show ze[N*2^GZ+DO]=_;rw [ih,bC,xyo,xzC,xxf,Lq h1,cW,LW,LV,KL,J8]
def xio {ps:B4}(h:x4p):num xAN=ze 0:=Di[xna h 0]
def rlF:DQ[LE->B4]
 |0,_=>[]
 |_+1,[]=>[]
 |n+1,a::L=>((a,1+Eu))::x8v
theorem xns:∀{n m:Nat} {L:LE},lU n->lU m->x3p L=rlF m L
 |0,0,_,_,_=>rfl
 |0,m+1,[],_,_=>rfl
 |0,_+1,_::_,h,_=>E2
 |n+1,0,[],_,_=>rfl
 |_+1,0,_::_,_,h=>E2
 |n+1,m+1,[],_,_=>rfl
 |n+1,m+1,a::L,h1,h2=>by
  show(Sc Ul[lU n] Uu W2[lU m] x12,lP[((a,1+Eu))::x8v=((a,1+Eu))::rlF m xMK][xns (n:=n) (m:=m) (xEd[xYw Ul])[xEd[uW [_,_,_] HM Φ W2 fj]]])
def rl (L:LE):B4:=yj2 L
def xcG:rl []=[]:=rfl
def xcq (a:Nat)(L:LE):rl[a::L]=((a,1+Eu))::rl xMK:=zG[((a,1+Eu))::yj2 xMK=_][xns (n:=L.length) (m:=(xMK).length) (xEd fj) ρ]
def xaV {T:LE}{b e a:Nat}(YZ:b<e)(heT:xLZ e)(WX:∀j,pQ b->j<e->u9 T a)(hend:jT T[e]? a):rl[T.drop b]=((a,e-b))::rl[T.drop e]:=by
 show(Sc hb[xMS b][Ja YZ heT] e1[T.drop b=a::T.drop[b+1]][by
  show(cX[WX b ρ YZ][IW hb],[Kt hb,JA this])],Wv[xz1[T.drop[b+1]]=e-(b+1)][by
  refine xp6[UF i hi] ?_
  ·show LT L6[WX _ Z5[K3 hi]]
  ·show XV L6[BJ[b+1+(e-(b+1))] e[Km YZ]] hend],[e1,xcq,e2,KS,BJ[b+1+(e-(b+1))] e[Km YZ],show 1+(e-(b+1))=e-b by show BW[CM [_,_,_,_][BE xMX] xGX UI SL W1[rA [_,_] SB SB YZ]][CM [_,_,_,_] xV1[yt xMX] SL UI W1[rA [_,_] SB Re YZ]]])
def exp (rs:B4):LE:=rs.flatMap[EA[x0P DO]]
theorem xqi {a:Nat}:∀L:LE,L=xE2 Eu++xMK
 | []=>rfl
 |x::L=>by
  by_cases h:x=a
  ·show(C7[xz1[x::L]=Eu+1][Vr run h],[e,KG,List.drop_succ_cons,K5,-xqi L,h])
  ·show(C7[xz1[x::L]=0][by rw [run,Jk h]],Ar e)
theorem xpP:∀{n:Nat} {L:LE},lU n->exp[x3p L]=L
 |0,[],_=>rfl
 |0,_::_,h=>E2
 |n+1,[],_=>rfl
 |n+1,a::L,h=>by
  have h':lU n:=Rj
  show xE2[1+Eu]++exp x8v=_;rw [xpP[xEd[xYw h']],Mm,KG,K5,<-xqi]
def xsT (L:LE):exp[rl L]=L:=xpP ρ
theorem xpo:∀{n:Nat} {L:LE},ZA[x3p L][xOP/\nJ GZ/\DO∈L]
 |0,_,q,h=>xy
 |n+1,[],q,h=>xy
 |n+1,a::L,q,h=>by
  show(hr=xyS a L,rg[Dx q[((a,1+Eu))::x8v] h] h)
  ·show Dj[dC[AL[1+Eu]][JD 1 _]][by show xBd[1+Eu][a::L];show LT Jn[Dh Re SL UI Β hr]] Jl
  ·show(x4Y h1 h3[xpo q h],Ε Je h2 (h1,LT Jn[Dg [_,_,_] EH DG Β h2 fj],XQ[JZ h3]))
def xvK {L:LE}{q:gO}(h:q∈rl L):xOP/\nJ GZ/\DO∈L:=xpo q h
def xag (q:gO)(b:B4):exp[q::b]=x0P DO++exp b:=by simp [exp]
def pR (rs:B4):B4:=rs.flatMap[EA [((GZ-1,6)),((DO,8))]]
def xiz (a b:B4):pR[a++b]=pR a++pR b:=by simp [pR]
def xt8 (q:gO)(b:B4):pR[q::b]=((GZ-1,6))::((DO,8))::pR b:=by simp [pR]
def xwx:Bool->LE->B4
 |false,T=>x6G s ((s,8))
 |true,T=>pR wM
theorem xrc:∀{rs:B4},(ZA rs xOP)->xBd rs.length x4S
 | [],_=>ρ
 |q::rs,h=>by
  show(Tl h1[yT q] ih[xrc (rs:=rs) λ z hz=>lS z hz],[xag,IQ,JQ,Jn],yE [_,_,_] UI Φ Φ h1 ih)
theorem xt5:∀rs:B4,mv rs=14*rs.length
 | []=>rfl
 |q::rs=>by rw [xt8,cW,cW,xt5 rs,Jn];show 6+(8+14*rs.length)=_;show T5[BZ 6[oy[x9 14]]][xC2 14][Fv[xC2 14][BZ 6[oy[x9 14]]]]
theorem xwT:∀T:LE,tots ko=x47 8
 | []=>rfl
 |s::T=>by
  show XC[tots[((s,8))::ko]=_] cW[xwT T] Jn;show 8+x47 8=_;show T5[oy HE] x56[Fv x56[oy HE]]
def wp (u:Bool)(T:LE):tots[xwx u T]≤x47 14:=by
 cases u with
 |false=>show LT xwT[Fv HE[x9 14]]
 |true=>
  show(lP[mv wM≤_] xt5,x3[xrc (rs:=wM) λ q hq=>(xvK hq).1] xsT[jP this])
def xbZ {rs:B4}(h:ZA rs[xOP/\US GZ/\By DO]):Good[pR rs]:=by
 intro z hz;show(XH q hq hz[P8.mp hz] h1 h2 h3[h q hq],x4T,oH hz)
 ·show GZ-1<2^6;omega
 ·show DO<2^8;assumption
def xuh {T:LE}(hT:jW)(hb:xRd):ZA wM[xOP/\US GZ/\By DO]:=λ q hq=>ZQ h1 h2 h3[xvK hq] h1[IY h2 hT][xCr h3]
def xql (u:Bool){T:LE}(hT:jW)(hb:xRd):Good[xwx u T]:=by
 cases u with
 |false=>
  intro z hz;show(xNC s hs hz,hb s hs)
 |true=>exact xbZ[xuh hT hb]
universe W17
namespace K27
open PySem L2 QQ W17 W16
seal PE PA PS PSs PT PW PG PI
def top (i:Nat):QC:=PySem.Challenge.pw_balepress_k27_looks.main.body.getD i[.Pass (0,0,0,0)]
abbrev xt6:QC:=top 19
abbrev xzF:QC:=top 20
abbrev cY:QC:=top 21
abbrev xx3:QC:=top 22
abbrev xwZ:QC:=top 23
abbrev xx8:QC:=top 26
abbrev xxb:QC:=top 27
abbrev xxn:QC:=top 70
abbrev xsP:QC:=top 71
abbrev xqZ:QC:=top 72
abbrev xrV:QC:=top 73
abbrev xqX:QC:=top 74
abbrev xyn:QC:=top 79
abbrev xrX:QC:=top 80
abbrev xqq:QC:=top 84
abbrev xtN:QC:=top 85
abbrev xqQ:QC:=top 86
abbrev xxd:QC:=top 45
abbrev xs3:QC:=top 46
abbrev xye:QC:=top 47
abbrev xyV:QC:=top 48
abbrev xsU:QC:=top 49
abbrev xqy:QC:=top 50
abbrev AC:QC:=top 52
abbrev xym:QC:=top 53
abbrev xtM:QC:=top 54
abbrev xtW:QC:=top 61
abbrev xsZ:QC:=top 62
abbrev xrO:QC:=top 63
abbrev xvF:QC:=top 64
abbrev xrY:QC:=top 65
abbrev xqV:QC:=top 82
abbrev xrM:QC:=top 83
abbrev xr3:QC:=top 87
abbrev xqT:QC:=top 88
abbrev xuo:QC:=uG 29
abbrev xoF:QC:=uH 29
abbrev xsK:QC:=dN 29
abbrev xuk:QC:=se 29 3
abbrev xq0:QC:=se 29 4
abbrev sCInit:QC:=uG 55
abbrev xuc:QC:=uH 55
abbrev xvR:QC:=dN 55
abbrev xua:QC:=se 89 3
abbrev xqL:QC:=dN 93
abbrev xqD:QC:=uH 93
abbrev xrU:QC:=uG 93
abbrev xyZ:QC:=top 81
abbrev xrd:QC:=uG 90
abbrev xr4:QC:=uH 90
abbrev xqt:QC:=dN 90
abbrev xra:QC:=uG 91
abbrev xr0:QC:=uH 91
abbrev xqn:QC:=dN 91
abbrev xrk:QC:=uG 92
abbrev xrN:QC:=uH 92
abbrev xrB:QC:=dN 92
abbrev xoY:QC:=top 94
abbrev xqs:QC:=top 95
abbrev vN (n:Nat):V:=.int[ST n]
structure Txt (K:Frag)(mg:Ι):Prop where
 isi:V4 "isinstance"
 bool:V4 "bool"
 int:V4 "int"
 list:V4 "list"
 len:V4 "len"
 range:V4 "range"
 max:V4 "max"
 min:yes
 great:IE "GREATEST" 255
 most:IE "MOST_SIZE" 24
 signs:IE "MOST_SIGNS" 64
 ahead:IE "MOST_AHEAD" 192
 far:IE "FARTHEST" 255
 least:IE "LEAST_COPIED" 3
 mostC:IE "MOST_COPIED" 18
 sum:V4 "sum"
 enum:V4 "enumerate"
 sort:V4 "sorted"
 bits:IE "MOST_BITS" 6
 mlen:IE "MOST_LENGTH" 12
 things:IE "MOST_THINGS" 300
 count:IE "MOST_COUNT" 1000000
 many:IE "MANY" 272
 again:IE "AGAIN" 7
 leastA:IE "LEAST_AGAIN" 3
 mostA:IE "MOST_AGAIN" 66
 first:IE "FIRST_COPY" 256
 isnumb:∃(f:Qq) (fd:Qx),ydr xt6/\mg "is_number"=kZ/\lL Jaf
structure xuK (K:Frag)(mg:Ι)(x:Str)(st:QC)(ps:CI)(f:Qq)(fd:Qx):Prop where
 F:Bq x x st
 m:nO=kZ
 b:vc
structure Me (K:Frag)(C:Qq)(x qual:Str)(st:QC)(ps:CI)(f:Qq)(fd:Qx):Prop where
 F:Bq x qual st
 m:xRo x f
 b:vc
def aE {X:Cx}{pos:Pos}(F:xTm QM k f fd ps sp)(hr:oq)(M:xuK X.K X.mg x st ps f fd)(ha:wO)(hg:AJ uj)(Xa:t8)(he:AJ[ml=yg::mz])(Rv:vH):dj x p xw[xR6 sp t]:=xxw F hr hg M.m M.F.kp M.b .nil bA ha Xa he Rv
def xwd {X:Cx}{pos:Pos}{pl:xF6}(he:xDz)(c:xBE)(M:Me X.K C m qu st ps f fd)(F:xTm QM k f fd ps sp)(hr:oq)(ha:wO)(RQ:AJ[ml=yg::mz])(Rv:vH)(ht:AJ[xE xC3=(do
      let ov<-jn
      xER
      let((f,first))<-xE0 xJb ov m pl
      xJI x5X)]):AN xC3[xQt m sp [] E0 ta t]:=xxi he c M.m F hr M.b .nil bA ha RQ Rv ht
def xxt {X:Cx}{pos:Pos}{pl:xF6}(he:xDz)(c:xBE)(M:Me X.K C m qu st ps f fd)(F:xTm QM k f fd ps sp)(hr:oq)(ht:AJ[xE xOe=(do
      let ov<-jn
      xER
      let((f,first))<-xE0 xJb ov m pl
      xJI xW0)]):AN xOe[xQt m sp [] E0 ta df]:=xtR he c M.m F hr M.b .nil bA ht
def xry {X:Cx}{e:QA}{te:TE}{p pos:Pos}(hm:xLz "len")(he:TO)(hg:AJ[xFp "len"])(h1:AJ[xG [e]=yg::xG []]):=xrx (p:=p) (pos:=pos) (he:=h1) xzA hg hm OM[aa (hs:=h1) he xtm]
section
variable (K:Frag)
def xvM:xGr[WV x1x "bool"]:=xz6 (xGr (if(Value.type "int"==Value.type "bool")=true then some true else if kitMeta "bool"=true then(fastBuiltinMro "int").map (·.contains[.type "bool"]) else none))
def xvE:iG[WV x1x "int"]:=xz6 (iG (if(Value.type "int"==Value.type "int")=true then some true else if kitMeta "int"=true then(fastBuiltinMro "int").map (·.contains[.type "int"]) else none))
def pc:iG[WV xK0 "list"]:=xz6 (iG (if(Value.type "list"==Value.type "list")=true then some true else if kitMeta "list"=true then(fastBuiltinMro "list").map (·.contains[.type "list"]) else none))
def xcN:iG[WV xKR "tuple"]:=xz6 (iG (if(Value.type "tuple"==Value.type "tuple")=true then some true else if kitMeta "tuple"=true then(fastBuiltinMro "tuple").map (·.contains[.type "tuple"]) else none))
universe s
def xuE:xDa=xIR<->x=y:=by
 constructor
 ·intro h;show(xUo h,P2.mp h)
 ·show EJ;rfl
def xfs {S:LE}(h:Zh i):AD[xEE][vN S[(i)]]:=by simp [h]
def dZ {B:LE}{i:Nat}(h:AD[sO] y):∃b,AD B b/\y=qR:=by
 show HG Jw;cases e:B[i]? with
 |none=>show tO h h
 |some z=>show lG h[Ef z[xGg h]]
def xwW {B:LE}(h:AD B b):B.take[i+1]=xLX++Wz:=Ai Kj h
def bV (h:Zg n):xF n:=uJ h
def bW (h:Zg n):xSG n:=sk h
inductive spWhole (vs:Sy) (H:Hp) (Q:VK) (QL:XK):Prop
 |mk (i lo hi:Int) (h0:vs=[Dz,yfb,x04]) (h1:wo[FO lo i&&FO i hi]):spWhole vs H Q QL
def xpR:XL Jaa Jaa xzF:=Tm
inductive spNumb (vs:Sy) (H:Hp) (Q:VK) (QL:XK):Prop
 |mk (x:V) (b:Bool) (h0:vs=Dt) (h1:(CU i[x=Dz]/\Ty b)) (h2:xJz):spNumb vs H Q QL
def xp7:XL Jaf Jaf xt6:=Tm
def xvr (F:ydr xt6)(T:Df):xZy 0 spNumb:=by
 show(rN[F.ok0 xp7 λ QE A outer s H vs Q E h=>?_] _,yV x b hw k,D9[Gz[kP[xPs[D3 "int" T.int M0]][xvD[xPs[D3 "bool" T.bool OB]]]]],((i,rfl),rfl)=hw,HU (_,rfl,_,_,_,_,rfl,xNa,xvE K,_,rfl,Zy) (_,rfl,_,_,_,_,rfl,xNa,xvM K,_,rfl,k))
def xlI (F:Ο "is_whole" xzF Jaa)(T:Df):eg Jaa spWhole:=by
 show((fN,Xd,NF,Nm,Nb)=T.isnumb,D1 xpR[λ QE A outer s H vs Q E hr h=>?_],(i,lo,hi,rfl,k)=h,xb[kP[dz[xvr NF T] hr Nm NF.kp Nb bA gP][xqW iP iP τ Η Ζ]][Q6 _ rfl _ true[Gs[Gs i]] _ rfl Zy],ω (_,rfl,_,rfl,_,_,rfl,rfl,_,rfl,?_) iM)
 ·show(xC8,aG h1 Bool.true_and k k)
 ·show((h2:AG[FO lo i])=Uu,aG h2 PP k k)
inductive spAreWhole (vs:Sy) (H:Hp) (Q:VK) (QL:XK):Prop
 |mk (a:Qq) (B:LE) (lo hi:Int) (h0:vs=[AO,yfb,x04]) (h1:Υ=uK) (h2:CP[lo≤iw/\iw≤hi]) (h3:xCk):spAreWhole vs H Q QL
def xu8:XL ["thing","least","most","number"] Jaa cY:=Tm
def xzD (F:Ο "are_whole" cY Jaa)(W:jm)(T:Df):xQW Jaa spAreWhole:=by
 show(SC GW[Vq fW U2 Jaa spWhole][xQx T][F.F.ok xu8 λ QE A outer s H vs Q E hr h=>?_],uk,Fw a B lo hi rfl hB hb k,Gw[jY[xW[xPs[D3 "list" T.list Kn]]] cu[yj[xf Η 3 xu8.nd[xY3[xW[xOL W[Wt 3 1 2]]]]] cu]] (_,rfl,_,_,_,_,rfl,.lst hB,pc K,_,rfl,AI)[m9 a hB[i' Ws K a sO[λ i σ H2=>∃v,σ=[BL,xAB lo,xAB hi,v]/\H2=H] yd3[λ i σ H2 _ z9=>by show xKw e;exact WQ xFU] ?_ ?_]])
 ·rintro i y σ H2 hi ⟨v,rfl,rfl⟩;show(Dr b Rl[dZ hi],sL h2 h3[qN x48] (_,rfl,_,rfl,_,rfl,_,_,_,rfl,_,rfl,?_),XV[IZ h2][IZ h3][gM rfl])
 ·show(xF7 σ H2 v rfl,k)
inductive spIsRow (vs:Sy) (H:Hp) (Q:VK) (QL:XK):Prop
 |mk (a:Qq) (B:LE) (h0:vs=F5) (h1:Υ=uK) (h2:xJs) (h3:xCk):spIsRow vs H Q QL
def xpN:XL Jaf Jaf xx3:=Tm
structure Rows (K:Frag)(mg:Ι):Prop where
 X:Df
 whole:xZF
 arewhole:ydp cY Jaa
 isrow:Ν "is_row" xx3 Jaf
def xr6 (F:Ο "is_row" xx3 Jaf)(Y:ZK):xZy 3 spIsRow:=by
 show(yhg T W Y,Zq tg hg T.great xpN[λ QE A outer s H vs Q E hr h=>?_] _,vP a B hB hb k,xJ2[Iw[xzD AW W T] AW[mJ[Mk[FK 255 hg tg]]]] (_,rfl,a,B,0,255,rfl,hB,λ b z=>xCM[qN z] xNy[Bf[HH SB HN Re[.n 255] this]],k))
inductive spNeedRow (vs:Sy) (H:Hp) (Q:VK) (QL:XK):Prop
 |mk (a:Qq) (B:LE) (h0:vs=F5) (h1:Υ=uK) (h2:xJs) (h3:∀l,Bv->xY8 sO):spNeedRow vs H Q QL
def xni:XL Jaf Jaf xwZ:=Tm
def ok_needrow (F:Ο "need_row" xwZ Jaf)(Y:ZK):xZy 4 spNeedRow:=by
 show((fR,fdR,R)=Y.isrow,xYU,D1 xni[λ QE A outer s H vs Q E hr h=>?_],vP a B hB hb k,Fx[yj[xHs[oV[xr6 R Y] R 0]] x7v] (_,rfl,a,B,rfl,hB,hb,_,rfl,AI),ZC a[BN hB] k)
inductive spNeedSize (vs:Sy) (H:Hp) (Q:VK) (QL:XK):Prop
 |mk (s:Nat) (h0:vs=xDx) (h1:s≤24) (h2:xJq):spNeedSize vs H Q QL
def xgL:XL Jaj Jaj xx8:=Tm
def xl2 (F:Ο "need_size" xx8 Jaj)(W:jm)(T:Df):xQW Jaj spNeedSize:=by
 show((GW:Vq fW U2 Jaa spWhole)=xQx T,Zq tg hg T.most xgL[λ QE A outer s H vs Q E hr h=>?_] _,Q9 z rfl hz k,jJ[xHs[xOL W[mJ[Mk[FK 24 hg tg]]]]] (_,rfl,_,_,_,rfl,_,rfl,?_),VT[IC[FO FX[A6 z]&&FO[A6 z] 24]][Ai xBW[IZ[by exact ygN rfl hz]]],aC[bp k])
inductive spOnes (vs:Sy) (H:Hp) (Q:VK) (QL:XK):Prop
 |mk (s:Nat) (h0:vs=xDx) (h1:IK s) (h2:i9[2^s-1]):spOnes vs H Q QL
def EQ:XL Jaj Jaj xxb:=Tm
def xq5 (F:Ο "ones" xxb Jaj):eg Jaj spOnes:=by
 show(D1 EQ[λ QE A outer s H vs Q E hr h=>?_],Q9 z rfl hz k,xb[bj[xYN Η]] (_,rfl,_,_,rfl,rfl,xP9 Wk[qG Dm SW hz] Z9,_,_,rfl,rfl,?_),VT[Il*2^xLL z-1=ST[2^z-1]][by
  have:=BP.xsh z;show([JH,Qo],DC e2[ST[2^z]=A6 2^z] Z6[WM this])])
 try dsimp only
 show aC k
def xgs (a b k)(h:b<2^k):(a*2^k)&&& b=0:=by
 show(G9[b&&& (2^k-1)=b][by rw [Nn,Lq h]][(a*2^k)&&& (2^k-1)=0][by rw [Nn,P6]],(e3:(a*2^k)&&& (b&&& (2^k-1))=((a*2^k)&&& (2^k-1))&&& b)=by rw [Nat.and_comm b,Nat.and_assoc])
 rw [e1,e2,Nat.zero_and] at e3;exact e3
def xqN (k):ST[2^k]=A6 2^k:=Z6
def xve (a b k:Nat)(h:b<2^k):Builtin.bitOr[xOz*2^xLL k] wd=ST[a*2^k+b]:=by
 show((e0:xOz*2^xLL k=ST[a*2^k])=by rw [JH,Int.natCast_mul,xqN],[e0,PyProof.Rows.bitOr_and,OC[Kp[_*2^_]] Wk,JH,JH,xgs a b k h],MQ[(λ {a b}=>Int.neg_inj.mp) rfl])
def xxm (x k:Nat):Builtin.bitAnd[A6 x][ST[2^k-1]]=ST[x%2^k]:=by
 rw [OC Wk Z5,JH,JH,Nn]
def xqE (x k:Nat):A6 x/2^xLL k=ST[x/2^k]:=by
 rw [JH,<-xqN];rfl
def xq1 (x k:Nat):A6 x*2^xLL k=ST[x*2^k]:=by
 rw [JH,Int.natCast_mul,xqN]
def xb0 {B:LE}(hm:YJ m)(hn:sC n):jv sO xt BU=A5 xJm:=by
 show(xwF,[HT.RG,HT.RG,IS,J9 hn,J9[IY hm hn],LY,LO,List.drop_take])
inductive xu5 (vs:Sy) (H:Hp) (Q:VK) (QL:XK):Prop
 |mk (a:Qq) (B:LE) (p s:Nat) (h0:vs=[AO,xDp,Iq]) (h1:Υ=uK) (h2:xJs) (h3:p+s≤xMH 8) (h4:s≤24) (h5:xBN[BP.val B/2^(xMH 8-(p+s))%2^s]):xu5 vs H Q QL
def xp5:¬(xZJ xzP):=Z8
def xmz:¬(x61):=Z8
def xuP:¬(x62):=Z8
def fW (d:Qq) (r k:Nat):ug:=[(("whole_bytes",Ed)),G7 "rest" r,ybs k]
def xjS (d):yhO zH[putF "rest" zH[yay d []]]=Vb 0 0:=by
 show(yhO zH[Hn xzP "rest" _[xDR:: [(("rest",xFn))]]])=_;show(EF x6H[DY x61[xDR::DY x62[((xKP,xFn)):: [(("rest_size",xFn))]]]=_],Ai xHV[Jk xuP])
def xpV (d)(r k r'):sD "rest" r' zr=Vb r' k:=YB[DY[xZJ xzP][xDR::EM[xZJ xKP][G7 xKP r':: [ybs k]] _]=_] x6H CD
def xqf (d)(r k k'):sD "rest_size" k' zr=Vb r k':=by
 show DY x61[xDR::DY x62[G7 xKP r::EM[x0w yhS] [G7 yhS k'] _]]=_;show gA xHV[Jk xuP] CD
def wT (d)(r k):zr=sD "rest_size" k[sD "rest" r[yay d []]]:=by
 show(υ h[xjS d] h2[sD "rest" r[yay d []]=[xDR,G7 "rest" r]][lP[DY[xZJ xzP][xDR:: [G7 "rest" r]]=_] x6H],EF h2[_=DY x61[xDR::DY x62[G7 xKP r:: [ybs k]]]],Ai xHV[Jk xuP])
def xqz (d)(r k):(zr).lookup xzP=zm:=by
 rw [wT,ar,xHV,ar,x6H,ar,CD]
def xtU (d)(r k):wq zr "rest"[vN r]:=by
 rw [wT,ar,Jk xuP,ar,CD]
def xfx (d)(r k):wq zr "rest_size"[vN k]:=by
 rw [wT,ar,CD]
def xfv (d)(r k){m:Str}(h1:pz[x0w m])(h2:pz[xZJ m])(h3:pz[m="whole_bytes"]):o4 zr m:=by
 rw [wT,ar,Ru,ar,Rg,ar,Jk h3];rfl
def xsY (d)(r k):xLW zr:=xAw 3
def xuF (C:Qq)(H:Hp)(p d:Qq)(N T:Nat):Prop:=∃dx B r k,G5 zr/\H d=uK/\BP.BR N T B r k/\k<8
structure xyI (K:Frag)(mg:Ι)(C:Qq):Prop where
 cl:Es
 nW:f9 "whole_bytes"
 nR:f9 "rest"
 nS:f9 "rest_size"
inductive xmo (C:Qq) (vs:Sy) (H:Hp) (Q:VK) (QL:XK):Prop
 |mk (p dx:Qq) (h0:vs=Cg) (h1:xO2) (h2:tK d Qq H' Hp[B7 d][Dy C 0 0->qC b[zc->jR->rq]]):xmo C vs H Q QL
def xby:gQ xuo:=Tm
def xn8 (F:yih xuo)(T:xSb):VI[xmo C]:=by
 show(D2 xby[λ QE A outer s H vs Q E hr h=>?_],yV p dx hp k,Fx[nZ rE[xCD ag ag]][nU B1 d hd],(UW:p≠d)=xGC hd,ω (_,rfl,p,C,dx,[],rfl,(Δ UW hp),T.cl,T.nW,xEt,_,rfl,p,C,dx,_,rfl,ad,T.cl,T.nR,pk,?_) (_,rfl,p,C,dx,_,rfl,ad,T.cl,T.nS,?_,?_))
 ·show xLW[Hn xzP "rest" _[xDR:: [(("rest",xFn))]]]
  try dsimp only
  show(w8 xp5,xAw 2)
 show(k d _ hd (dx,[],0,0,Qp ad[x2V l[xU5 C l][xjS d]],kh vJ vJ vJ ad,BP.BR.init,Z9) λ b o e hb=>?_,[UG,UG,UG,oQ hd],xCP)
inductive spMove (C:Qq) (vs:Sy) (H:Hp) (Q:VK) (QL:XK):Prop
 |mk (p d dx:Qq) (B:LE) (r k:Nat) (h0:vs=Cg) (h1:G5[Vb r[k+8]]) (h2:H d=uK) (h3:x1O) (h4:k≤100) (h5:vg[kF xDk[Vb[r%2^k] k]][H' d=BA[B++[r/2^k]]->lN[Ψ->CY->zY->Cf]]):ydd vs H Q QL
def xct:gQ xsK:=Tm
def xaC (F:Bq "move_byte" "BitRow.move_byte" xsK)(O:xZn)(T:xSb):rm 2 ydd:=by
 show(SC GO[Vq fO fdO Jaj spOnes][xq5 O][F.ok xct λ QE A outer s H vs Q E hr h=>?_],uk,(p,d,dx,B,r,k,rfl,hp,hd,hB,hk,q)=h,SC UW[p≠d][xXR hd A2][Gy[nZ[bj B5][Fm[fP B5[ao xxY B5 B5]][xFy[ao xxa B5[Iw GO O xGS]]]]]],SC e1[A6[Zx[k+8]]-8=xu][Int.sub_eq_iff_eq_add.mpr rfl] (_,rfl,p,C,dx,_,_,rfl,hp,T.cl,T.nS,xD4,_,_,rfl,rfl,_,rfl,p,C,dx,_,rfl,hp,T.cl,T.nS,xsY _ _ _,?_))
 try dsimp only
 show(xQh xqf,Sc RD[kF[(uo H zr) p] zr] ad hd1[(uo H zr) d=uK][Δ UW.symm hd],Ec (_,rfl,p,C,dx,_,_,rfl,RD,T.cl,T.nW,xqz _ _ _,xq hd1,?_) (_,rfl,p,C,dx,_,_,rfl,RD,T.cl,T.nR,xtU _ _ _,_,rfl,p,C,dx,_,_,rfl,RD,T.cl,T.nS,xD4,_,_,rfl,rfl,xNy,?_)[Hx d _ _ rfl hd1[xnd[Gk hB]] ?_])
 try dsimp only
 rw [xqE];generalize hH2:Fj[uo H zr] d[sO++[vN[r/2^k]]]=H2;show(Sc Q1[kF[H2 p] zr][xw8 hH2[aj UW] RD] hd2[H2 d=BA[B++[r/2^k]]][by rw [<-hH2,ad,Ji];rfl],SC Ts[∀c o,Ψ->CY->zY->ZL][λ c o e n1 n2=>by show([-hH2,aj n2,aj n1],xCP)] (_,rfl,p,C,dx,_,_,rfl,Q1,T.cl,T.nR,xtU _ _ _,_,rfl,p,C,dx,_,_,rfl,Q1,T.cl,T.nS,xD4,k,rfl,uJ hk,_,_,rfl,rfl,?_))
 try dsimp only
 show Γ xxm (_,rfl,p,C,dx,_,rfl,Q1,T.cl,T.nR,xsY _ _ _,?_)
 try dsimp only
 show(Γ xpV[Ww ad[Δ UW.symm hd2] λ c o e n1 n2=>?_],Δ n1[Ts c o e n1 n2])
inductive spPut (C:Qq) (vs:Sy) (H:Hp) (Q:VK) (QL:XK):Prop
 |mk (p d:Qq) (N T n s:Nat) (h0:vs=[FR,F6,Iq]) (h1:xSn) (h2:T≤4000) (h3:s≤24) (h4:n<2^s) (h5:vg[Dy C[N*2^s+n][T+s]][lN[Ψ->CY->zY->Cf]]):spPut C vs H Q QL
def xdD:XL x2E x2E xoF:=Tm
inductive Iputa0 (C:Qq) (H:Hp) (p:Qq) (d:Qq) (N:Nat) (T':Nat) (n:Nat) (s:Nat) (dx:Qq) (m:Nat) (σ:St) (H2:Hp):Prop
 |mk (h0:σ=[u5,Α n,Α s]) (B2:LE) (r2:Nat) (h1:kF[H2 p][Vb r2 m]) (h2:H2 d=Az[B2.map vN]) (h3:BP.BR[N*2^s+n][T'+s] B2 r2 m) (h4:m≤40) (h5:(∀c o,Ψ->CY->zY->ZL)):Iputa0 C H p d N T' n s dx m σ H2
def xfV (F:Bq "put" "BitRow.put" xoF)(S:yiI xx8 Jaj fS fdS)(W:x2I fW' U2)
  (O:xZn) (M:Me K C "move_byte" "BitRow.move_byte" xsK Jab fM fdM) (T:xSb) (X:Df):Cc 3 x2E[spPut C]:=by
 show(Sc GO[Vq fO fdO Jaj spOnes][xq5 O] GW[Vq fW' U2 Jaa spWhole][xQx X],A3 GS[iU 2 fS fdS Jaj spNeedSize][xl2 S W X] GM[iU 2 fM fdM Jab ydd][xaC M.F O T][F.ok xdD λ QE A outer st H vs Q E hr h=>?_],uk,(p,d,N,T',n,s,rfl,(dx,B,r,k,hp,hd,br,hk8),hT,hs,hn,q)=h,De UW p d[xXR hd A2] QW F9 CJ,Fx[Fm[oV GS S 2][ac[xHs[Br GW W[XM 1[Mk[yU GO O 2]]]]]
  (nZ[ao xok[ao xwS B5 Ζ] τ][nZ[Gi B5 Ζ][ae[zd[FW xwy B5][rD[xxt Η T.cl M GM hr]]]]])]][y3 s hs ?_],DK (_,rfl,_,rfl,s,rfl,(qG xV7 Dm hs),_,_,_,rfl,_,rfl,?_) e1[IC[FO FX BU&&FO BU[ST[2^s-1]]]][Ai[IZ Wk] xBW])
 try dsimp only
 show(xEe AI,SC hr128[r<128][Ja br.low[(xB3[KC hk8]:2^k≤2^7)]] (_,rfl,p,C,dx,_,_,rfl,hp,T.cl,T.nR,xtU _ _ _,_,rfl,_,_,rfl,rfl,xP9 Wk[qG xV7 SW hs] Z4,_,rfl,_,_,rfl,rfl,?_))
 try dsimp only
 show Γ[xve r n s hn] (_,rfl,p,C,dx,_,rfl,hp,T.cl,T.nR,xsY _ _ _,?_)
 try dsimp only
 show(RZ xpV RD[∀o,Gr[(zB p o) p]][λ _=>ad] (_,rfl,p,C,dx,_,_,rfl,RD _,T.cl,T.nS,xD4,_,rfl,_,_,rfl,rfl,_,rfl,p,C,dx,_,rfl,RD _,T.cl,T.nS,xsY _ _ _,?_),Wv[xu+A6 s=ST[k+s]][xIX])
 try dsimp only
 show(xPz xqf,br1=br.put hn);generalize hH1:uo[uo H[Vb[r*2^s+n] k]][Vb[r*2^s+n][k+s]]=H1;show(Sc hpA[kF[H1 p][Vb[r*2^s+n][k+s]]][Bg hH1 ad] hdA[H1 d=uK][by show([-hH1,vJ,vJ],hd)],SC Ts[∀c o,Ψ->CY->zY->xLD c][λ c o e n1 _=>by show([-hH1,aj n1,aj n1],xCP)][Cm[Iputa0 C H p d N T' n s dx] (k+s,rfl,B,_,hpA,hdA,br1,(CM [_,_] xBs[Eg xV7] WF x49 hs hk8),Ts)])
 rintro m σ H2 ⟨rfl,B2,r2,Q1,hd2,br2,hm,oth2⟩;show ω (_,rfl,p,C,dx,_,_,rfl,Q1,T.cl,T.nS,xD4,_,_,rfl,rfl,_,rfl,?_) iM
 ·show((h8:8≤m)=by have:=xA3;show qZ Dv Dv[yad this],vk m' m'[m=m'+8] (m-8,yd[Dh Re xHF Re xHF W1][Dh xHF Re xHF Re[UO Dv Dv h8]]),SC VO[IK B2.length][kG br2.tot] (_,λ σ' H' h=>h,_,rfl,p,dx,_,rfl,Q1,ZE,p,d,dx,B2,r2,m',rfl,Q1,hd2,VO,(HH xHD x49 Re[.n 100] hm),λ H3 RE hd3 oth3=>?_),(m',(Fv SB xHD),rfl,_,_,RE,hd3,br2.move,(HH xHD x49 Re x49 hm),λ c o e n1 n2=>oth3 c o[oth2 c o e n1 n2] n1 n2))
 ·show DC h8[m<8][by
   have Ul:FO wX xt≠true:=h1;by_cases h:wX≤xt
   ·show jF h Ul
   ·lia][q H2 (dx,B2,r2,m,Q1,hd2,br2,h8) oth2]
inductive spMany (C:Qq) (vs:Sy) (H:Hp) (Q:VK) (QL:XK):Prop
 |mk (p d:Qq) (N T:Nat) (h0:vs=Cg) (h1:xSn) (h2:i9 T):spMany C vs H Q QL
def xc2:gQ xuk:=Tm
def xaQ (F:Bq "many" "BitRow.many" xuk)(T:xSb)(X:Df):VI[spMany C]:=by
 show(D2 xc2[λ QE A outer st H vs Q E hr h=>?_],(p,d,N,T',rfl,(dx,B,r,k,hp,hd,br,hk8),q)=h,xb[Gi[xIg x5q] B5] (_,rfl,p,C,dx,_,_,rfl,hp,T.cl,T.nW,xqz _ _ _,d,_,rfl,BN hd,_,_,rfl,rfl,xQP,?_),DK (_,rfl,p,C,dx,_,_,rfl,hp,T.cl,T.nS,xD4,_,_,rfl,rfl,?_) e[wX*o7 sO+xu=A6 T'][by show(mY br.tot,S2[Iz x6c x6c][Iz x6c x6c])])
 try dsimp only
 show WQ q
inductive xjZ (C:Qq) (vs:Sy) (H:Hp) (Q:VK) (QL:XK):Prop
 |mk (p d:Qq) (N T:Nat) (h0:vs=Cg) (h1:xSn) (h2:T≤4000) (h3:Xx l Qq R LE[Bv->B0=nN->BP.xxH N T R->Χ->B8]):xjZ C vs H Q QL
def xj6:xzZ[Ax "told"] xq0:=Tm
def xhv (F:Bq "row" "BitRow.row" xq0)(T:xSb)(X:Df):VI[xjZ C]:=by
 show(D2 xj6[λ QE A outer st H vs Q E hr h=>?_],(p,d,N,T',rfl,(dx,B,r,k,hp,hd,br,hk8),hT,q)=h,Fx[DP 1 xj6.nd[xPr xGS][qk[FW xwV B5][aB[fP τ[ao xwS B5[y4 ag B5]]]]] τ] (_,rfl,p,C,dx,_,_,rfl,hp,T.cl,T.nW,xqz _ _ _,d,_,rfl,BN hd,UF l hl),De npl p l[xGC hl] RD[kF[(WA sO) p] zr][Δ npl hp],ω (_,rfl,p,C,dx,_,_,rfl,RD,T.cl,T.nS,xD4,_,_,rfl,rfl,_,rfl,?_) iM)
 ·show(Sc h0[0<k][by have:=xA3;show qZ Fp Fp xwJ] hr128[r<128][Ja br.low[(xB3[KC hk8]:2^k≤2^7)]],A3 VO x1O[kG br.tot] e1[wX-xu=ST[8-k]][WM[Jy hk8]] (_,rfl,xq ad,_,rfl,p,C,dx,_,_,rfl,RD,T.cl,T.nR,xtU _ _ _,_,rfl,p,C,dx,_,_,rfl,RD,T.cl,T.nS,xD4,_,_,rfl,rfl,?_))
  try dsimp only
  show xEe (_,_,rfl,rfl,xP9 Wk[qG Dv SW fj] Z4,l,_,_,rfl,rfl,ad,xnd[Gk VO],_,rfl,?_)
  try dsimp only
  show(Γ xq1[q l[B++[r*2^(8-k)]] _ hl xCS[br.row1 h0 hk8][y8 o]],XV[oQ hl][oQ hl] e)
 ·show((h0:k=0)=by
   have Ul:HY FX xu≠true:=h1;by_cases h:FX<xu
   ·show jF h Ul
   ·lia,xNW,Fx rfl[q l B _ hl ad br.row0[y8 o]],Eh hl e)
def xoK:¬(xNx xUv):=Z8
def fR (d:Qq) (t:Nat):ug:=[(("held",Ed)),G7 "taken" t]
def xs4 (d)(t):sD "taken" t[BG "held" d []]=va:=zG[DY[xNx xUv][Hm xUv d:: [G7 "taken" t]]=_][Jk xoK]
def xc3 (d)(t t'):sD "taken" t' va=fR d t':=YB[DY[xNx xUv][Hm xUv d::EM[xNx[Ig "taken"]] [G7[Ig "taken"] t'] _]=_][Jk xoK] CD
def xqR (d)(t):lh va "held"=zm:=by
 rw [<-xs4,ar,Jk xoK,ar,CD]
def xyk (d)(t):wq va "taken"[vN t]:=xHg xs4 ar
def xfq (d)(t){m:Str}(h1:pz[xNx m])(h2:pz[m="held"]):o4 va m:=by
 rw [<-xs4,ar,Ru,ar,Rg];rfl
def xcP (d)(t):xLW va:=xAw 2
universe K27
namespace K27
open PySem L2 QQ W17 W16 BP
seal PE PA PS PSs PT PW PG PI
def xzs (H:Hp)(x:V)(W:LE):Prop:=(SE x/\W=[])\/∃a,x=AO/\Υ=vZ
def xzs.same {H H':Hp}{x:V}(h:ZD)(s:Χ):xzs H' x W:=by
 rcases h with h|⟨a,e,h⟩
 ·show DZ h
 ·show DM (a,e,FV h)
inductive V1 (H:Hp):AH->BY B4
 |nil:V1 H [] []
 |cons {t:Qq} {q:gO} {ts:AH} {ps:B4}:Y8 [vN DO,vN GZ]->xRS->V1 H[t::ts][q::ps]
def V1.keep (h:xRS)(s:∀c xs,iO c->iN[H' c]):V1 H' ts ps:=by
 induction h with
 |nil=>show yx
 |cons a _ ih=>show xCB[FV a]
def V1.mono (h:xRS)(s:Χ):V1 H' ts ps:=h.keep λ c xs e=>xPE
def V1.app (h:xRS)(g:V1 H us qs):V1 H[ts++us][ps++qs]:=by
 induction h with
 |nil=>exact g
 |cons a _ ih=>show xCB a
def V1.len (h:xRS):xET ts.length:=by
 induction h with
 |nil=>rfl
 |cons a _ ih=>rw [Jn,Jn,ih]
theorem V1.at (h:xRS):∀{i:Nat} {t},xQb->∃q,AD ps q/\Y8 [vN DO,vN GZ]:=by
 induction h with
 |nil=>intro i t h;show E2
 |cons a _ ih=>
  intro i t h;cases i with
  |zero=>show(E2,DN h[BV a])
  |succ i=>show(E2,ih h)
def xtB {ts:AH}{i:Nat}(h:AD[E8] y):X6[xQb/\y=Z1]:=by
 show HG Jw;cases e:ts[i]? with
 |none=>show tO h h
 |some z=>show lG h[Ef z[xGg h]]
def xyQ {α:Type}{B:EW}{b:α}(h:AD B b):B.take[i+1]=xLX++Wz:=Ai Kj h
def xuF.keep (h:xSn)(s:∀c o,Ψ->(c=p\/c=d)->Cf):Dy C N T:=by
 show(XT dx B r k h1 h2 h3,(dx,B,r,k,xXt bK,FV h2 xFP,h3))
def xuF.sm (h:xSn):CU o[lj p]/\∃o,lj d:=by
 show(XT dx B r k h1 h2 h3,AU[EX h1][EX h2])
def xuF.ob (h:xSn):∃dx r k,G5 zr:=by
 show(XT dx B r k h1 h2 h3,E3 dx r k h1)
def xth {H:Hp}(h:∃o,xQJ)(n:Hg):a≠b:=SZ[by
 show(xAs o h,FZ n h h)]
structure Bts (K:Frag)(mg:Ι)(C:Qq):Prop where
 R:ZK
 T:xSb
 m:mg "BitRow"=zl
 needsize:ydo xx8 Jaj
 ones:Ν "ones" xxb Jaj
 init:IG[yih xuo/\xNl/\Sq]
 put:jV C "put" "BitRow.put" xoF x2E
 move:XA "move_byte" "BitRow.move_byte" xsK
 many:XA "many" "BitRow.many" xuk
 row:XA "row" "BitRow.row" xq0
structure FnD (K:Frag)(mg:Ι)(x:Str)(st:QC)(ps:CI)(f:Qq)(fd:Qx):Prop where
 F:∃dV,xEs x x f fd
 m:nO=kZ
 b:vc
 d:xMl xVq
theorem FnD.kp (F:xW3 x st ps f fd):ZI:=F.F.elim λ _ z=>z.kp
def itm:Pc->Sy
 | .sg s=>[ydm,Iq]
 | .cp b z=>[xAH,qR,vN z]
def PT' (H:Hp)(ts:AH)(P:M'):Prop:=xU7 P.length/\∀(i:Nat) a x,AD ts a->zv P->Zt a[itm x]
def xep (H:Hp)(l:Qq)(P:M'):Prop:=∃ts,pV=jX/\xHx H P
def PT'.keep (h:xHx H P)(k:∀a xs,iO a->iN[H' a]):xHx H' P:=(EO,λ i a x h1 h2=>bD[bw i a x h1 h2])
def PT'.snoc {P:M'}(h:xHx H P){t:Qq}{x:Pc}(e:Y8[itm x]):PT' H[ts++[t]][P++Dt]:=by
 show(ZU[by simp [EO]][λ i a y h1 h2=>?_],tB List.getElem?_append);rw [<-EO] at h2
 split at h1
 ·rename_i c
  show Ε[Ju c] h2[bw i a y h1 h2]
 ·rename_i c
  show(xU[Jk c] h2 e0[i-ts.length=0][by
   have:=x8c;simp at this
   assumption],tB e0,xJj e)
def xuf:yhH "copy"≠yhH "sign":=A9[V.str.inj h] Z8
def cpy (B:LE) (b:Nat):DQ LE
 |0=>B
 |n+1=>xPM++[iC xPM[xUG B n-b]]
theorem xwa (B)(b):∀n,BD xPM[dH n]
 |0=>rfl
 |n+1=>by
  show AR cpy[xwa B b n];simp;show qL rS Dw Dw rS
theorem xm9 {S:LE}(Rl:Hh)(hb:b≤p)(hz:z8[p+z])(h:∀i<z,S[p+i]?=S[p+i-b]?):∀n,n≤z->cpy xFN b n=S.take[p+n]
 |0,_=>rfl
 |n+1,hn=>by
  show((hl:BD[S.take[p+n]][p+n])=pI Jc,[cpy,xm9 Rl hb hz h n[Ly hn],hl],(h1:Zh[p+n])=Ja[LP hn _] hz,[show p+(n+1)=p+n+1 by show qL Dw rS rS Dw,Kj,IW h1]);congr 1;show(Dd h2[h n Z3][IW h1] h2,[Jm,L5,x7m,-h2]);rfl
inductive xke (vs:Sy) (H:Hp) (Q:VK) (QL:XK):Prop
 |mk (x:V) (m:Nat) (W:LE) (h0:vs=[x,qS]) (h1:ZD) (h2:xJr) (h3:x8Z m) (h4:xI6[Bv->B0=vZ->B8]):xke vs H Q QL
def xkB:XL ["before","most","window"] xFb xxn:=Tm
def xob {P:Qv}(F:Ο "need_window" xxn xFb)(N:xZq)(Y:ZK):Cc 5 xFb xke:=by
 show(xYU,D1 xkB[λ QE A outer s H vs Q E hr h=>?_],Fw x m W rfl hx hb hl k,D9[jY[xI7 Η] rE[DP 2 xkB.nd[oV[xTD Y] N 0][yn[qO x5x τ]] Ζ]])
 rcases hx with⟨rfl,rfl⟩|⟨b,rfl,hB⟩
 ·exact tT[xA7[ka Z9 l nl[ZF xwI nl ad]][A9 gU h]]
 ·show Ec[tT[xR9 A2]][VM b W hB hb[UF l hn]] (_,rfl,l,_,rfl,BN ad,_,rfl,_,_,rfl,rfl,_,rfl,xRD aX)
  ·show x3 rC IS[yR [_,_] Dw Ω[IP hl xwJ]]
  ·show BK[ZF[am hn] hn ad]
inductive xkt (vs:Sy) (H:Hp) (Q:VK) (QL:XK):Prop
 |mk (x:V) (W:LE) (h0:vs=Dt) (h1:ZD) (h2:xJr) (h3:sr) (h4:xI6[Bv->B0=vZ->B8]):xkt vs H Q QL
def xgc:XL Fu Fu xyn:=Tm
def xl7 {P:Qv}{f fW fN:Qq}{fd U2 Xd:Qx}(F:Ο "need_ahead" xyn Fu)(Wi:yhP xxn xFb fW U2)(N:xZq)(Y:ZK):Cc 6 Fu xkt:=by
 show(Zq tg hg Y.X.ahead xgc[λ QE A outer s H vs Q E hr h=>?_] _,XT x W rfl hx hb hl k,xJ2[Iw[xob Wi N Y] Wi[nj 0[FK 192 hg tg]]] (_,rfl,x,192,W,rfl,hx,hb,hl,k))
inductive xkv (vs:Sy) (H:Hp) (Q:VK) (QL:XK):Prop
 |mk (a:Qq) (x:V) (T W:LE) (h0:vs=zR x) (h1:Υ=Hj) (h2:xRc) (h3:xTX) (h4:jW) (h5:ZD) (h6:xJr) (h7:sr) (h8:xI6[Bv->B0=Hj->B8]):xkv vs H Q QL
def xkr:XL ["text","before","signs"] Jag xrX:=Tm
def xte {P:Qv}{f fA fW fN:Qq}{fd fdA U2 Xd:Qx}(F:Ο "need_signs" xrX Jag)(Ah:Gg "need_ahead" xyn Fu fA fdA)(Wi:yhP xxn xFb fW U2)(N:xZq)(Y:ZK):Cc 7 Jag xkv:=by
 show(xYU,Zq tg hg T.signs xkr[λ QE A outer s H vs Q E hr h=>?_] _,(a,x,S,W,rfl,ha,hSb,h1,QY,hx,hb,hl,k)=h,xDe W8 4,gp[Gn 2 xkr.nd[Ih[xTD Y] W8 N 0][yn[zo[CE x5x][qO x5x[FK 64 hg tg]]]][Fm[oV[xl7 Ah Wi N Y] Ah 1][Gz Ζ]]][VM a S ha hSb xRi],fw s0 xEE nl hll[(WA xEE) l=y0],uf[WA xEE][yD (_,rfl,l,_,rfl,BN hll,rfl,_,rfl,xRD aX)])
 ·show(xGL,ybY this,xKe IS[yR DU UI xHE[aM h1[pU this]]])
 refine(_,rfl,l,_,rfl,BN hll,_,_,rfl,rfl,_,rfl,xMP h A1)
 ·show x3 rC IS[yR DU[Ρ[AS XR]][lg 64][IP QY xwJ]]
 show(Aj,Bu[Q6 _ rfl x W ycm hb hl[λ l2 H2 s2 n2 Xc=>A1]],BK[xYK[s0.trans s2] nl[ES hll]])
inductive xmm (vs:Sy) (H:Hp) (Q:VK) (QL:XK):Prop
 |mk (a:Qq) (S:LE) (p b m:Nat) (h0:vs=[AO,xDp,qR,qS]) (h1:Υ=y0) (h2:b≤p) (h3:z8[p+m]) (h4:i9 qM):xmm vs H Q QL
def xsb:XL ["signs","place","back","most","size"] xVf xsP:=Tm
def xau (F:Ο "alike_from" xsP xVf):eg xVf xmm:=by
 show(D1 xsb[λ QE A outer st H vs Q E hr h=>?_],(a,S,p,b,m,rfl,hS,hb,hm,k)=h,Fx[DP 4 xsb.nd ag[zd[xP7[ZS Bb AZ][qo[oR xWt][oR[y4 xWt Ζ]]]][eI 4 xsb.nd x5J]] Bb] Zk,VB bL,Bu[Cm[λ n σ H2=>∃i,n=m-i/\σ=[BL,oz,yL,CB,Α i]/\H2=H/\i≤m/\∀j<i,S[p+j]?=S[p+j-b]?][zE m 0 rfl rfl B1[rV j hj hj[NM _]]]])
 rintro n σ H2 ⟨i,rfl,rfl,rfl,hi,QZ⟩;refine(_,rfl,_,rfl,_,_,rfl,rfl,_,rfl,iM)
 ·show(Sc h2[i<m][HI xA3 xLu] e1[tx+wy=rH i][xIX],Sc e2[rH i-iw=ST[p+i-b]][WM[KN hb]] l1[Zh[p+i]][CM [_,_,_,_][.a Hk Β] Fs rS Uf hm h2],SC l2[Zh[p+i-b]][K0 l1] (_,rfl,_,rfl,_,rfl,_,_,rfl,rfl,?_))
  try dsimp only
  show(dG,ω[u7 a _ _ _ x24[fJ l1] ?_] (_,rfl,_,rfl,_,rfl,_,_,rfl,rfl,_,rfl,_,_,rfl,rfl,?_))
  try dsimp only
  show rK e1 e2 (a,_,_,_,rfl,rfl,x24,fJ l2,rfl,_,rfl,xg h3 h3)
  ·show SC h4[S[(p+i)]=S[(p+i-b)]][yeP h3][Cm[λ σ' H'=>σ'=[BL,oz,yL,CB,Α[i+1]]/\H'=H2][λ σ' H' z=>(m-(i+1),(CM [_,_,_,_] xWq xWi SB SL W1[VD [_,_] Β Β h2]),i+1,rfl,u6,VJ, Z3,xCY)]]
   ·by_cases e:j=i
    ·show(DD,[xXS,IW l2,h4])
    ·exact QZ j[Ko[KC hj] e]
   ·exact VM _ _ rfl rfl rfl
  ·show(DK xM7 h4[S[p+i]?≠S[p+i-b]?][by
    show([xXS,IW l2],Sf,h3[xLB[JA z]])],Ε[xjq QZ h4 m Z3] k k)
 ·show(DK[bp xM7] h2[i=m][by
   show((Ul:¬(Ty[HY xJ xt]))=h1,cw[¬(xJ<xt)][SZ[Ul xHW]])],xNN,Ε[xoi QZ] k k)
inductive xkL (vs:Sy) (H:Hp) (Q:VK) (QL:XK):Prop
 |mk (a:Qq) (S:LE) (p:Nat) (h0:vs=zR xDp) (h1:Υ=y0) (h2:xJn) (h3:IK S.length) (h4:∀t,B7 t->Q Z1[Hf H t [xAH,vN xIr,vN GD]]):xkL vs H Q QL
def xwo:XL ["signs","place","most","best_back","best_size","back","size"] x6I xqZ:=Tm
def xhe (F:Ο "longest_copy" xqZ x6I)(AF:Gg "alike_from" xsP xVf fA fdA)(T:Df):vn x6I xkL:=by
 show(DW tf hf T.far tm hm T.mostC,D1 xwo[λ QE A outer st H vs Q E hr h=>?_],Fw a S p rfl hS hp hlen k,υ hn xzY QW F9 CJ,gp[ID 2 xwo.nd[Ez[xrA hn] T.min OP[zM[FK 18 hm tm][y4 iJ τ]]] 3 xwo.nd ag[DP 4 xwo.nd ag[nK[yeB Z7[Mk[xS[Ez[xrA hn] T.min OP[aa[FK 255 hf tf] oF]]]]] 5 xwo.nd[ac[qk[qo Bb Ζ] xmQ]
   (xQg[qo[oR xWt][oR[y4 xWt qK]]][DS 6 xwo.nd[Br[xau AF] AF[mJ[Wt 1 5 2]]][xQg[qO jy Bb][DS 3 xwo.nd qK[eI 4 xwo.nd jy]]]])]][cx[aa xx7[jA 3 4]]]]] (_,rfl,a,_,rfl,BN hS,_,rfl,_,_,rfl,rfl,_,_,rfl,A1),(em:EM[xW8-tx<18][xW8-tx] 18=ST HF)=by
  rw [IS];unfold most
  split<;>lia)
 try dsimp only
 show(RZ em hm2[HF≤18/\z8[p+HF]][by unfold most;show AU[qG[.n 18][.n 18] G8][CM [_,_,_,_][Ρ xF1] xY Ω Uf Fb[rA [_,_] SB Re hp]]] bL,x8w,DK Ei JR[∀v5 v6,R1 [BL,oz,Α HF,Α xIr,Α GD,v5,v6] H][λ v5 v6=>HU A1[y3 _[xj 3] k]],Aj,SC ef[EM[tx<255] tx 255=ST UM][by
  unfold far
  split<;>lia][mO _ _ _ rfl ?_])
 try dsimp only
 show(RZ ef hfar[UM≤255/\UM≤p][by unfold far;show AU G8 Fb][F1 _ _ rfl 1[ST UM+1] rfl (Z5,Z5,Z5,Z5) ?_],(en:xa[ST UM+1] 1=UM)=Z5)
 try dsimp only
 show Γ en[xPI 1 UM[λ j σ H2=>∃v5 v6,σ=[BL,oz,Α HF,Α (lc S p HF j).1,Α oY,v5,v6]/\H2=H][xAY none none] ?_ ?_]
 ·rintro j σ H2 hj ⟨v5,v6,rfl,rfl⟩;have eb:Il+xPP=qU j:=(xJ9[Y6 UI] SB UI)
  try dsimp only
  show([eb],ZT g2[VM _ rfl _ rfl iM])
  ·show((h2:oY=HF)=yd0,Tl e[xpI h2 UM x6J] J[JR[Α[j+1]] v6]);unfold lcAt at J;show lG J J
  ·show((h2:oY≠HF)=SZ[h1[xLB z]],χ hle[wv S p HF j] bf,YK,G9[tx+ST oY=rH oY][xIX][rH oY-qU j=ST[p+oY-(j+1)]] Z5,A3 l1[Zh[p+oY]] Z5 l2[Zh[p+oY-(j+1)]][CM [_,_,_,_][m8 x5r] xBt SB SL l1 fj] (_,rfl,_,rfl,_,rfl,_,_,rfl,rfl,?_))
   try dsimp only
   show(dG,ω[u7 a _ _ _ x24[fJ l1] ?_] (_,rfl,_,rfl,_,rfl,_,_,rfl,rfl,_,rfl,_,_,rfl,rfl,?_))
   try dsimp only
   show rK e1 e2 (a,_,_,_,rfl,rfl,x24,fJ l2,rfl,_,rfl,xg h3 h3)
   ·show ω (_,rfl,_,rfl,_,rfl,_,rfl,a,S,p,j+1,HF,rfl,hS,IY hj hfar.2,String.Pos.Raw.mk_le_mk.mp hm2.2,?_) (_,rfl,_,rfl,_,_,rfl,rfl,_,rfl,xg h4 h4)
    ·show(SC h5[oY<pL[j+1] HF][HI[Jd h4] xLu] (_,rfl,_,rfl,Α[j+1],Α[pL[j+1] HF],?_,rfl),Ai lc[Ju h5])
    ·show(SC h5[¬oY<pL[j+1] HF][SZ[h4[IZ[xn[Dp z]]]]] (Α[j+1],Α[pL[j+1] HF],?_,rfl),Ai lc[Jk h5])
   ·show(DK (Α[j+1],v6,?_,rfl) h4[S[p+oY]?≠S[p+oY-(j+1)]?][by
     show([xXS,IW l2],Sf,h3[xLB[JA z]])],Ar[xbw h4])
 ·show(xGO H2 v5 v6 rfl rfl,JR v5 v6)
inductive xkO (vs:Sy) (H:Hp) (Q:VK) (QL:XK):Prop
 |mk (a:Qq) (x:V) (W T:LE) (h0:vs=zR x) (h1:Υ=Hj) (h2:ZD) (h3:xJr) (h4:xRc) (h5:x8Z 255) (h6:xKa 500) (h7:∀l P H',Χ->Bv->xep H' l P->xSN[W++T] P[DV W T]->B8):xkO vs H Q QL
def xws:XL ["text","before","own_signs","signs","place","pieces","found"] Jag xrV:=Tm
structure Wins (K:Frag)(mg:Ι):Prop where
 R:ZK
 needrow:x2u xwZ Jaf
 needwin:Ν "need_window" xxn xFb
 alike:Ν "alike_from" xsP xVf
 longest:Ν "longest_copy" xqZ x6I
def xl4 {P:Qv}{w:Qw}{K:Frag}(F:yiV xrV Jag f fd)(Y:Wins K mg):xB7 Jag xkO:=by
 show(ygp R N NW AF L,xBO R.X,DW tl hlc T.least tf Yb T.far,(dV,FF)=F.F,rN[FF.ok xws λ QE A outer st H vs Q E hr h=>?_] _,(a,x,W,Tx,rfl,ha,hx,hbW,hbT,hW,hT,k)=h,tP W8[Dk 4] hr5 5,xJ1[ID 2 xws.nd[Ih[xTD R] W8 N 0] 3 xws.nd[rY[aE[xob NW N R] hr5 NW[nj 1[FK 255 Yb tf]]] Ζ][DS 4 xws.nd[y4[xKj AZ] x5x][DP 5 xws.nd rE[zd[ZS Bb[xKj AZ]][DS 6 xws.nd[Iw[xhe L AF R.X] L[jA 3 4]][vm[HX xwy[zU jy][FK 3 hlc tl]][Fm[x1p qK[sf 6]][eI 4 xws.nd[xOI[zU jy]]]][Fm[fP qK[cx[zM xx7[V9 AZ Bb]]]][eI 4 xws.nd x5J]]]]] qK]]][VM a Tx ha hbT[λ l1 n1=>A1]],Aj,SC s1[gk[oX l1 x2j]][am n1][yD (_,rfl,x,255,W,rfl,ybZ,hbW,hW,λ l2 H2 s2 n2 Xc=>?_)],SC h1a[H2 l1=Az x2j][ES ad] (_,rfl,l2,l1,_,_,rfl,rfl,Xc,h1a,bV[by show(mY IS,Bj [_,_] WF[CN[.n 255] 500] WF Bc hW hT)],λ l3 n3=>A1),Aj,s3=Dn[lW++x2j] n3)
 try dsimp only
 rw [<-Ji] at s3 ⊢;show((hS3:(ZX H2 l3[W++Tx]) l3=BA[W++Tx])=ad,Tl hS1[Ge h1a] YM[xLT s3]);generalize hH3:ZX H2 l3[W++Tx]=H3 at*;clear hH3 s3 n3 h1a s2 n2 s1;show(Bu (_,rfl,l3,_,rfl,BN hS3,_,rfl,l1,_,rfl,BN hS1,_,_,rfl,rfl,A1),Aj,(ep:o7[A5[W++Tx]]-o7 x2j=ST W.length)=by
  show EP IS IQ;lia)
 try dsimp only
 rw [ep];generalize hS:W++Tx=S at*;show(SC hSl[xA8[W.length+Tx.length]][by rw [<-hS,IQ]][yD[ka Z9 l5 n5 A1]],Aj,υ s5[Dn [] n5] n5'[B7 l5][x29 YM],υ hS5[Bn hS3] n35[l3≠l5][ai hS3 n5],χ s05[YM.trans s5][yD[Cm[λ n σ H2=>∃q Pp ts v6,n=eE q/\σ=[BL,dt,π l1,xX9,Α q,xH1,v6]/\z8 q/\xSN S Pp q/\H2 l3=y0/\H2 l5=jX/\xHx H2 Pp/\yi] (eE W.length,W.length,[],[],none,rfl,rfl,Nat.le.intro hSl.symm,rfl,hS5,ad,ZV[λ i b y h=>E2],s05)]])
 rintro n σ H2 ⟨q,Pp,ts,v6,rfl,rfl,hq,hw,h3,h5,Tu,sm⟩;refine(_,rfl,_,rfl,l3,_,rfl,BN h3,_,_,rfl,rfl,_,rfl,xg hc hc)
 ·show(SC VX[Zh q][x3 xXT IS xLu][Cm[λ σ' H'=>∃q' Pp ts v6,q<q'/\σ'=[BL,dt,π l1,xX9,Α q',xH1,v6]/\z8 q'/\xSN S Pp q'/\H' l3=y0/\H' l5=jX/\xHx H' Pp/\Χ][λ σ' H' z9=>by show((q',Pp,ts,v6,QF,z1,z2,z3,z4,z5,z6,z7)=z9,(eE q',(Bx [_,_,_,_,_][ZH[xL3 Rn]][Gh xWi] SB SL QF W1[VD [_,_] SL SL z2]),q',Pp,ts,v6,rfl,z1,z2,z3,z4,z5,z6,z7))]],(hlen:z8 Pp.length)=by have:=xwX hw;show ED [_,_,_,_][BE HM] WO SL hq this,χ hpz[xrR VX][xzK g2 (_,rfl,_,rfl,l3,S,q,rfl,h3,VX,(G6 [_,_,_] xGT[BZ 255[BZ 500 Φ]] Dm hW hT[IR hSl]),λ t nt=>bf)],YK,υ st[xQS [xAH,xPb,xO1]] ht[jB[(GJ t [xAH,xPb,xO1]) t] [xAH,xPb,xO1]] ad,Hs h3t[GQ h3] h5t[GQ h5] htst[Tu.keep (H':=GJ t [xAH,xPb,xO1]) (x0q[GQ z])] smt[sm.trans st]);generalize hHt:GJ t [xAH,xPb,xO1]=Ht at*;clear hHt st;show SC hap[∀H4 u,H4 l5=jX->H4 l3=y0->xHx H4 Pp->xXo->jB[H4 u][itm xP2]->
    xEq l5[E8++yC u] l3=y0/\xEq l5[E8++yC u] l5=Az[xEl YG]/\PT'[Fj H4 l5[E8++yC u]][ts++YG][Pp++[xP2]]/\gk[Fj H4 l5[E8++yC u]]][by
   intro H4 u a5 a3 at' as au;show(SC kt[∀b xs,iN[H4 b]->iN[xEq l5[E8++yC u] b]][λ b xs z=>Δ[wY a5 Xy] z] (Δ n35 a3,xCS,(at'.keep kt).snoc[kt _ _ au],Μ b o z),CZ z n5'[as _ _ z])] (_,rfl,t,_,_,_,rfl,rfl,rR,xQN,_,_,rfl,rfl,_,rfl,xg h6 h6)
  ·show(Sc h7[zS ij][HI[Jd h6][OQ.mp this]] epc[xP2=.cp yaI ij][Fq pcAt[Ju h7]],(b3,b5,bt,bs)=hap Ht t h5t h3t htst smt[LT epc ht],(_,rfl,xq h5t,_,rfl,l5,_,_,rfl,rfl,h5t,bW[by show(mY xB4,DE [_,_,_,_] x6s[BZ 255[BZ 500 xGX]] Re Bc hW hT[ym hSl hlen])],?_),SC ht2[jB[kS Ht l5[E8++[Z1]] t] [xAH,xPb,xO1]][Δ[aJ ht h5t Xy] ht] (_,rfl,_,rfl,t,_,_,_,rfl,rfl,QV.of ht2,xQN,_,_,rfl,rfl,?_));rw [epc] at bt hpz;show(Dd hw2[xxr hw VX] epc hw2,(hz:ydK yaI ij=ij)=rfl);rw [hz] at hw2 hpz;show DK (q+ij,_,_,xQE,Lc hpz.1,?_,hpz.2,hw2,b3,b5,bt,bs) e2[xQF+ST ij=ST[q+ij]][xIX]
   try dsimp only
   show Ar e2
  ·show(A3 h7[¬zS ij][SZ[h6[IZ[Bf[HH DH Re DH Re z]]]]] epc[xP2=.sg S[(q)]][by show(Fq pcAt[Jk h7],x1C VX)] (_,rfl,xq h5t,_,rfl,_,rfl,l3,_,_,_,rfl,rfl,QK.of h3t,fJ VX,ye,UF u nu),o6 su[Zj [ydm,vN S[(q)]] nu] b3 b5 bt bs[hap[Hf Ht u [ydm,vN S[(q)]]] u[xJR h5t][xJR h3t][htst.keep[x0q[xJR z]]][smt.trans su][LT epc ad]],ω[Hx l5 _ _ rfl[xJR h5t][bW[by show(mY xB4,DE [_,_,_,_] x6s[BZ 255[BZ 500 xGX]] Re Bc hW hT[ym hSl hlen])]] ?_] xC8,hw2=xxr hw VX);rw [epc] at bt hw2 hpz;exact(q+1,_,_,xQE,ON _,rfl,hpz.2,hw2,b3,b5,bt,bs)
 ·have VX:xBi q:=by
   show(UN h1[¬(Ty[HY xQF xW8])] hc IS h1,cw[¬(xQF<ST S.length)][SZ[h1 xHW]])
  subst VX;show HU xM7[k l5 Pp H2 sm n5' (ts,h5,Tu) hw]
def app (B:LE):Pc->LE
 | .sg s=>B++[s]
 | .cp b z=>xVT z
def runP (B:LE)(P:M'):LE:=P.foldl app B
def pcP:Pc->B4
 | .sg s=>[((0,1)),((s,8))]
 | .cp b z=>[((1,1)),((b,8)),((z-3,4))]
def pP (P:M'):B4:=P.flatMap pcP
def gz (B:LE):BY Pc
 | .sg s=>By s
 | .cp b z=>Hh/\xDJ/\sC b/\aP/\SY
def GR:xRP M'
 |_,[]=>True
 |B,x::P=>gz B x/\GR[om x] P
def xtb (B)(x):BD[om x][dH x.size]:=by
 cases x with
 |sg s=>show DV B [s]=dH 1;simp
 |cp b z=>exact xwa B b z
def xhu (P Q:M'):pP[P++Q]=pP P++pP Q:=by simp [pP]
def dP (x)(P):pP[x::P]=pcP x++pP P:=by simp [pP]
def xdl (x:Pc):pP Dt=pcP x:=by simp [pP]
theorem GR.at:∀{P} {B} {i} {x},GR B P->zv P->gz[runP B[P.take i]] x
 |y::P,B,0,x,h,e=>by show(xWC,yA EO)
 |y::P,B,i+1,x,h,e=>HI[GR.at (P:=P) (B:=om y) (i:=i) (x:=x) bw xLt] this
def xil (h:gz B x):AL x.size/\x.size≤18:=by
 cases x with
 |sg s=>show AU ρ[HA[AL 18]]
 |cp b z=>
  obtain⟨_,_,_,h1,h2⟩:Hh/\xDJ/\sC b/\aP/\SY:=h;show AU[by show AL z;show qZ DH AM h1] h2
theorem GR.len:∀{P} {B:LE},GR B P->xBd[dH P.length][xHy B]
 | [],B,_=>ρ
 |x::P,B,h=>by
  show(yY[GR.len (P:=P) (B:=om x) bw][xil EO],xXs xtb);show xBd[dH[HR 1]][xHy[om x]];show Bj [_,_,_,_][AS xV6] Fs Dw Uf h1 zg
theorem xpn:cj P B[GR B P][Good[pP P]]
 | [],_,_=>λ q hq=>by cases hq
 |x::P,B,h=>by
  show ZR[xpn (P:=P) (B:=om x) bw];intro q hq;show(xGH dP,sJ hq hq hq)
  ·cases x with
   |sg s=>
    show((hs:By s)=EO,x4o pcP,oH hq)
    ·decide
    ·exact hs
   |cp b z=>
    obtain⟨_,h2,_,h4,h5⟩:Hh/\xDJ/\sC b/\aP/\SY:=EO;show(x4o pcP,dm hq)
    ·decide
    ·show dC[b<2^8][Lf h2]
    ·show z-3<2^4;omega
  ·exact ih q hq
def xaN (x):xKq x=9\/xKq x=13:=by
 cases x with
 |sg s=>show xYh
 |cp b z=>show DM rfl
theorem xq6:∀P:M',x80 P≤13*P.length
 | []=>ρ
 |x::P=>by
  rw [dP,aU,Jn];have:=xq6 P;rcases xaN x with h|h<;>lia
def xdy (hb:Zo S)(hp:xJn):gz xFN fg/\app xFN fg=S.take[p+xU1]:=by
 cases e:fg with
 |sg s=>
  show(χ h[xb4 hp e][FQ[hb s[J7 h]]],YB[xFN++[s]=S.take[p+1]] Kj h)
 |cp b z=>
  show((h1,h2,h3,h4,h5,h6,h7,_)=xb3 hp e,HU[FQ (h1,h3,pI Jc,h4,h5)][xm9 h1 h2 h6 h7 z ρ])
theorem xmM (hb:Zo S):∀{P} {p q},xDD P q->GR xFN P/\xHy xFN=S.take q
 | [],p,q,h=>CR h[Gs trivial]
 |x::P,p,q,(h1,h2,h3)=>by
  show(xNN,DW g e[xdy hb h1] i1 i2[xmM hb h3],FQ (g,WQ i1));show xHy[app xFN fg]=_;show WQ i2
theorem xyj:∀{P P'} {p q},xDD P q->xDD P' q->P=P'
 | [],[],_,_,_,_=>rfl
 | [],x::P',p,q,h,h'=>by
  show(xy,x3[xwX h'] Jn[yR [_,_] Dw Re this])
 |x::P,[],p,q,h,h'=>by
  cases h';show x3[xwX h] Jn[yR [_,_] Dw Re this]
 |x::P,x'::P',p,q,(_,h2,h3),(_,W2,h3')=>by
  subst h2 W2;rw [xyj h3 h3']
def xrq {P:M'}(hW:Zo W)(hT:xRd)(h:xSN[W++T] P[DV W T]):GR W P/\xHy W=W++T/\xLZ P.length:=by
 show(xMv hb[Zo[W++T]][λ b z=>by
  show Zd z
  ·exact hW b z
  ·exact hT b z] h1 h2[xmM hb h],tB Qn);rw [Ki] at h2;show x3[xwX h] IQ (h1,h2,LX.mp this)
structure Wys (K:Frag)(mg:Ι):Prop where
 V:Wins K mg
 pieces:IG[yiV xrV Jag f fd]
 needahead:Ν "need_ahead" xyn Fu
 needsigns:Ν "need_signs" xrX Jag
universe K27
namespace SM
section
variable {α κ:Type}{blt:κ -> xCj}{kf:cq}
structure Ord (blt:κ->xCj):Prop where
 irr:∀a,AG[blt a a]
 tr:∀a b c,gy a b->gy b c->gy a c
 neg:∀a b c,gy a c->gy a b\/gy b c
 tot:∀a b,AG[blt a b]->AG[blt b a]->a=b
variable (O:x4q)
abbrev Le (blt:κ->xCj)(kf:cq)(x y:α):Prop:=AG[xGF y qi]
abbrev Lt (blt:κ->xCj)(kf:cq)(x y:α):Prop:=gy qi[kf y]
include O
def le_of_lt {x y:α}(h:xCl x y):xP6:=by
 cases e:xGF y qi with
 |false=>show xCP
 |true=>have:=O.tr _ _ _ h e;show AQ O.irr this this
def le_trans {x y z:α}(h1:xP6)(h2:xGf y z):xGf x z:=by
 cases e:xGF z qi with
 |false=>show xCP
 |true=>
  show xBu[x4r[kf y] _ e] h
  ·show AQ[BJ[xGF z[kf y]] false h2] h h
  ·show AQ[BJ[xGF y qi] false h1] h h
def xfy {x y z:α}(h1:xCl x y)(h2:xGf y z):xCl x z:=by
 show xBu[x4r[kf z] _ h1] h
 ·show j8
 ·show AQ[BJ[xGF z[kf y]] false h2] h h
def xri {x y z:α}(h1:xP6)(h2:xCl y z):xCl x z:=by
 show xBu[x4r qi _ h2] h
 ·show AQ[BJ[xGF y qi] false h1] h h
 ·show j8
omit O in
def eqv (blt:κ->xCj) (kf:cq) (k:κ) (x:α):Bool:= ! blt qi k&& ! blt k qi
omit O in
def xy7 {k:κ}{x:α}:xCh k x<->AG[blt qi k]/\AG[blt k qi]:=by unfold eqv;simp
omit O in
def QU (blt:κ->xCj)(kf:cq)(xs ys:EW):Prop:=∀k,xs.filter x8r=ys.filter x8r
omit O in
def QU.refl (xs:EW):x10 xs:=QO
omit O in
theorem QU.trans {xs ys zs:EW}(h:xIh)(g:nr ys zs):x10 zs:=λ k=>(lM).trans[g k]
omit O in
theorem QU.symm {xs ys:EW}(h:xIh):nr ys xs:=λ k=>(lM).symm
omit O in
def QU.app {xs ys us vs:EW}(h:xIh)(g:nr us vs):nr[xs++us][ys++vs]:=λ k=>by rw [JN,JN,lM,g k]
omit O in
def xo1 (O:x4q)(x:α):xCh qi x:=by unfold eqv;simp [O.irr]
def QU.mem {xs ys:EW}(h:xIh){x:α}(hx:x∈xs):x∈ys:=by
 have:x∈xs.filter x7l:=LZ.mpr (hx,xQy);show xKe h (LZ.mp this).1
def xrg {X Y:EW}(h:dv Y X[xCl y x]):nr[X++Y][Y++X]:=λ k=>by
 rw [JN,JN];by_cases hx:∃x∈X,xCh k x
 ·show(ak x hx ex hx hy[Y.filter x8r=[]][Lh.mpr λ y hy ey=>by
   show XF l[h y hy x hx] ex[xy7.mp ex] ey[xy7.mp ey];have:gy[kf y] k\/gy k qi:=x4r k _ l;show II this
   ·show qX ey.1
   ·show qX ex.2],[hy,JM,Kd])
 ·show((hx':X.filter x8r=[])=Lh.mpr λ x hx' ex=>hx (x,hx',ex),[hx',JM,Kd])
theorem xsn:∀{xs ys:EW},xs.Pairwise xGf->ys.Pairwise xGf->xIh->xs=ys
 | [],[],_,_,_=>rfl
 | [],y::ys,_,_,h=>by have:=ydu[xPd y ys];show xMs
 |x::xs,[],_,_,h=>by have:=xTT h[xPd x xs];show xMs
 |x::xs,y::ys,hx,hy,h=>by
  show(Tl hxm[xTT h[xPd x xs]] hym[ydu[xPd y ys]],Sc l1 xP6[by
   show rg hym z
   ·exact O.irr _
   ·exact xVa hx y z] l2[xGf y x][by
   show rg hxm z
   ·exact O.irr _
   ·exact xVa hy x z],Sc ex[xCh qi x] xQy ey[xCh qi y][xy7.mpr (l1,l2)],Y7[h qi]);rw [JL ex,JL ey] at e;show((rfl,_)=Ms e,(ht:xIh)=λ k=>by
   show Y7 lM;by_cases z:xCh k x
   ·show aG[JL z][JL z] e (Ms e).2
   ·show aG[JU z][JU z] e e,[xsn[xVh hx][xVh hy] ht])
omit O in
structure xwu (blt:κ->xCj)(kf:cq)(all out A B:EW):Prop where
 s1:xC1[uY A]
 s2:xC1[uY B]
 sq0:xOO[uY A++B]
omit O in
def xwu.pushA {all out A B X:EW}(h:x7q[X++A] B)(hX:Ic X[Ee B xP6]):yc3[uY X] A B:=by
 show(pJ[LT IU h.s1] ?_[LT[IU out] h.sq0],[IU,Jt],yY xLq xLr,pJ h1.1 ?_[λ a ha b hb=>?_])
 ·show LT Jt ((Jt.mp[AV h1]).1,AV h2,hX)
 ·show Zd hb
  ·exact EU h1 a ha b[wz z]
  ·exact EU h2 a ha b z
def xwu.pushB {all out A B Y:EW}(h:x7q A[Y++B])(hY:dv Y A[xCl y x]):yc3[uY Y] A B:=by
 show(yY xLq xLr,yI ?_[LT IU h.s2])
 ·show rK IU Jt[xJ7 h1.1[λ a ha b hb=>?_]]
  ·show LT Jt ((Jt.mp[AV h2]).1,AV h1,λ a ha b hb=>le_of_lt O[hY a ha b hb])
  ·show Zd hb
   ·exact EU h2 a ha b[wz z]
   ·exact EU h1 a ha b z
 ·refine xTU h.sq0;have:nr[uY[Y++A]++B][uY[A++Y]++B]:=ydq[QU.refl out|>.app (xrg O hY).symm] B;rw [<-IU,<-IU] at this;show Bg[IU[uY A]] this
omit O in
def xwu.endA {all out A:EW}(h:x7q A []):xC1[uY A]/\xOO[uY A]:=(h.s1,by show yee;rwa [JM] at this)
omit O in
def xwu.endB {all out B:EW}(h:x7q [] B):xC1[uY B]/\xOO[uY B]:=(h.s2,by show yee;rwa [JM] at this)
omit O in
structure xwt (blt:κ->xCj)(kf:cq)(all A B out:EW):Prop where
 s1:xC1[YF A]
 s2:xC1[YF B]
 sq0:xOO[YF[A++B]]
omit O in
def xwt.pushB {all A B out Y:EW}(h:xPe A[B++Y] out)(hY:Ic A[Ee Y xP6]):xPe A B[YF Y]:=by
 show(pJ ?_[Bg IU h.s2][xw8 IU[IU A] h.sq0],yY xLq xLr,Γ Jt[xJ7 h1.1[λ a ha b hb=>?_]])
 ·show LT Jt (AV[Jt.mp zg],AV h2,λ a ha b hb=>EU h2 a[vA ha] b hb)
 ·show Zd hb
  ·exact hY a ha b z
  ·exact EU h1 a ha b z
def xwt.pushA {all A B out X:EW}(h:xPe[A++X] B out)(hX:dv B X[xCl y x]):xPe A B[YF X]:=by
 show(yY xLq xLr,yI[Bg IU h.s1] ?_)
 ·show Γ Jt[xJ7 zg[λ a ha b hb=>?_]]
  ·show LT Jt (AV[Jt.mp h1.1],AV h1,λ a ha b hb=>EU h1 a[vA ha] b hb)
  ·show Zd hb
   ·exact le_of_lt O[hX a ha b z]
   ·exact EU h2 a ha b z
 ·refine xTU h.sq0;have:nr[YF[A++(B++X)]][YF[A++(X++B)]]:=ydq[QU.refl A|>.app (xrg O hX).symm] out;rw [<-IU,<-IU] at this;show Bg[IU[A++B]] this
omit O in
def xwt.endA {all A out:EW}(h:xPe A [] out):xC1[YF A]/\xOO[YF A]:=(h.s1,by show yee;rwa [JM] at this)
omit O in
def xwt.endB {all B out:EW}(h:xPe [] B out):xC1[YF B]/\xOO[YF B]:=(h.s2,h.sq0)
universe s
universe SM
namespace SG
open PySem PyProof.Rows
def xfF:Bool->Keyed->UV->dD[DQ[xBD sQ]]:=sortPriv%PySem.Builtin.gallop
def xae:UV->UV->xBD UV:=sortPriv%PySem.Builtin.mergeLo
def xad:UV->UV->xBD UV:=sortPriv%PySem.Builtin.mergeHi
def kf (κ:KeyKind) (p:Keyed):κ.α:=(yjE).getD κ.dflt
def xla (κ:KeyKind)(p:Keyed):Prop:=∃a,TD yjE a
def ord (κ:KeyKind):SM.Ord κ.blt:=(κ.irrefl,κ.trans,κ.negTrans,κ.total)
def xfR (hO:κ.OneLt)(hk:vU)(hx:xAg x)(hy:xAg y)(h:U5[oJ x y]):
  kD[lt' x y]:=by
 show(DW a ha hx b hb hy,zq lt'_eq wB,[hk,keyLt'_oneType],G1[wpS_lift[Nu[hO prog w A _ s ke Vx a b ha hb Ej]]],XO kf,aG ha hb h[JT h])
def xrv (hi:i<arr.size)(h:Q arr[(i)] sq0):kD[elem' arr i]:=XV elem'_eq[yhI i hi][JT h]
def xy2 (κ:KeyKind) (left:Bool) (key:Keyed) (arr:UV) (j:Nat):Bool:=Uc left[κ.blt[x0m arr j] xGs][! yfM[x0m arr j]]
def fZ {κ:KeyKind}{arr:UV}{j:Nat}(h:j<arr.size):x0m arr j=sW arr[(j)]:=xG6 KK[yhI j h]
def xoL (left:Bool) (key:Keyed) (arr:UV) (j:Nat):xBD xLd:=elem' arr j>>= λ y=>Uc left[lt' y key][lt' key y>>= λ o=>pure[o.map λ c=> ! c]]
def Do {prog:Qv}{w:Qw}{A:Qy}{E:Ak}{s:Qu}{κ:KeyKind}(hO:κ.OneLt){sq0:SortSt}{left:Bool}{key:Keyed}{arr:UV}{j:Nat}{Q:xLd->yz}(hk:vU)(hj:j<arr.size)(TL:xNg)(ha:xAg arr[(j)])
  (h:U5[yfE j]):kD[xoL left key arr j]:=by
 unfold xoL;show(XO xy2,HG[fZ hj],xIV hj ?_);cases left with
 |true=>
  simp only [if_true] at h ⊢;exact xXU hk ha TL h
 |false=>
  simp only [LH,Og] at h ⊢;exact wpS_bind[xXU hk TL ha[JT h]]
def mid {l r:Nat}(h:l<r):l+(r-l)/2<r:=K3[Nat.div_lt_self[NY h][by decide]]
def xnp (h:l≤r)(k:r-l≤n-x3n n):l=r:=IT h[xKi[yir[IY k[IR[LU n]]]]]
def dbl (a:Nat):a≤2*a:=Nat.le_mul_of_pos_left a[by decide]
def xpw {prog:Qv}{w:Qw}{A:Qy}{E:Ak}{s:Qu}{sq0:SortSt}{n Rc hi:Nat}{c:xVA}{f:DQ[(xzX sQ gO)->xBD[ForInStep[xzX sQ gO]]]}{Q:(xzX sQ gO)->yz}
  (h1:Rc≤hi) (h2:YJ hi) (mono:∀i j,xDP->j<n->Ty[c j]->Ty[c i]) (VS:∀i,i<Rc->Ty[c i]) (YW:∀i,IA hi->i<n->AG[c i])
  (fd:∀x Rc hi,Rc≥hi->xUt[f x xZW][λ r st'=>st'=sq0/\r=.done xZW])
  (fy:∀x Rc hi,Rc<hi->YJ hi->xUt[f x xZW][λ r st'=>st'=sq0/\r=Uc[c[Rc+(hi-Rc)/2]][.yield[wJ[Rc+(hi-Rc)/2+1] hi]][.yield[wJ Rc[Rc+(hi-Rc)/2]]]])
  (h:∀k,xJA->uT[i<k->Ty[c i]]->uT[IA k->i<n->AG[c i]]->Q[wJ k k] sq0):kD[forIn [:n] xZW f]:=by
 refine xKY[λ x d st'=>st'=sq0/\∃Rc hi,d=xZW/\Rc≤hi/\YJ hi/\hi-Rc≤n-x/\uT[i<Rc->Ty[c i]]/\uT[IA hi->i<n->AG[c i]]] ?_ ?_[F1 rfl Rc hi h1 h2[xYw h2] VS YW]
 ·rintro x d st' _ hx ⟨rfl,Rc,hi,rfl,h1,h2,h3,VS,YW⟩;by_cases SD:Rc≥hi
  ·refine Mn[fd x Rc hi SD] ?_;rintro r st' ⟨rfl,rfl⟩;show Fl[Rc=hi][IT h1 SD][h Rc h2 VS YW]
  ·show χ hm[mid[Lr SD]][Mn[fy x Rc hi[Lr SD] h2] ?_];rintro r st' ⟨rfl,rfl⟩;by_cases hc:Ty[c[Rc+(hi-Rc)/2]]
   ·show oB hc[F1 rfl _ _ hm h2[IY[Pw[Ml Io] _][ME h3 1]][λ i hi'=>mono i _[KC hi'][Ja hm h2] hc] YW]
   ·show iR hc[F1 rfl _ _ Io[IY[Jy hm] h2][IY[ME[Mf hm] _][LT PK[ME h3 1]]] VS[Μ i h1 h2]];cases e:c i with
    |false=>rfl
    |true=>show E9[mono _ i h1 h2 e] hc
 ·rintro d st' ⟨rfl,Rc,hi,rfl,h1,h2,h3,VS,YW⟩;show Fl[Rc=hi][xnp h1 h3][h Rc h2 VS YW]
def xtY {prog:Qv}{w:Qw}{A:Qy}{E:Ak}{s:Qu}{κ:KeyKind}(hO:κ.OneLt){left:Bool}{key:Keyed}{arr:UV}{base n hint:Nat}{sq0:SortSt}{Q:sQ->yz}(hk:vU)(hn:base+n≤arr.size)(hh:hint<n)(TL:xNg)
  (QZ:uI arr.toList) (mono:∀i j,xDP->j<n->Ty[aW j]->Ty xCJ)
  (h:∀k,xJA->uT[i<k->Ty xCJ]->uT[IA k->i<n->AG xCJ]->U5 k):
  kD[xZt left arr base n hint]:=by
 show mV hB[∀(i:Nat) {Q':xLd->yz},i<n->Q'[some xCJ] sq0->xUt[xoL left key arr[base+i]] Q'][λ i Q' hi hq=>
  Do hO hk[Ja[LP hi _] hn] TL[QZ _ Z6] hq][hB hint hh ?_];dsimp only;cases hr:aW hint with
 |true=>
  show zq CD[Sl[λ x d st'=>st'=sq0/\∃la of,d=wJ la of/\la<of/\x<of/\xZa<n/\Ty[aW[xZa]]][λ d st'=>st'=sq0/\∃la of,d=wJ la of/\la<of/\xZa<n/\Ty[aW[xZa]]/\(n-hint≤of\/(x8A<n/\AG[aW[x8A]]))][bQ 0 1 rfl x1g x1g[by assumption] hr]]
  ·rintro x d st' _ hx ⟨rfl,la,of,rfl,h1,h2,h3,h4⟩;dsimp only;by_cases SD:of≥n-hint
   ·show oB SD[JT[bQ la of rfl h1 h3 h4[.inl SD]]]
   ·show zq[Jk SD][hB x8A[by exact K3 xWh] ?_];dsimp only;cases e:aW[x8A] with
    |false=>
     show oB Z7[JT[bQ la of rfl h1 h3 h4[x4[by exact K3 xWh] e]]]
    |true=>
     show Zz Z9[JT[bQ of[2*of+1] rfl[Lf x3Q][yjd h2 x3Q][by exact K3 xWh] e]]
  ·rintro d st' ⟨rfl,la,of,rfl,h1,h2,h3,h4⟩;exact bQ la of rfl h1 h3 h4[.inl[xYw[Jy h2]]]
  ·rintro d st' ⟨rfl,la,of,rfl,h1,h3,h4,h5⟩;dsimp only;show G1[xpw (c:=λ i=>xCJ) (LP[yaG (h1,x0x h3)] _)[IY[Mr Fb _][IR[xXh hh]]] mono[λ i hi=>mono i _[show i≤xZa by exact KC hi] h3 h4][Μ i h6 h7] ?_ ?_ λ k h6 h7 h8=>?_]
   ·show x2Z h5 z z2
    ·rw [LN z,xXh hh] at h6;show E9 h7[Zs h6]
    ·cases e:xCJ with
     |false=>rfl
     |true=>show AQ[mono _ i[Ε[J9[Jy[x0x z]]] h6 h6] h7 e] z2 z2
   ·intro x Rc hi SD;dsimp only;show oB SD[JT qg]
   ·intro x Rc hi QF hhn;dsimp only;show(zq[Jk[by exact P5 QF]][hB _[Ja[mid QF] hhn] ?_],xTn)
    ·show xCR
    ·show xCR
   ·show xAK[lM h6 h7 h8]
 |false=>
  show zq[Jk Z9][Sl[λ x d st'=>st'=sq0/\∃la of,d=wJ la of/\la<of/\x<of/\la≤hint/\AG[aW[hint-la]]][λ d st'=>st'=sq0/\∃la of,d=wJ la of/\la<of/\la≤hint/\AG[aW[hint-la]]/\(hint+1≤of\/(of≤hint/\Ty[aW[hint-of]]))][bQ 0 1 rfl x1g x1g[by exact B1] hr]]
  ·rintro x d st' _ hx ⟨rfl,la,of,rfl,h1,h2,h3,h4⟩;dsimp only;by_cases SD:of≥hint+1
   ·show oB SD[JT[bQ la of rfl h1 h3 h4[.inl SD]]]
   ·show zq[Jk SD][hB[hint-of][by exact K0 hh] ?_];dsimp only;cases e:aW[hint-of] with
    |true=>
     show oB Z7[JT[bQ la of rfl h1 h3 h4[x4[by exact JX SD] e]]]
    |false=>
     show Zz Z9[JT[bQ of[2*of+1] rfl[Lf x3Q][yjd h2 x3Q][by exact JX SD] e]]
  ·rintro d st' ⟨rfl,la,of,rfl,h1,h2,h3,h4⟩;exact bQ la of rfl h1 h3 h4[.inl[by exact IY hh[Jy h2]]]
  ·rintro d st' ⟨rfl,la,of,rfl,h1,h3,h4,h5⟩;dsimp only;show G1[xpw (c:=λ i=>xCJ) (IY[Pw[yaG (h1,Lf h3)] _][IR[Nat.add_sub_add_right ..]])[xYw[Jy hh]] mono[UF i hi][Μ i h6 h7] ?_ ?_ λ k h6 h7 h8=>?_]
   ·show x2Z h5 z z2
    ·show Zw[LN z] LU hi hi
    ·exact mono i _[show i≤hint-of by show aG[J9[Nat.le_succ_of_le z]][Qb z] hi[KC hi]][by exact K0 hh] z2
   ·cases e:xCJ with
    |false=>rfl
    |true=>show AQ[mono _ i[show IA[hint-la] by assumption] h7 e] h4 h4
   ·intro x Rc hi SD;dsimp only;show oB SD[JT qg]
   ·intro x Rc hi QF hhn;dsimp only;show(zq[Jk[by exact P5 QF]][hB _[Ja[mid QF] hhn] ?_],xTn)
    ·show xCR
    ·show xCR
   ·show xAK[lM h6 h7 h8]
universe SG
namespace SG
open PySem PyProof.Rows SM
abbrev xo0 (κ:KeyKind):Keyed->BY Keyed:=Le κ.blt sW
abbrev xeH (κ:KeyKind):Keyed->BY Keyed:=Lt κ.blt sW
def xrn (κ:KeyKind)(a b r:UV):Prop:=r.toList.Pairwise DL/\vV r.toList[a.toList++b.toList]
def MA (κ:KeyKind)(a b out:UV)(ia ib:Nat):Prop:=xwu κ.blt sW[a.toList++b.toList] out.toList xS8 xKt
def MA.sa {κ:KeyKind}{a:UV}{b:UV}{out:UV}{ia ib:Nat}(h:rF):p7 xS8:=AV xLq
def MA.sb {κ:KeyKind}{a:UV}{b:UV}{out:UV}{ia ib:Nat}(h:rF):p7 xKt:=AV xLr
def xwP {xs:UV}{i:Nat}(h:xQ7):xEJ=xs[(i)]::ycE i 1:=by
 have:yaH i:=Rj
 show Ar[Kt this]
def xt2 {κ:KeyKind}{xs:UV}{i:Nat}(h:xQ7)(s:p7 xEJ){y:Keyed}(hy:y∈xEJ):DL xs[(i)] y:=by
 rw [xwP h] at s hy;show rg hy z
 ·exact xc
 ·exact xVa s y z
def xyW {xs:UV}{i k:Nat}:xKr i[i+k]=x8s:=by
 rw [O9,N7];congr 1;exact M2 _ _
def xxe {xs:UV}{i:Nat}:xKr i xs.size=xEJ:=by
 rw [O9,N7,xXJ]
def xnw {xs:UV}{i k:Nat}:x8s++ycE i k=xEJ:=xXb KS
theorem MA.pushA {κ:KeyKind}{a:UV}{b:UV}{out:UV}{ia ib k:Nat}(h:rF)(hX:Ic[(xS8).take k][Ee xKt[DL x y]]):xSf[uY[yfU[ia+k]]][ia+k] ib:=by
 show(xAL MA,[Ka,xyW]);rw [<-xnw (k:=k)] at h;exact xwu.pushA h hX
theorem MA.pushB {κ:KeyKind}{a:UV}{b:UV}{out:UV}{ia ib k:Nat}(h:rF)(hY:dv[(xKt).take k] xS8 xQ0):xSf[uY[x9u[ib+k]]] ia[ib+k]:=by
 show(xAL MA,[Ka,xyW]);rw [<-xnw (xs:=b) (k:=k)] at h;exact xwu.pushB xD h hY
def xm6 {out xs:UV}{i:Nat}(h:xQ7):xMz xs i=uY[ykD[i+1]]:=by
 show(ygO,kh PZ Ka xyW[xwP h])
def MA.pushA1 {κ:KeyKind}{a:UV}{b:UV}{out:UV}{ia ib:Nat}(h:rF)(hia:nz ia)(hib:xOS)(hl:DL a[(ia)] b[(ib)]):xSf[xMz a ia][ia+1] ib:=by
 show Γ[xm6 hia][h.pushA λ x hx y hy=>?_]
 rw [xwP hia] at hx;show Fl[x=a[(ia)]][by simpa using hx][Ij hl[xt2 hib h.sb hy]]
def MA.pushB1 {κ:KeyKind}{a:UV}{b:UV}{out:UV}{ia ib:Nat}(h:rF)(hia:nz ia)(hib:xOS)(hl:mq b[(ib)] a[(ia)]):xSf[xMz b ib] ia[ib+1]:=by
 show Γ[xm6 hib][h.pushB λ y hy x hx=>?_]
 rw [xwP hib] at hy;show Fl[y=b[(ib)]] xFl[xYi hl[xt2 hia h.sa hx]]
def MA.doneB {κ:KeyKind}{a:UV}{b:UV}{out:UV}{ia ib:Nat}(h:rF)(e:ib=b.size):xGN[uY ydw++ydt]:=by
 show(XO MA,(e0:xKt=[])=Lj x7A,HG e0,xMT,[Ka,Ka,xxe,xxe,e0,JM],h.endA)
def MA.doneA {κ:KeyKind}{a:UV}{b:UV}{out:UV}{ia ib:Nat}(h:rF)(e:xIS ia):xGN[uY ydw++ydt]:=by
 show(XO MA,(e0:xS8=[])=Lj x7A,HG e0,xMT,[Ka,Ka,xxe,xxe,e0,JM],h.endB)
def MA.last {κ:KeyKind}{a:UV}{b:UV}{out:UV}{ia ib:Nat}(h:rF)(e:xIS[ia+1])(hl:dv b.toList yhw xQ0):xGN[uY ydt++ydw]:=by
 show(h2=h.pushB (k:=xHz ib) λ y hy x hx=>hl y[JZ[JK hy]] x[LT[BJ xO6 ia[MQ[N2 e]]] hx],xMR MA,UN e0[b.toList.drop[ib+(xHz ib)]=[]][Lj[by simp;show Ay [_,_,_] Re DG Re Φ W1]] e0 h2,h3=h2.endA,xMT);rw [Ka] at h3;show([Ka,Ka,xxe,xxe],VT[cU[x9u[ib+(xHz ib)]] xKt][by rw [xyW,xXJ]],Ε e1 h3 h3)
structure xzu (sq0 st':SortSt):Prop where
 k:kindOf st'=kindOf sq0
 a:xK8=xv3
 p:yje=xKD
 f:failedOf st'=failedOf sq0
def xzu.refl (sq0:SortSt):xzu sq0 sq0:=aT rfl rfl
def xaE:DQ[xBD Unit]:=sortPriv%PySem.Builtin.setMinGallop
def xtc {prog:Qv}{w:Qw}{A:Qy}{E:Ak}{s:Qu}{X8 sq0:SortSt}{g:Nat}{Q:Unit->yz}(h0:xUJ sq0)(h:∀st',xUJ st'->x7e):kD[xaE g]:=by
 refine wpS_modify[X3 (h0.k,h0.a,h0.p,h0.f)]
def xjg {κ:KeyKind}{xs:UV}(h:x9A){i j:Nat}(hij:xDP)(hj:af j):AG[eQ j[o5 i]]:=by
 show([fZ hj,fZ[JS hij hj]],yB i j)
 ·exact k7 h i j[yu[MN z hj]][by simpa using hj] z
 ·show Fl[i=j][IT hij z] xc
def xm1 {prog:Qv}{w:Qw}{A:Qy}{E:Ak}{s:Qu}{κ:KeyKind}(hO:κ.OneLt){sq0:SortSt}{key:Keyed}{xs:UV}{i n hint:Nat}{Q:sQ->yz}(hk:vU)(hs:x9A)(QZ:x2c p)(TL:xNg)(hn:xGn[i+n])(hh:hint<n)
  (h:∀k,xJA->rL[j<k->AG[iQ[i+j]]]->rL[pQ k->j<n->Ty[iQ[i+j]]]->U5 k):kD[xZt false xs i n hint]:=by
 show SC eb[∀j,xy2 κ false key xs j= ! iQ j] x4d[xtY hO hk hn hh TL QZ[λ p q hpq hq hb=>?_] λ k h1 h2 h3=>lM h1 xCY[Μ j hj VN]]
 ·show(x3q hb,(RJ:AG[iQ[i+q]])=A7)
  have:=xjg hs[um[i+p][i+q][LX.mpr hpq]][Ja[LP hq _] hn];cases e:iQ[i+p] with
  |false=>rfl
  |true=>
   show II[x1m[o5[i+q]] _ e]
   ·show qX RJ
   ·show x7Y
 ·show(cX[h2 j hj] eb,pK)
 ·show(cX[h3 j hj VN] eb,pK)
def wP {prog:Qv}{w:Qw}{A:Qy}{E:Ak}{s:Qu}{κ:KeyKind}(hO:κ.OneLt){sq0:SortSt}{key:Keyed}{xs:UV}{i n hint:Nat}{Q:sQ->yz}(hk:vU)(hs:x9A)(QZ:x2c p)(TL:xNg)(hn:xGn[i+n])(hh:hint<n)
  (h:∀k,xJA->rL[j<k->Ty[eQ[i+j] xGs]]->rL[pQ k->j<n->AG[eQ[i+j] xGs]]->U5 k):kD[xZt true xs i n hint]:=by
 show SC eb[∀j,xy2 κ true key xs j=eQ j xGs] x4d[xtY hO hk hn hh TL QZ[λ p q hpq hq hb=>?_] λ k h1 h2 h3=>lM h1 xCY[Μ j hj VN]]
 ·show x3q hb;have:=xjg hs[um[i+p][i+q][LX.mpr hpq]][Ja[LP hq _] hn];show II[x1m[o5[i+p]] _ hb]
  ·show x7Y
  ·show xIJ
 ·exact h2 j hj
 ·exact h3 j hj VN
def xwe [xTR] {Q:α->yz}(hc:c)(h:xD5 m1 Q):xD5[x7y m1 m2] Q:=oB hc h
def aO [xTR] {Q:α->yz}(hc:¬c)(h:xD5 m2 Q):xD5[x7y m1 m2] Q:=Zz hc h
def xzE {M:Model}{A:Qy}{E:Ak}{s:Qu}{α:Type}{c:Prop} [xTR] {m1 m2:xBD α}{Q:α->yz}{sq0:SortSt}(h1:xD5 m1 Q)(h2:xD5 m2 Q):xD5[x7y m1 m2] Q:=by
 by_cases hc:c
 ·exact xwe hc h1
 ·exact aO hc h2
def xqG {xs:UV}{i k:Nat}{x:Keyed}(h:x∈x8s):∃j,j<k/\∃hj:af[i+j],x=xs[(i+j)]:=by
 show((j,hj)=List.mem_iff_getElem?.mp h,xw7 L5)
 split at hj
 ·rename_i hjk
  show(xw7 L6,χ QF[ZZ hj] (j,hjk,ycn,?_));have:=(Jf.mp hj).2;rw [<-this];rfl
 ·cases hj
def xxG (κ:KeyKind)(a b:UV)(X8:SortSt){β:Type}(low:Nat)(pr:UV->xPi)(c:zp)(sq0:SortSt):Prop:=
 xUJ sq0/\(CU r[TD ax r/\xDI]\/∃out ia ib,vh/\xNb ia ib ZP/\rF/\nz[ia+1]/\xOS/\low≤ia+ib)
@[elab_as_elim] theorem xxG.two {β:Type} {pr:UV->xPi} {P:BY zp} {c:zp} (h:ycI b X8 low pr c s) (k1:xRt->∀r d,c=((x6T,d))->xDI->P ((x6T,d))) (k:xRt->∀out ia ib d,xNb ia ib d->rF->nz[ia+1]->xOS->low≤ia+ib->P[Wm d]):P c:=by
 obtain⟨c1,c2⟩:=c;obtain⟨hs,⟨r,e,z⟩|⟨out,ia,ib,e,p,m,q1,q2,q3⟩⟩:=h
 ·show CR e[k1 hs r _ rfl z]
 ·show CR e[k hs out ia ib _ p m q1 q2 q3]
@[elab_as_elim] theorem xxG.go {β:Type} {pr:UV->xPi} {P:BY zp} {c:zp} (h:ycI b X8 low pr c s/\vh) (k:xRt->∀out ia ib d,xNb ia ib d->rF->nz[ia+1]->xOS->low≤ia+ib->P[Wm d]):P c:=by show(xxG.two EO[λ _ r d e _=>?_] k,lG h[nomatch bw])
def LoP (κ:KeyKind)(a b:UV)(sq0:SortSt)(y:Nat){γ δ ε:Type}(r:ForInStep[xzX UV[UV×xAp[xAp[γ×δ×ε]]]])(st':SortSt):Prop:=match r with
 | .done c'=>xJO[y+1+1][λ out ia ib d=>∃g p q,d=((out,ia,ib,g,p,q))] c' st'
 | .yield c'=>xJO[y+1+1][λ out ia ib d=>∃g p q,d=((out,ia,ib,g,p,q))] c' st'/\Θ c'.1
def xgi {prog:Qv}{w:Qw}{A:Qy}{E:Ak}{s:Qu}{κ:KeyKind}{a:UV}{b:UV}(hO:κ.OneLt){sq0:SortSt}{Q:UV->yz}(hk:vU)(ha:uI a.toList)(hb:uI b.toList)(sa:ygH)(sb:ygI)
  (na:nz 0) (nb:xKZ 0) (h0:mq b[(0)] a[(0)]) (hl:dv b.toList yhw xQ0) (h:∀r st',x7o->xDI->Q r st'):
  kD[xae a b]:=by
 show G1 x2W
 extract_lets total done lastOfA ia0 ib0
 show xIV nb ?_
 extract_lets out0
 have hM0:xSf out0 0 1:=MA.pushB1 (out:=#[]) (ia:=0) (ib:=0) (sa,sb,sA) na nb h0;by_cases e1:1=b.size
 ·show g8[by simpa [ib0] using e1][JT[wF xLy[hM0.doneB e1]]]
 show iy[by simpa [ib0] using e1];by_cases e2:xIS[0+1]
 ·show g8[by simpa [ia0] using e2][JT[wF xLy[hM0.last e2 hl]]]
 show xUC[aO[by simpa [ia0] using e2] ?_] wB
 extract_lets mg0
 show G1[Sl[λ y c st'=>xJO[y+1][λ out ia ib d=>∃mg,d=((out,ia,ib,mg))] c st'/\vh][λ c st'=>x7o/\∃r,TD ax r/\xDI][xFL xLy[F1 out0 0 1 CQ hM0[Ko na e2] Z5[xI [] Fp Fp]]]]
 rotate_left
 ·rintro c st' ⟨⟨_,⟨r,e,_⟩|⟨out,ia,ib,_,_,_,q1,q2,q3⟩⟩,en⟩
  ·show yb en
  ·show(x77[x3F=Xf] x2r,BM[mh [_,_,_,_,_][kx xM0 3[xJx WF]][Ρ[Ξ[oI Fs]]][IP q1[IP q2[IP q3 x8]]]])
 ·rintro⟨c1,c2⟩ st' ⟨RQ,r,e,hW⟩;dsimp only at e;show yA[JT[h r st' RQ hW]]
 intro y c YL _ hy hI;show(yef λ hst1 out1 ia1 ib1 d e2 hM1 q1 q2 q3=>?_,Ik mg1 e2,G1[Sl[λ x c st'=>xJO[y+1+x][λ out ia ib d=>∃p q,d=((out,ia,ib,p,q))] c st'/\vh][λ c st'=>xJO[y+1+1][λ out ia ib d=>∃p q,d=((out,ia,ib,p,q))] c st'][xFL hst1[F1 out1 ia1 ib1 tV hM1 q1 q2 q3]]])
 ·intro x c Ut _ hx hI;show(yef λ RM out2 ia2 ib2 d e2 hM2 t1 t2 t3=>?_,Dr p2 r2 e2,xIV t2[yeu[xGK ia2 xHm][xXU yh5 x6p[ha _ Z6] ?_]]);cases e:oJ b[(ib2)] a[(ia2)] with
  |true=>
   show χ Ym[hM2.pushB1[xGe PL t1] t2 e][x7a[x0S t2 ?_]];by_cases hz:ib2+1=b.size
   ·show uR RM[Ym.doneB hz]
   ·show sI iD[xQp RM[F1 _ ia2[ib2+1] tV Ym Z3[xCU t2][jK [_,_,_,_][yt SB] Φ PL yp t3]][xCE RM[F1 _ ia2[ib2+1] tV Ym[KM t1][xCU t2][Ml t3]]]]
  |false=>
   show χ Ym[hM2.pushA1[xGe PL t1] t2 e][xYn[x0S[xGK ia2[xGe PL t1]] ?_]];by_cases hz:xIS[ia2+1+1]
   ·show uR RM[Ym.last hz hl]
   ·show sI iD[xQp RM[F1 _[ia2+1] ib2 tV Ym[xCU t1] Z3[jK [_,_,_,_][yt SB] Φ PL x5s t3]][xCE RM[F1 _[ia2+1] ib2 tV Ym[xCU t1][KM t2][jK [_,_,_,_] gc Fs xBw[Fg Cv] t3]]]]
 ·rintro c st' ⟨⟨_,⟨r,e,_⟩|⟨out,ia,ib,_,_,_,t1,t2,t3⟩⟩,en⟩
  ·show yb en
  ·show(x77[x3F=Xf] x2r,BM[mh [_,_,_,_,_,_][kx[AS dQ] 4[.a[Fg nV] WF]][Ρ[Ξ[.a D7 nV]]][IP t1[IP t2[IP t3 x8]]]])
 intro c Ut hI;refine xxG.two hI[λ RM r d _ hW=>?_] λ RM out2 ia2 ib2 d e2 hM2 t1 t2 t3=>?_
 ·show xAK[sV RM r hW]
 show(Dr p2 r2 e2,xUC yaT[Sl[λ x c st'=>xJO[y+1+1][λ out ia ib d=>∃g p q,d=((out,ia,ib,g,p,q))] c st'/\vh][λ c st'=>xJO[y+1+1][λ out ia ib d=>∃g p q,d=((out,ia,ib,g,p,q))] c st'][xFL RM[F1 out2 ia2 ib2[ux _ _] hM2 t1 t2 t3]]])
 ·clear hM2 t1 t2 t3 hM1 q1 q2 q3;intro x c RU _ hx hI;show(yef λ Ve Yr ia3 ib3 d e2 hM3 t1 t2 t3=>?_,SP g3 p3 r3 e2)
  extract_lets v1 v2 v3 v4 v5 v6 v7 v8 v9 v10 v11 v12 jp
  have hjp:∀g,wN[x78 g][LoP κ a b sq0 y] RU:=by
   intro g;show(G1[xtc Ve λ S3 RK=>yeu t2[xm1 hO x1d sa ha x6p[IR[xXh xHm]][Eo 0[a.size-ia3][Nat.zero_lt_sub_of_lt[Jy t1]]] λ k f1 f2 f3=>?_]],Sc f1'[k≤a.size-ia3] f1 hM4[xSf[Yr++a.extract ia3[ia3+k]][ia3+k] ib3][hM3.pushA λ x hx y hy=>by
    show(SP j hj VN[xqG hx],x3[f2 j hj][fZ VN][Ij this[xt2 t2 hM3.sb hy]])])
   dsimp-zeta only
   extract_lets u1 jp2
   have Xl:∀out ia,MA κ a b out ia ib3->∀hia:nz[ia+1],mq b[(ib3)] a[(ia)]->y+1+1≤ia+ib3->wN[x4U out ia][LoP κ a b sq0 y] S3:=by
    intro out ia hM hia QF WJ;show(xIV t2 ?_,hM5=hM.pushB1 xVN t2 QF);by_cases hz:ib3+1=b.size
    ·show uR RK[hM5.doneB hz]
    show(iy iD,χ t2'[xCU t2][yeu[xGK ia xVN][wP hO x1d sb hb[ha _ Z6][IR[Km t2]][NY t2'] λ k2 d1 d2 d3=>?_]],x1V d1'[k2≤xHz[ib3+1]] d1)
    extract_lets w1 w2 jp3
    have Xk:∀out ib,rF->∀hib:xOS,DL a[(ia)] b[(ib)]->y+1+1≤ia+ib->wN[jp3 () out ib][LoP κ a b sq0 y] S3:=by
     intro out ib hM hib hle WJ;show(xIV[xGK ia xVN] ?_,Tl hM6[hM.pushA1 xVN hib hle] hw[IY WJ[Kx[Mq ia] ib]]);by_cases hz:xIS[ia+1+1]
     ·show uR RK[hM6.last hz hl]
     show sI iD[xQp RK[F1 _[ia+1] ib[ux _ _] hM6[xCU hia] hib hw][xCE RK[F1 _[ia+1] ib[ux _ _] hM6[xCU hia] hib hw]]]
    clear_value jp3
    by_cases Uv:k2>0
    ·show(g8 Uv ?_,hM7=hM5.pushB (k:=k2) λ y hy x hx=>by
      show(SP j hj VN[xqG hy],x3[d2 j hj][fZ VN][xYi this[xt2[xGK ia xVN] hM5.sa hx]]))
     by_cases Vc:ib3+1+k2=b.size
     ·show xT4 Vc RK[hM7.doneB Vc]
     ·show(χ Tf[Ko[OW t2 d1'] Vc][aO[SZ[Vc xv6]][Xk _[ib3+1+k2] hM7 Tf ?_[IY WJ[Mr[IY bG Io] _]]]],gN[d3 k2 ρ[x0x Tf]][fZ Tf])
    ·show(sI Uv[Xk _[ib3+1] hM5 t2' ?_[IY WJ[Mr bG _]]],gN[d3 0[JX Uv][NY t2']][fZ[show xKZ[ib3+1+0] from t2']])
   clear_value jp2
   by_cases Uv:k>0
   ·show g8 Uv ?_;by_cases hz:xIS[ia3+k+1]
    ·show uR RK[hM4.last hz hl]
    show iy iD;by_cases Vc:xIS[ia3+k]
    ·show xT4 Vc RK[hM4.doneA Vc]
    ·show(χ WY[Ko[OW[Jy xHm] f1'] Vc][aO[SZ[Vc xv6]][Xl _[ia3+k] hM4[xCU WY] ?_[IY t3[Kx Io _]]]],gN[f3 k ρ[x0x WY]][fZ WY])
   ·show(sI Uv[Xl _ ia3 hM3 t1 ?_ t3],gN[f3 0[JX Uv][NY xHm]][fZ[xGK[ia3+0] xHm]])
  clear_value jp
  exact xzE[Mn xWE λ r st' q=>by cases r<;>exact q][Mn xWE λ r st' q=>by cases r<;>exact q]
 ·rintro c st' ⟨q,_⟩;show HL
 intro c RU hI;refine xxG.two hI[λ Ve r d _ hW=>?_] λ Ve Yr ia3 ib3 d e2 hM3 u1 u2 u3=>?_
 ·show xAK[sV Ve r hW]
 show C5 g3 p3 r3 rfl e2[wpS_bind[xtc Ve λ S3 RK=>xCE RK[F1 Yr ia3 ib3 CQ hM3 u1 u2 u3]]]
def MH (κ:KeyKind)(a b out:UV)(na nb:Nat):Prop:=xwt κ.blt sW[a.toList++b.toList] x9O x9P out.toList.reverse
def MH.sa {κ:KeyKind}{a:UV}{b:UV}{out:UV}{na nb:Nat}(h:xIl):p7 x9O:=xLq.1
def MH.sb {κ:KeyKind}{a:UV}{b:UV}{out:UV}{na nb:Nat}(h:xIl):p7 x9P:=xLr.1
def xpp {xs:UV}{i:Nat}(h:xQ7):xTw i 1=yhJ++[xs[(i)]]:=by
 show((h':yaH i)=Rj,Ai Kj[IW h'])
def xtC {κ:KeyKind}{xs:UV}{i:Nat}(h:xQ7)(s:p7[xTw i 1]){y:Keyed}(hy:y∈xTw i 1):DL y xs[(i)]:=by
 rw [xpp h] at s hy;show Zd hy
 ·exact EU[Jt.mp s] y z _ Z6
 ·show Fl[y=xs[(i)]] zk xc
def xyu {xs:UV}{i n:Nat}(h:xRs):xKr i n=Ew xEJ n i:=by
 rw [O9,N7]
def xn6 {xs:UV}{i n:Nat}(h:xRs):yhJ++xKr i n=xs.toList.take n:=by
 rw [xyu h];have:n=i+(n-i):=MQ[Km h];rw(config:={occs:=.pos [2]}) [this];rw [Oj]
def xtA {xs:UV}{i n:Nat}{x:Keyed}(hin:xRs)(hn:xGn n)(h:x∈xKr i n):∃j,xDP/\∃hj:j<n,x=xs[(j)]:=by
 show(HG[xyu hin],C5 j hj VN rfl[xqG h] (i+j,Io,K3 hj,rfl))
theorem MH.pushA {κ:KeyKind}{a:UV}{b:UV}{out:UV}{na nb at':Nat}(h:xIl)(hat:at'≤na)(hX:dv x9P (xTZ at').toList xQ0):xJV[yd1[xTZ at']] at' nb:=by
 show xAL MH;rw [<-xn6 hat] at h;show uA Ka MV Mj LG[xwt.pushA xD h hX]
theorem MH.pushB {κ:KeyKind}{a:UV}{b:UV}{out:UV}{na nb at':Nat}(h:xIl)(hat:at'≤nb)(hY:Ic x9O[Ee (xT0 at').toList[DL x y]]):xJV[yd1[xT0 at']] na at':=by
 show xAL MH;rw [<-xn6 (xs:=b) hat] at h;show uA Ka MV Mj LG[xwt.pushB h hY]
def xmG {out xs:UV}{i:Nat}(h:xQ7):xMz xs i=yd1[ykD[i+1]]:=by
 show(ygO,[PZ,Ka,Mj,xyW,xwP h]);rfl
def MH.pushA1 {κ:KeyKind}{a:UV}{b:UV}{out:UV}{i j:Nat}(h:xCi[i+1][j+1])(hi:xQ1)(hj:xRa)(hl:mq b[(j)] a[(i)]):xJV[xMz a i] i[j+1]:=by
 show(Γ[xmG hi][h.pushA x63 λ y hy x hx=>?_],SP q q1 q2[xtA xN4 Z3 hx],Fl[q=i][Nat.eq_of_le_of_lt_succ q1 q2][xri xD[xtC hj h.sb hy] hl])
def MH.pushB1 {κ:KeyKind}{a:UV}{b:UV}{out:UV}{i j:Nat}(h:xCi[i+1][j+1])(hi:xQ1)(hj:xRa)(hl:DL a[(i)] b[(j)]):xJV[xMz b j][i+1] j:=by
 show(Γ[xmG hj][h.pushB xN4 λ x hx y hy=>?_],SP q q1 q2[xtA xN4 Z3 hy],Fl[q=j][xCH[xX SB Β Re q2] q1][Ij[xtC hi h.sa hx] hl])
def MH.doneA {κ:KeyKind}{a:UV}{b:UV}{out:UV}{na nb:Nat}(h:xIl)(e:na=0):xGN[yeg[xTZ 0++xT0 0]]:=by
 show(DD,XO MH,HG MK,xMT,[Ka,Ka,Mj,xXn,xXn,Lv,Lv,MM,MM,MK,Kd],h.endB)
def MH.doneB {κ:KeyKind}{a:UV}{b:UV}{out:UV}{na nb:Nat}(h:xIl)(e:nb=0):xGN[yeg[xTZ 0++xT0 0]]:=by
 show(DD,XO MH,HG MK,xMT,[Ka,Ka,Mj,xXn,xXn,Lv,Lv,MM,MM,MK,JM],h.endA)
def MH.first {κ:KeyKind}{a:UV}{b:UV}{out:UV}{na nb:Nat}(h:xIl)(e:nb=1)(hf:dv yh6 a.toList xQ0):xGN[yeg[xT0 0++xTZ 0]]:=by
 show(DD,h2=h.pushA (at':=0) B1 λ y hy x hx=>hf y hy x[aG xXn Lv hx gw],xMR MH);rw [MK,Ka,MV,Mj,LG] at h2;show(h3=h2.endB,xMT,[Ka,Ka,Mj,IU],Iv[xyu (xs:=b) B1] Lv MM h3)
def xxF (κ:KeyKind)(a b:UV)(X8:SortSt){β:Type}(low:Nat)(pr:UV->xPi)(c:zp)(sq0:SortSt):Prop:=
 xUJ sq0/\(CU r[TD ax r/\xDI]\/∃out i j,vh/\xNb[i+1][j+1] ZP/\xCi[i+1][j+1]/\xQ1/\xRa/\0<j/\i+1+(j+1)+low≤Xf)
@[elab_as_elim] theorem xxF.two {β:Type} {pr:UV->xPi} {P:BY zp} {c:zp} (h:ycJ b X8 low pr c s) (k1:xRt->∀r d,c=((x6T,d))->xDI->P ((x6T,d))) (k:xRt->∀out i j d,xNb[i+1][j+1] d->xCi[i+1][j+1]->xQ1->xRa->0<j->i+1+(j+1)+low≤Xf->P[Wm d]):P c:=by
 obtain⟨c1,c2⟩:=c;obtain⟨hs,⟨r,e,z⟩|⟨out,i,j,e,p,m,q1,q2,q3,q4⟩⟩:=h
 ·show CR e[k1 hs r _ rfl z]
 ·show CR e[k hs out i j _ p m q1 q2 q3 q4]
@[elab_as_elim] theorem xxF.go {β:Type} {pr:UV->xPi} {P:BY zp} {c:zp} (h:ycJ b X8 low pr c s/\vh) (k:xRt->∀out i j d,xNb[i+1][j+1] d->xCi[i+1][j+1]->xQ1->xRa->0<j->i+1+(j+1)+low≤Xf->P[Wm d]):P c:=by show(xxF.two EO[λ _ r d e _=>?_] k,lG h[nomatch bw])
def HiP (κ:KeyKind)(a b:UV)(sq0:SortSt)(y:Nat){γ δ ε:Type}(r:ForInStep[xzX UV[xAp[xAp[UV×γ×δ×ε]]]])(st':SortSt):Prop:=match r with
 | .done c'=>xJP[y+1+1][λ out ia ib d=>∃g p q,d=((ia,ib,out,g,p,q))] c' st'
 | .yield c'=>xJP[y+1+1][λ out ia ib d=>∃g p q,d=((ia,ib,out,g,p,q))] c' st'/\Θ c'.1
def xgu {prog:Qv}{w:Qw}{A:Qy}{E:Ak}{s:Qu}{κ:KeyKind}{a:UV}{b:UV}(hO:κ.OneLt){sq0:SortSt}{Q:UV->yz}(hk:vU)(ha:uI a.toList)(hb:uI b.toList)(sa:ygH)(sb:ygI)
  (na:nz 0) (nb:xKZ 0) (hf:dv yh6 a.toList xQ0) (hl:mq b[(xHz 1)] a[(xO6)]) (h:∀r st',x7o->xDI->Q r st'):
  kD[xad a b]:=by
 show(xEC ma hma ma[a.size=ma+1] (xO6,x6K na rfl),xEC mb hmb mb[b.size=mb+1] (xHz 1,yd[Dh Re Β Re Β W1][Dh Β Re Β Re[UO Fp AM nb]]),Sc QF[mq[b[mb]'(KM x1v)][a[ma]'(x8i)]][by
  show G9[xHz 1=mb][MQ[N2 hmb.symm]][xO6=ma][MQ yjf];simp only [e1,e2] at hl;exact hl] hM00[xJV #[][ma+1][mb+1]][by
  unfold MH;show(G9[a.toList.take[ma+1]=a.toList][Jo[yu[IR hma]]][b.toList.take[mb+1]=b.toList][Jo[yu[IR hmb]]],XV e1 e2 (by simpa using sa,by simpa using sb,by simpa using sA))],mV hM0[xJV #[a[ma]'(x8i)] ma[mb+1]][hM00.pushA1 x8i[KM x1v] QF] x2W)
 extract_lets total done firstOfB na0 nb0
 show Sc ena[na0=ma][dC[xO6=ma][MQ yjf]] enb[nb0=mb+1] hmb
 clear_value na0 nb0
 subst ena enb;show xIV[xGK na0 x8i] ?_
 extract_lets out0
 by_cases e1:na0=0
 ·show xTg e1[wF xLy[hM0.doneA e1]]
 show iy[SZ[e1 xv6]];by_cases e2:mb+1=1
 ·show xTg e2[wF xLy[hM0.first e2 hf]]
 show(iy[SZ[e2 xv6]],vk i0 i0[na0=i0+1] (na0-1,xXi e1),G1 wB)
 extract_lets mg0
 show G1[Sl[λ y c st'=>xJP[y+1][λ out ia ib d=>∃mg,d=((ia,ib,out,mg))] c st'/\vh][λ c st'=>x7o/\∃r,TD ax r/\xDI][xFL xLy (out0,i0,mb,rfl,CQ,hM0,(xGe PL x9d),KM x1v,Z5,(CM [_,_,_,_][gK PL] xY[.a xBw Fp] Fs x1v x9d))]]
 rotate_left
 ·rintro c st' ⟨⟨_,⟨r,e,_⟩|⟨out,i,j,_,_,_,q1,q2,q3,q4⟩⟩,en⟩
  ·show yb en
  ·show(x77[x3F=Xf] x2r,BM[mh [_,_,_,_,_][.a[.a[Fg dQ] xXl] WF][oI WF][IP q4 x8]])
 ·rintro⟨c1,c2⟩ st' ⟨RQ,r,e,hW⟩;dsimp only at e;show yA[JT[h r st' RQ hW]]
 clear hM0 hM00;intro y c YL _ hy hI;show(yeh λ hst1 out1 i1 j1 d e2 hM1 q1 q2 q3 q4=>?_,Ik mg1 e2,G1[Sl[λ x c st'=>xJP[y+1+x][λ out ia ib d=>∃p q,d=((ia,ib,out,p,q))] c st'/\vh][λ c st'=>xJP[y+1+1][λ out ia ib d=>∃p q,d=((ia,ib,out,p,q))] c st'][xFL hst1 (out1,i1,j1,rfl,tV,hM1,q1,q2,q3,q4)]])
 ·intro x c Ut _ hx hI;show(yeh λ RM out2 i2 j2 d e2 hM2 t1 t2 t3 t4=>?_,Dr p2 r2 e2,G1[xFW j2 t2[x3C i2 t1[wpS_bind[xXU yh5 x6p[ha _ Z6] ?_]]]]);cases e:oJ b[(j2)] a[(i2)] with
  |true=>
   show χ Ym[hM2.pushA1 t1 t2 e][x7a[x3C i2 t1 ?_]];by_cases hz:i2=0
   ·show uR RM[Ym.doneA hz]
   ·show(vk i3 i3[i2=i3+1] (i2-1,xXi hz),sI iD[xQp RM (_,i3,j2,rfl,tV,Ym,xHm, Z3, Z3,(jK [_,_,_,_,_,_][xIz[.a PL Β] nV] D7[.a xBw xM0] D7 t4))[xCE RM (_,i3,j2,rfl,tV,Ym,xHm,(Dp t2),Nat.zero_lt_of_lt t3,(jK [_,_,_,_,_,_][xIz[.a PL Β] Cv] xMZ[xIz xBw dQ] xMZ t4))]])
  |false=>
   show χ Ym[hM2.pushB1 t1 t2 e][xYn[x3C j2 t2 ?_]];by_cases hz:j2=1
   ·show uR RM[Ym.first hz hf]
   ·show(vk j3 j3[j2=j3+1] (j2-1,x6K t3 rfl),sI iD[xQp RM (_,i2,j3,rfl,tV,Ym, Z3,KA t2,Z5,(jK [_,_,_,_,_,_][xIz[tG[AS Β]] nV] D7[.a xBw xM0] D7 t4))[xCE RM (_,i2,j3,rfl,tV,Ym,(Dp t1),KA t2,Z4,(jK [_,_,_,_,_,_][xIz[tG[AS Β]] Cv] xMZ[xIz xBw dQ] xMZ t4))]])
 ·rintro c st' ⟨⟨_,⟨r,e,_⟩|⟨out,i,j,_,_,_,t1,t2,t3,t4⟩⟩,en⟩
  ·show yb en
  ·show(x77[x3F=Xf] x2r,BM[mh [_,_,_,_,_,_][.a[xIz[ZH xXl] nV] WF][xL5 nV][IP t4 x8]])
 intro c Ut hI;refine xxF.two hI[λ RM r d _ hW=>?_] λ RM out2 i2 j2 d e2 hM2 t1 t2 t3 t4=>?_
 ·show xAK[sV RM r hW]
 show(Dr p2 r2 e2,xUC yaT[Sl[λ x c st'=>xJP[y+1+1][λ out ia ib d=>∃g p q,d=((ia,ib,out,g,p,q))] c st'/\vh][λ c st'=>xJP[y+1+1][λ out ia ib d=>∃g p q,d=((ia,ib,out,g,p,q))] c st'][xFL RM (out2,i2,j2,rfl,ux _ _,hM2,t1,t2,t3,t4)]])
 ·clear hM2 t1 t2 t3 t4 hM1 q1 q2 q3 q4;intro x c RU _ hx hI;show(yeh λ Ve Yr i3 j3 d e2 hM3 t1 t2 t3 t4=>?_,SP g3 p3 r3 e2)
  extract_lets v1 v2 v3 v4 v5 v6 v7 v8 v9 v10 v11 v12 jp
  have hjp:∀g,wN[x78 g][HiP κ a b sq0 y] RU:=by
   intro g;show(G1[xtc Ve λ S3 RK=>x3C j3 t2[wpS_bind[xm1 (i:=0) (n:=i3+1) (hint:=i3) hO x1d sa ha x6p[dY[Kq _] t1][ON _] λ k f1 f2 f3=>?_]]],x1V hM4[xJV[Yr++(a.extract k[i3+1]).reverse] k[j3+1]][hM3.pushA f1 λ y hy x hx=>by
    show(SP q q1 q2[xtA f1 Z3 hx],jL[f3 q q1 Z3] Kq[fZ[Ja q2 t1]][xri xD[xtC t2 hM3.sb hy] this])])
   extract_lets u1 u2 jp2
   have Xl:∀out i,xCi[i+1][j3+1]->∀hi:xQ1,DL a[(i)] b[(j3)]->i+1+(j3+1)+(y+1+1)≤Xf->wN[x4U[i+1] out][HiP κ a b sq0 y] S3:=by
    intro out i hM hi hle WJ;show(G1[xFW j3 t2 ?_],hM5=hM.pushB1 hi t2 hle);by_cases hz:j3=1
    ·show uR RK[hM5.first hz hf]
    show(iy iD,vk j4 j4[j3=j4+1] (j3-1,x6K t3 rfl),G1[xFW i hi[wpS_bind[wP (i:=0) (n:=j4+1) (hint:=j4) hO x1d sb hb[ha _ Z6][dY[Kq _][Jy t2]][ON _] λ k2 d1 d2 d3=>?_]]]);dsimp-zeta only
    extract_lets w1 w2 w3 jp3
    have Xk:∀out j,xCi[i+1][j+1]->∀hj:xRa,0<j->mq b[(j)] a[(i)]->i+1+(j+1)+(y+1+1)≤Xf->wN[jp3 ()[j+1] out][HiP κ a b sq0 y] S3:=by
     intro out j hM hj hj0 QF WJ;show(G1[xFW i hi ?_],hM6=hM.pushA1 hi hj QF);by_cases hz:i=0
     ·show uR RK[hM6.doneA hz]
     show(vk i5 i5[i=i5+1] (i-1,xXi hz),χ hw[IY[Kx[Kx bG _] _] WJ][aO iD[xQp RK (_,i5,j,rfl,ux _ _,hM6,KA hi,hj,hj0,hw)[xCE RK (_,i5,j,rfl,ux _ _,hM6,KA hi,hj,hj0,hw)]]])
    clear_value jp3
    have UC:∀q,q+1=k2->∀hq:xKZ q,mq b[(q)] a[(i)]:=λ q hq VX=>jL[d2 q[KM[IR hq]]] Kq[fZ VX] this
    by_cases Uv:j4+1-k2>0
    ·show(g8 Uv ?_,hM7=hM5.pushB (at':=k2) d1 λ x hx y hy=>by
      show(SP q q1 q2[xtA d1[Jy t2] hy],jL[d3 q q1 q2] Kq[fZ[MN q2 t2]][Ij[xtC hi hM5.sa hx] this]))
     by_cases Vc:k2=1
     ·show xT4 Vc RK[hM7.first Vc hf]
     show iy[SZ[Vc xv6]];by_cases hz3:k2=0
     ·show xT4 hz3 RK[hM7.doneB hz3]
     show(iy[SZ[hz3 xv6]],vk k3 k3[k2=k3+1] (k2-1,xXi hz3),Xk _ k3 hM7[MN d1 t2][Ol[SZ[Vc[xS4 z]]]][UC k3 rfl _][IY[Kx[Mr[Nat.le_succ_of_le d1] _] _] WJ])
    ·show HU[aO Uv ?_][Xk _ j4 hM5[KA t2][Ol[SZ[hz[xS4 z]]]][UC j4[IT[xKi[NG Uv]] d1] _][IY[Kx[Mr bG _] _] WJ]]
   clear_value jp2
   have UC:∀q,q+1=k->∀hq:nz q,DL a[(q)] b[(j3)]:=λ q hq VX=>jL[f2 q[KM[IR hq]]] Kq[fZ VX] this
   by_cases Uv:i3+1-k>0
   ·show g8 Uv ?_;by_cases hz:k=0
    ·show uR RK[hM4.doneA hz]
    show(iy iD,vk k3 k3[k=k3+1] (k-1,xXi hz),Xl _ k3 hM4[Ja f1 t1][UC k3 rfl _][IY[Kx[Kx f1 _] _] t4])
   ·show HU[aO Uv ?_][Xl _ i3 hM3 t1[UC i3[IT[xKi[NG Uv]] f1] _] t4]
  clear_value jp
  exact xzE[Mn xWE λ r st' q=>by cases r<;>exact q][Mn xWE λ r st' q=>by cases r<;>exact q]
 ·rintro c st' ⟨q,_⟩;show HL
 intro c RU hI;refine xxF.two hI[λ Ve r d _ hW=>?_] λ Ve Yr i3 j3 d e2 hM3 u1 u2 u3 u4=>?_
 ·show xAK[sV Ve r hW]
 show C5 g3 p3 r3 rfl e2[wpS_bind[xtc Ve λ S3 RK=>xCE RK (Yr,i3,j3,rfl,CQ,hM3,u1,u2,u3,u4)]]
def xaA {prog:Qv}{w:Qw}{A:Qy}{E:Ak}{s:Qu}{κ:KeyKind}(hO:κ.OneLt){sq0:SortSt}{key:Keyed}{xs:UV}{i n hint:Nat}{Q:sQ->yz}(hk:vU)(hs:∀p q,p≤q->q<n->AG[eQ[i+q][o5[i+p]]])(QZ:x2c p)(TL:xNg)(hn:xGn[i+n])(hh:hint<n)
  (h:∀k,xJA->rL[j<k->AG[iQ[i+j]]]->rL[pQ k->j<n->Ty[iQ[i+j]]]->U5 k):kD[xZt false xs i n hint]:=by
 show SC eb[∀j,xy2 κ false key xs j= ! iQ j] x4d[xtY hO hk hn hh TL QZ[λ p q hpq hq hb=>?_] λ k h1 h2 h3=>lM h1 xCY[Μ j hj VN]]
 ·show(x3q hb,(RJ:AG[iQ[i+q]])=A7)
  have:=hs p q hpq hq;cases e:iQ[i+p] with
  |false=>rfl
  |true=>
   show II[x1m[o5[i+q]] _ e]
   ·show qX RJ
   ·show x7Y
 ·show(cX[h2 j hj] eb,pK)
 ·show(cX[h3 j hj VN] eb,pK)
def xif {prog:Qv}{w:Qw}{A:Qy}{E:Ak}{s:Qu}{κ:KeyKind}(hO:κ.OneLt){sq0:SortSt}{key:Keyed}{xs:UV}{i n hint:Nat}{Q:sQ->yz}(hk:vU)(hs:∀p q,p≤q->q<n->AG[eQ[i+q][o5[i+p]]])(QZ:x2c p)(TL:xNg)(hn:xGn[i+n])(hh:hint<n)
  (h:∀k,xJA->rL[j<k->Ty[eQ[i+j] xGs]]->rL[pQ k->j<n->AG[eQ[i+j] xGs]]->U5 k):kD[xZt true xs i n hint]:=by
 show SC eb[∀j,xy2 κ true key xs j=eQ j xGs] x4d[xtY hO hk hn hh TL QZ[λ p q hpq hq hb=>?_] λ k h1 h2 h3=>lM h1 xCY[Μ j hj VN]]
 ·show x3q hb;have:=hs p q hpq hq;show II[x1m[o5[i+p]] _ hb]
  ·show x7Y
  ·show xIJ
 ·exact h2 j hj
 ·exact h3 j hj VN
theorem xmD (o:Nat):∀(r:He) (n:Nat) (xs:UV),xGn[xBm[o+n]]->
  cU[xQw[r.zipIdx n] a x[yjO[o+xGa]] xs][xTw o n++r++xs.toList.drop[xBm[o+n]]]
 | [],n,xs,h=>by simp
 |x::r,n,xs,h=>by
  show(HG Jn,(QF:yaH[o+n])=yu[Nat.lt_of_add_right_lt h],[List.zipIdx_cons,Pi,xmD o r[n+1] _[LT Of[jK [_,_,_,_] x6b Cv[HQ Dw] Cv h]],PF],G9[(xs.toList.set[o+n] x).take[o+(n+1)]=xTw o n++Dt][kh[show o+(n+1)=o+n+1 by show qL Dw rS rS Dw] Kj[KO QF][N9 ρ]][(xs.toList.set[o+n] x).drop[xBm[o+(n+1)]]=ycE[o+n][r.length+1]][by
   rw [List.drop_set_of_lt Z5];congr 1;show BW[xI [_,_,_][HQ Dw] x6b][xI [_,_,_] x6b[HQ Dw]]],[e1,e2,Jn],xMq)
def xxh {κ:KeyKind}{xs:UV}{P X S:He}(e:xGo[P++X++S]){j:Nat}(hj:V6 j):o5 Cw=sW X[(j)]:=by
 show((QF:af Cw)=by
  have:xs.toList.length=xs.size:=Z6;show(xU6 e,yu[Qc _ hj]),[fZ QF]);congr 1;show xI8[xs[(Cw)]=xs.toList[Cw]'ycn] Z6;simp only [e];rw [Nj xTr,Mu Z5];congr 1;exact M2 _ _
def xt9 {xs:UV}(e:xGo[P++X++S])(hj:V6 j):∃QF:af Cw,xs[(Cw)]=X[(j)]:=by
 show(SC QF[af Cw][by
  have:xs.toList.length=xs.size:=Z6;show(xU6 e,yu[Qc _ hj])][FQ QF],xI8[xs[(Cw)]=xs.toList[Cw]'ycn] Z6);simp only [e];rw [Nj xTr,Mu Z5];congr 1;exact M2 _ _
def xm2 {xs:UV}{P X S:He}(e:xGo[P++X++S]){i n:Nat}(hi:xRs)(hn:n≤X.length):xKr[HR i][HR n]=Ew[X.drop i] n i:=by
 show([xyu[LX.mpr hi],e,BJ[HR n-(HR i)][n-i][Nat.add_sub_add_left _ _ _]],[IU,-KS,M7,MC[IY hi hn],KP[by simp;show ED [_,_,_,_] Hk xV1 Φ hn W1]])
def xnm {κ:KeyKind}{xs:UV}{P X S:He}(e:xGo[P++X++S])(h:yjA)(p q:Nat)(hpq:p≤q)(hq:V6 q):AG[eQ[HR q][o5[HR p]]]:=by
 show([xxh e hq,xxh e[show V6 p from JS hpq hq]],yB p q)
 ·exact k7 h p q[MN z hq] hq z
 ·show Fl[p=q][IT hpq z] xc
universe SG
namespace SM
theorem xu9 {α:Type}{p:xw4 α}:∀{ys:EW},(∃y∈ys,Ty[p y])->∃l1 y l2,ys=l1++y::l2/\Ty[p y]/\∀z∈l1,¬Ty[p z]
 | [],h=>by obtain⟨y,hy,_⟩:=h;cases hy
 |z::ys,h=>by
  by_cases hz:Ty[p z]
  ·show Z0 [] z ys rfl hz[xFH h h]
  ·show((y,hy,hp)=h,rg hy hy)
   ·show E9 hp hz
   ·show((l1,y,l2,e,h1,h2)=xu9 (y,hy,hp),(z::l1,y,l2,Ar e,h1,UF u hu),rg hu hu)
    ·exact hz
    ·exact h2 u hu
theorem xyD {kf:cq}(O:x4q):∀{xs ys:EW},xIh->xs.Perm ys
 | [],ys,h=>by
  cases ys with
  |nil=>show yx
  |cons y ys=>have:=ydu[Jl];show xMs
 |x::xs,ys,h=>by
  show(hx=xTT h[Jl],xXm l1 y l2 hy h1[xu9 (x,hx,xQy)],υ e[h qi] n1[l1.filter x7l=[]][Lh.mpr h1]);rw [JL xQy,JN,n1,Kd,JL hy] at e;show((rfl,e2)=Ms e,DC ht[x10[l1++l2]][λ k=>by
   by_cases hk:xCh k x
   ·show(YE yei,xQ[qi=k][x4s _ u6 VJ],Iv JN n1 Kd e2)
   ·show(jz e3 lM zZ JN zZ e3,LT JN e3)][(List.Perm.cons x[xyD O ht]).trans NB.symm])
universe SM
namespace SG
open PySem PyProof.Rows SM
def xin {xs:UV}(h:af 0):xs[(0)]∈xs.toList.take 1:=by
 show(cX[xpp (xs:=xs) (i:=0) h] Kq,Di this)
def xhE {xs:UV}(h:af 0):xs[(xs.size-1)]∈xs.toList.drop[xs.size-1]:=Di[xwP[show af[xs.size-1] from(Dp[UO Fp AM h])]]
def xbE {A:Qy}{E:Ak}{s:Qu}{M:Model}{σ:Type}{x:σ}{Q:PUnit->BY σ}{sq0:σ}(h:Q ⟨⟩ x):xD5 (set x:StateT σ Sem PUnit) Q:=Bz wpS StateT.run_set[Jr[ZV h]]
def sB {prog:Qv}{w:Qw}{A:Qy}{E:Ak}{s:Qu}{κ:KeyKind}(hO:κ.OneLt){sq0:SortSt}{i:Nat}{P X Y S:He}{pw pw2:Nat}{Q:Bool->yz}(hk:vU)(hf:xFj sq0)(QZ:uI Q8)
  (e:Q8=P++X++Y++S) (hX:yjA) (hY:x1o) (nX:V6 0) (nY:0<Y.length)
  (p1:AD[xKD] ((P.length,X.length,pw))) (p2:Cs[xKD][i+1] ((SH,Y.length,pw2)))
  (h:∀st' Z,kindOf st'=oneType'->xFj st'->yje=x01[yhu i ((P.length,xAt,pw))] i 1->cU xK8[P++Z++S]->Z.Pairwise DL->vV Z[X++Y]->xNj st'):
  kD[mergeAt' i]:=by
 show(Sc eX[Q8=P++X++(Y++S)][Di e] eY[Q8=(P++X)++Y++S] e,Sc lPX[SH=ybK] IQ lA[xUY=xKH ybK+S.length][by
  have:(xv3).toList.length=xUY:=Z6;show xU6 e;simp [J8]],A3 hmX[Ic X[xAg x]][DX[QZ x[by show xCQ;simp [hx]]]] hmY[Ee Y[xAg y]][IB[QZ y[by show xCQ;simp [hy]]]][wpS_bind wB]);dsimp-zeta only;rw [p1,p2];dsimp-zeta only;show(G1[xbE ?_],(hy0,ey0)=xt9 eY (j:=0) nY,G1[xFW SH Z3 ?_],(ey:(xv3)[SH]'(KM hy0)=Y[(0)])=ey0,zq ey[xaA hO hk[xnm eX hX] QZ[hmY _[KZ _]][um ybK xUY[dY lPX.symm[Jy hy0]]] nX λ k f1 f2 f3=>?_],Sc g2[∀j (hj:j<k),DL[X[j]'(vq f1)] Y[(0)]][λ j hj=>gN[f2 j hj][xxh eX[show V6 j from vq f1]]] g3[∀j,pQ k->∀hj:V6 j,mq Y[(0)] X[(j)]][λ j hj VN=>gN[f3 j hj VN][xxh eX VN]],x1V y0le[Ee Y[DL Y[(0)] y]][IB[by
  show qW hy;rcases M3 j with rfl|z
  ·exact xc
  ·exact k7 hY 0 j nY hj z]]);by_cases hz:xKp k=0
 ·show(xTg hz[X3[X++Y] hk hf rfl[by show Q8=_;show Di e] ?_ sA],Γ Jt (hX,hY,λ x hx y hy=>?_),qW hx,Ij[g2 j[vq[xKi hz]]][y0le y hy])
 show(iy iD,υ n1[Md nX] hk1[k≤wZ][Mf[Lr[SZ[hz[NR z]]]]],(hx0,ex0)=xt9 eX (j:=wZ) n1,[J8,Km f1,OL nX],G1[xFW[HR[wZ]] hx0 ?_],zq ex0[xif hO hk[xnm eY hY] QZ[hmX _[KZ _]][um[xKH SH] xUY[CM [_,_,_,_,_,_][Ρ[.a[IM xV8] nV]][HQ xV8] WF Uf[IR lPX][IR lA.symm]]][Eo[Y.length-1] Y.length[Md nY]] λ k2 d1 d2 d3=>?_],Sc c2[∀j (hj:j<k2),mq[Y[j]'(vq d1)][X[wZ]' n1]][λ j hj=>gN[d2 j hj][xxh eY[Eo j Y.length[vq d1]]]] c3[∀j,pQ k2->∀hj:j<Y.length,DL[X[wZ]' n1] Y[(j)]][λ j hj VN=>gN[d3 j hj VN][xxh eY VN]],Sc Uk[0<k2][by
  rcases M3 k2 with rfl|z
  ·show(Tl a1[c3 0 ρ nY] a2[g3 wZ hk1 n1],Sc a3[AG[oJ Y[(0)][X[wZ]' n1]]] a1 a4[Ty[oJ Y[(0)][X[wZ]' n1]]] a2,AQ a3 a4 a4)
  ·show xIJ] xlast[Ic X[DL x[X[wZ]' n1]]][DX[by
  show(qW hx,yB j wZ)
  ·exact k7 hX j _ hj n1 z
  ·show Fl[j=wZ][IT[Mf hj] z] xc]])
 dsimp-zeta only;show iy[SZ[K4 Uk xv6]]
 extract_lets x y jp
 show(Sc ex[x.toList=X.drop k][XC[cU[(xv3).extract xPQ[SH]] _] lPX[xm2 eX f1 ρ] xXJ] ey'[y.toList=Y.take k2][by
  show cU[(xv3).extract[SH][SH+k2]] _;show(cX[xm2 eY (i:=0) (n:=k2) B1 d1] Mv,[this,Lv,MM])],Sc lx[x.size=xKp k][by rw [<-KD,ex,Je]] ly[y.size=k2][by rw [<-KD,ey',Jc,J9 d1]],Sc hxa[uI x.toList][X5[hmX p[Ε ex hp[JZ hp]]]] hya[uI y.toList][X5[hmY p[Ε ey' hp[JK hp]]]],Sc sx[x.toList.Pairwise DL][LT ex[hX.sublist[P0 _ _]]] sy[y.toList.Pairwise DL][LT ey'[hY.sublist xQu]],Sc xge[xr x.toList[mq Y[(0)] u]][λ u hu=>by
  rw [ex] at hu;show(qW hu,LT MP[g3 _ Io _])] hfirst[∀v∈y.toList.take 1,xr x.toList[mq v u]][λ v hv u hu=>by
  rw [ey',N3,J9 Uk] at hv;show Fl[v=Y[(0)]][by
   show(qW hv,xw7 Jc,xQ[j=0][xS5[vq G8]],xX7)][xge u hu]],Sc UC[∀v∈y.toList,xr[x.toList.drop[x.size-1]][mq v u]][λ v hv u hu=>by
  rw [ey'] at hv;show(qW hv,xw7 Jc,xX7);rw [ex,lx,KS,PK,Km hk1] at hu;show Fl[u=X[wZ]' n1][by
   show(Dr q hq[Kg.mp hu],xGH Je,[MP]);congr 1;show(xGH[Nat.sub_sub_self nX],Ar[xS5 hq])][c2 j[vq G8]]] hj[tK r UV Ut SortSt[kindOf Ut=oneType'][arrOf Ut=xv3->xFj Ut->pendingOf Ut=x01[yhu i ((P.length,xAt,pw))] i 1->xrn κ x y r->wN[jp r] Q Ut]][by
  intro r Ut b1 b2 b3 b4 hW;show((lr:r.toList.length=(xKp k)+k2)=by
   rw [x11 xD hW.2,IQ,KD,KD,lx,ly],xUC[wpS_bind[wpS_modify ?_]] wB,SC hfn[Ty (yjK).isNone][Ar b3][JT ?_]);show Q[(yjK).isNone] _;show Γ hfn[X3[x3a++r.toList++x2y] b1 b3 b4 ?_ ?_ ?_]
  ·show cU[xQw[r.toList.zipIdx 0] a x[yjO[xPQ+xGa]][arrOf Ut]] _;show([b2,xmD xPQ r.toList 0 xv3[by show([lr,lA],Bj [_,_,_,_,_,_,_][BE DG][Vv Rn][.a[Y9 WF] Fs][.a[xHq Rn nV] xNS] d1[Vp [_,_] f1])],Mv,lr,e],Sc t1[xIi[P++X++Y] S xPQ=P++x3a][by
    rw [IU,IU,MY,Jo Io,Kv,KP f1]] t2[xBT[P++X++Y] S[xPQ+(xKp k+k2)]=x2y++S][by
    rw [IU[P++X],show xPQ+(xKp k+k2)=SH+k2 by rw [lPX,J8,<-J8 k,Km f1,J8],<-KS,M7,MC d1]],[t1,t2],xMq)
  ·show((memr:xr r.toList[u∈x.toList\/u∈y.toList])=λ u hu=>Jx.mp[QU.mem xD hW.2 hu],[IU,Jt,Jt],pJ[hX.sublist xQu] (hW.1,hY.sublist[P0 _ _],λ u hu v hv=>?_)[λ u hu v hv=>?_])
   ·show(Dr q hq[Kg.mp hv],xGH Je,[MP],II[memr u hu])
    ·show Ε ex z[Ij[xlast u[JZ z]][c3 _ Io _]]
    ·rw [ey'] at z;show(qW z,xw7 Jc,xX7,aH hj[vq G8][k7 hY j _[vq d1][K3 hq][vq Io]])
   ·show(Dr q hq[Kg.mp hu],xGH Jc,xX7,a1=g2 q[Ja hq G8],Zd hv)
    ·show II[memr v z]
     ·exact Ij a1[ybJ[xge v z]]
     ·show Ε ey' z[Ij a1[y0le v[JK z]]]
    ·exact Ij a1[y0le v[JZ z]]
  ·have q1:=ydq[(QU.refl (blt:=κ.blt) (kf:=sW) x3a).app hW.2] x2y;rw [ex,ey'] at q1;have:x3a++(X.drop k++Y.take k2)++x2y=X++Y:=by
    rw [<-IU,JJ,IU,JJ]
   show Ε this q1 q1])
 clear_value jp
 show A3 nx[0<x.size][lx▸Ol hz] ny[0<y.size][ly▸Uk][xzE[wpS_bind[xgi hO hk hxa hya sx sy nx ny[hfirst _[xin ny] _ Z6] UC λ r st' RQ hW=>hj r st' yh7 RQ.a yh8 RQ.p hW]]
  (wpS_bind[xgu hO hk hxa hya sx sy nx ny hfirst[UC _ Z6 _[xhE nx]] λ r st' RQ hW=>hj r st' yh7 RQ.a yh8 RQ.p hW])]
def toL {xs:UV}(k:Nat):xs[k]?=xs.toList[k]?:=Z6
def xgm {A' M B:He}(e:xGo[xDg++B]):cU[mirror xs A'.length Zn[(Zn-A'.length)/2]][ykP++B]:=by
 show((hs:xGn Zn)=by
  rw [<-KD,e];simp,Xv k,[-toL,getElem?_mirror_all hs k,toL,toL,e]);by_cases h:A'.length≤k/\k<Zn
 ·show(Ik j[K9 EO],υ hj[Nat.lt_of_add_lt_add_left bw] e0[x0k[Zn]-1-(x0k j)=x0k[M.length-1-j]][by clear h e hs;show BW[G6 [_,_,_,_,_,_,_][xzI 6[Gh[xEA 5[Ρ WO]]]][kx Fs 6[.a[Ξ[Ξ Rn]] nV]] Φ W1 W1[xVx[DI [_,_,_] Β Uf AM[Ρ EH] hj][CM [_,_,_,_][gK[Ρ EH]][Aw dQ] WF Cv hj W1]]][Bx [_,_,_,_,_,_,_][Vv[kx[Ξ[Ξ Rn]] 6 Fs]][kx[Ρ WO] 5[Gh xNS]] Φ Re W1 W1[xVx[rA [_,_] SB AM hj][Dg [_,_,_] gc yp Uf hj W1]]]],[Ju h,e0,IU,IU,Jz Io,Jz Io,Kv,Kv,JP[JS fj[Md hj]],JP[yu hj],List.getElem?_reverse hj])
 ·show([Jk h,IU,IU],yB k A'.length)
  ·rw [JP z,JP z]
  ·rw [Jz z,Jz z,Jz Z5,Jz yej,Ny]
def xgb {x:Keyed}(e:xGo[xDg++Dt++B]):cU[bubble xs Zn[Zn-A'.length]][x7Z++M++B]:=by
 show((hs:af Zn)=by
  rw [<-KD,e];simp,Xv k,[-toL,getElem?_bubble hs _ fj k,toL,toL,toL,e,show x4t[Zn-(Zn-A'.length)] by show El[uW [_,_,_,_][xIe Hk][.a xF1 Φ] W1[DI [_,_,_] Uf WF Uf WF fj]] [_,_,_,_][xIe xF1][.a Hk Φ] SL W1[NL.J'[Iz Re WF]]],VT[Cs[xDg++Dt++B] Zn x][nQ[IU xDg][Jz Z6]],dG);by_cases h1:x4t k
 ·subst h1;rw [CD,IU,IU,Jz ρ];simp
 ·show w8 h1;by_cases h2:A'.length<k/\k≤Zn
  ·rw [Ju h2,IU xDg,IU,Jz[Mf zg],JP Z4,IU x7Z,Jz[yu[Nat.succ_le_of_lt zg]],JP yej];congr 1;simp;show BW[G6 [_,_,_,_,_][BE[xJx EH]][.a yp D7] SL W1[rA [_,_] SB AM zg][NL.J'[Dg [_,_,_] gc yp Uf zg W1]]][Bx [_,_,_,_,_][Gh[BE yp]][kx EH 4 Cv] SL Re W1 W1[rA [_,_] SB SB zg]]
  ·show(w8 h2,yB k A'.length)
   ·rw [IU xDg,IU,JP z,IU x7Z,IU,JP z]
   ·rw [Jz x5a,Jz yej];congr 1;simp
structure At (κ:KeyKind)(sq0:SortSt)(pe:xO5)(l:He):Prop where
 k:vU
 f:xFj sq0
 p:xKD=pe
 a:Q8=l
 has:uI l
def At.setA (h:fb l)(e:xGo l')(hm:gj l'[p∈l]):nA[setArr sq0 xs] l':=(h.k,h.f,h.p,e,X5[h.has p[hm p hp]])
def xtD (hO:κ.OneLt)(h:fb[P++X++S])(hi:V6 i)(hj:V6 j)
  (hq:U5[oJ X[(i)] X[(j)]]):kD[ltAt'[HR i] Cw]:=by
 show(zq ltAt'_eq wB,DW h1 e1[xt9 h.a hi] h2 e2[xt9 h.a hj],xIV h1[x0S h2 ?_],XV e1 e2[xXU h.k[h.has _ Z6][h.has _ Z6] hq])
def xt3 (h:fb[xDg++B])(ei:x4t i)(ej:j=Zn)(hq:∀st',xG8[ykP++B]->x7e):
  kD[reverseSlice' i j]:=by
 subst ei ej;exact wpS_reverse[hq _[h.setA[xgm h.a][X5 xLf]]]
def xa2 (h:fb[xDg++Dt++B])(ei:i=Zn)(ej:x4t j)(hq:∀st',xG8[x7Z++M++B]->x7e):
  kD[moveDown' i j]:=by
 subst ei ej;show LT moveDown'_eq[wpS_modify[hq _[h.setA[xgb h.a][X5[by
  simp only [Jx,JC] at hp ⊢;rcases hp with((z|z)|z)|z
  ·show xV2[.inl z]
  ·show DZ[.inr z]
  ·show xV2[.inr z]
  ·show DM z]]]]]
def xhU:dD[xBD sQ]:=sortPriv%PySem.Builtin.countRun
def xaF (h:yjB)(hx:Ee l[DL y x]):p7[l++Dt]:=LT Jt (h,Z6,λ a ha b hb=>Fl[b=x] A7[hx a ha])
def xpj {l:He}(h:yjB)(hn:n+1=l.length)(hy:y∈l):DL y[l[n]'(KM x5b)]:=by
 show(qW hy,yB j n)
 ·exact k7 h j n hj[KM x5b] z
 ·show Fl[j=n][IT[KC[Jq hj hn.symm]] z] xc
structure xuN (κ:KeyKind)(X D0 Eb:He)(n UZ:Nat):Prop where
 le:Eb.length=UZ+1
 ln:D0.length+Eb.length=n
 eq:xr Eb[∀v∈Eb,DL u v]
 sd:D0.reverse.Pairwise DL
 lt:xr Eb[∀d∈D0,mq u d]
 sq0:vV xBM Zm
def xuN.sorted (h:xZd n UZ):p7 xBM:=LT Jt (List.pairwise_of_forall_mem_list λ u hu v hv=>h.eq u hu v hv,h.sd,λ u hu d hd=>ybJ[h.lt u hu d[NC.mp hd]])
def xyt {X:He}(hn:V6 n):X.take[n+1]=Zm++[X[(n)]]:=Ai Kj[IW hn]
def xuN.next (h:xZd n UZ)(hn:V6 n)(QF:xr Eb[mq X[(n)] u]):x41 x7S [X[(n)]][n+1] 0:=by
 show SC QZ[xr xBM[mq X[(n)] u]][λ u hu=>by
  show Zd hu
  ·exact QF u z
  ·show(Sc RI[0<Eb.length][HI h.le[OU this]] e0[Eb[(0)]∈Eb][KZ RI],(xD).tr _ _ _[QF _ e0][h.lt _ e0 u[NC.mp z]])] (rfl,gA IQ Ny h.ln,λ u hu v hv=>?_,?_,λ u hu d hd=>?_,?_)
 ·show(G9[u=X[(n)]] xFk[v=X[(n)]][by simpa using hv],i8,DN e2 xc)
 ·show XV MV LG h.sorted
 ·show(VT[u=X[(n)]] xFk,i8,QZ d ?_,Zd hd)
  ·exact vA[NC.mpr z]
  ·exact wz[NC.mp z]
 ·show([MV,LG,xyt hn],ω[xTU[yh9 [X[(n)]]]][x8F xD[λ y hy x hx=>?_]],VT[y=X[(n)]] xFl,DN e1[QZ x hx])
def xuN.more (h:xZd n UZ)(hn:V6 n)(h1:xr Eb[DL X[(n)] u])(h2:xr Eb[DL u X[(n)]]):x41 D0[Eb++[X[(n)]]][n+1][UZ+1]:=by
 show(Sc RI[0<Eb.length][HI h.le[OU this]] e0[Eb[(0)]∈Eb][KZ RI],SC hD[∀d∈D0,mq X[(n)] d][λ d hd=>xri xD[h1 _ e0][h.lt _ e0 d hd]] (Ai IQ h.le,by rw [IQ,<-J8,h.ln];rfl,λ u hu v hv=>?_,h.sd,λ u hu d hd=>?_,?_))
 ·rcases Jx.mp hu with z|z<;>rcases Jx.mp hv with z2|z2
  ·exact h.eq u z v z2
  ·show Fl[v=X[(n)]][by simpa using z2][h2 u z]
  ·show Fl[u=X[(n)]] zk[h1 v z2]
  ·show(G9[u=X[(n)]] zk[v=X[(n)]][by simpa using z2],i8,DN e2 xc)
 ·show Zd hu
  ·exact h.lt u z d hd
  ·show Fl[u=X[(n)]] zk[hD d hd]
 ·show(Γ[xyt hn][xTU[yh9 [X[(n)]]]],rK IU IU[(QU.refl Eb).app[x8F xD[λ y hy x hx=>?_]]],Fl[y=X[(n)]] xFl[hD x[NC.mp hx]])
def xov (hO:κ.OneLt){Q:(xzX sQ Nat)->yz}
  (h:fb[P++X++S]) (hn:Rx=X.length) (ha:AL a) (han:a≤Rx) (hs:p7[X.take a])
  (hf:∀(x n:Nat) (Ya:Vt) (TK:n<Rx),xUt[f x[Wm n]][λ r st'=>st'=sq0/\r=Uc[oJ[X[n]'(x7p)][X[n-1]'(K0 x7p)]][.done[Wm n]][.yield[Wm[n+1]]]])
  (hq:∀n,YJ a->n≤Rx->p7 Zm->(n=Rx\/∃QF:V6 n,mq X[(n)][X[n-1]'(xXj)])->Q[Wm n] sq0):kD[forIn [a:Rx] (Wm a) f]:=by
 refine xKY[λ x c st'=>st'=sq0/\c=Wm x/\p7[X.take x]] ?_ ?_[Ef rfl hs]
 ·rintro x c st' hax Yh ⟨rfl,rfl,YT⟩;refine Mn[hf x x[IY ha hax] Yh] ?_;rintro r VU ⟨rfl,rfl⟩;by_cases hc:Ty[oJ[X[x]'(xNu)][X[x-1]'(K0 xNu)]]
  ·show oB hc[hq x hax[Ly Yh] YT[x4 xNu hc]]
  ·show(iR hc[xZx rfl],Γ[xyt[show V6 x from xNu]][xaF YT[UF y hy]],l1=xpj YT[by rw [Jc,J9[Jy xNu],M1[IY ha hax]]] hy,Ε LD l1[Ij l1[by simpa using hc]])
 ·show(xF7 c st' rfl YT,xwA[BJ[max a Rx] Rx[Qd han]] YT[hq Rx han ρ YT bK])
inductive CrI {γ:Type} (κ:KeyKind) (X P S:He) (pe:xO5) (x:Nat) (c:xBZ gO) (st':SortSt):Prop
 |mk (D0 Eb:He) (UZ:Nat) (e:c=wJ x UZ) (hD:xZd x UZ) (hA:xG8[P++(D0++Eb++xUS)++S]):CrI κ X P S pe x c st'
inductive CrQ {γ:Type} (κ:KeyKind) (X P S:He) (pe:xO5) (n Rx:Nat) (c:xBZ gO) (st':SortSt):Prop
 |mk (m:Nat) (D0 Eb:He) (UZ:Nat) (e:c=wJ m UZ) (h1:m≤Rx) (h2:n+1≤m) (hD:xZd m UZ) (hA:xG8[P++(D0++Eb++xwH)++S]):CrQ κ X P S pe n Rx c st'
def xf6 (hO:κ.OneLt)(h:fb[P++X++S])(VS:Rc=P.length)(hn:Rx=X.length)(h1:AL Rx)
  (hq:∀m Y st',AL m->m≤Rx->x5c m->x1o->vV Y[X.take m]->xG8[P++(Y++xwH)++S]->Q[some m] st'):kD[xhU Rc Rx]:=by
 subst VS;show mV up[cj sq0 X[fb[P++X++S]][∀(hXn:Rx=X.length) (n:Nat) (Ya:Vt) (TK:n<Rx) {Q:xLd->yz},U5[oJ[X[n]'(Jq TK hXn)][X[n-1]'(K0[Jq TK hXn])]]->kD[ltAt'[HR n][HR n-1]]]][by
  intro sq0 X h hn n Ya TK Q hq;show LT[BJ[HR n-1][HR[n-1]][OL Ya _]][xtD hO h x7p[K0 x7p] hq]][xov hO h hn[Jb 1] h1 ?_ ?_ λ n Ya TK hs hor=>?_]
 ·cases X with
  |nil=>simp
  |cons x X=>simp
 ·intro x n Ya TK;show(G1[up h hn n Ya TK ?_],xTn)
  ·show xCR
  ·show xCR
 dsimp-zeta only;show Sc same[P++X++S=P++(Zm++yek)++S][by rw [JJ]] lt[BD Zm n][by rw [Jc,J9[IY TK x5b]]]
 by_cases e1:n=Rx
 ·show xTg e1[hq n Zm sq0 Ya TK lt hs sA[same▸h]]
 show(zJ[aO[SZ[e1 xv6]] ?_] QF V2[hor.resolve_left e1],Tl hn5[Jq QF hn.symm] Y2[JS B1 QF])
 extract_lets v1 v2 jp
 have hjp:∀YL,nA YL[P++(x1X++yek)++S]->(xr Zm[∀v∈Zm,DL u v])->wN x78 Q YL:=by
  intro YL hA1 heq;show(G1 x2W,Sc hprev[(X[n-1]'(xXj))∈Zm][LT List.mem_take_iff_getElem[ni[n-1][yaG (Md Ya,xXj)]]] hX0[xr Zm[mq X[(n)] u]][λ u hu=>xYi V2[heq _ hprev u hu]],A3 hD0[x41 x1X [X[(n)]][n+1] 0][by
   refine(rfl,Ai Ny lt,λ u hu v hv=>?_,LT LG hs,λ u hu d hd=>?_,?_)
   ·show(G9[u=X[(n)]] xFk[v=X[(n)]][by simpa using hv],i8,DN e2 xc)
   ·show(VT[u=X[(n)]] xFk,DN e1[hX0 d[NC.mp hd]])
   ·show([LG,xyt QF],DK[x8F xD[λ y hy x hx=>?_]] e1[y=X[(n)]] xFl,DN e1[hX0 x hx])] hA0[nA YL[P++(x1X++[X[(n)]]++X.drop[n+1])++S]][by
   show([IU x1X,NV,-Kt QF],hA1)][wpS_bind[Sl[CrI κ X P S pe][CrQ κ X P S pe n Rx][yo _ _ 0 hD0 hA0]]])
  ·rintro x c Ut hax Yh ⟨D0,Eb,UZ,rfl,hD,hA⟩;show((hax':n+1≤x)=hax,Tl Td hD.le Q0 hD.ln,Sc hxX[V6 x] xNu lC[Rx=DV[D0++Eb] xUS][by show([IQ,IQ,Je,Q0,xXh hxX],hn)],(hc1:(D0++Eb++xUS)[x]'(x7h)=X[(x)])=by
    rw [Mu[GV[IR Q0]],MP];simp only [IQ,Q0,LU,Mv],Tl hE[KM[IR Td.symm]] W6[Ja[ML n] hax'],Sc hx2[x-1=D0.length+UZ][xML Q0 Td] hc2[(D0++Eb++xUS)[x-1]'(K0 x7h)=Eb[UZ]' hE][by
    rw [Nj[XV IQ Q0[Md W6]],Mu[LT hx2 Io]];simp only [hx2,Kv]],mV hEl[(Eb[UZ]' hE)∈Eb][KZ _][up hA lC x W6 Yh ?_],yeC hc1 hc2);cases e:oJ X[(x)][Eb[UZ]' hE] with
   |true=>
    show(g8 rfl ?_,υ hN[hD.next hxX λ u hu=>xYi e[hD.eq _ hEl u hu]] fin[∀RU,nA RU[x9z[P++D0]++(xUS++S)]->nA RU[P++(x7S++[X[(x)]]++X.drop[x+1])++S]][λ RU h3=>by
     show([IU x7S,NV,-Kt hxX],Xn h3)])
    by_cases Yu:UZ>0
    ·show g8 Yu[wpS_bind[xt3[Xn hA][by show([IQ,-Q0,Td,-J8],x79)][mE J8 Q0] λ RU hA3=>JT[yo _ _ 0 hN[fin RU hA3]]]]
    ·show(qm hrev[Eb.reverse=Eb][by
      show((y,e)=ygk[Td.trans[xS4[NG Yu]]],Ar e)][aO Yu[JT[yo _ _ 0 hN[fin Ut ?_]]]] hrev,Xn hA)
   |false=>
    show(iy Z9,zq[OL W6][xtD hO hA[K0 x7h] x7h ?_],yeC hc1 hc2);cases e2:oJ[Eb[UZ]' hE] X[(x)] with
    |true=>exact x7a[JT[Q6 x D0 Eb UZ[Jy Yh] hax' hD hA]]
    |false=>
     show(sI Z9[JT[yo D0 _[UZ+1][hD.more hxX[λ u hu=>Ij e2[hD.eq _ hEl u hu]][λ u hu=>Ij[hD.eq u hu _ hEl] e]] ?_]],[-IU D0,IU[D0++Eb],NV,-Kt hxX],hA)
  ·rintro c Ut ⟨D0,Eb,UZ,rfl,hD,hA⟩;have:max[n+1] Rx=Rx:=Qd hn5;have this':max v1 Rx=Rx:=this;rw [this'] at hD hA ⊢;exact Q6 Rx D0 Eb UZ ρ hn5 hD hA
  ·rintro c Ut ⟨m,D0,Eb,UZ,ec,hm1,hm2,hD,hA⟩;subst ec;show Tl Td hD.le Q0 hD.ln;dsimp-zeta only
   extract_lets r1 r2 r3 r4 jp3
   show Sc er3[m=r3] rfl er4[UZ=r4] rfl
   clear_value r3 r4
   subst er3 er4;have Xk:∀RU,nA RU[x9z[P++D0]++(xwH++S)]->wN[jp3 ()] Q RU:=by
    intro RU hA3;show χ hm0[Ja[ML n] hm2][wpS_bind[xt3 (M:=x7S) (Xn hA3) rfl[mE Ny Q0][UF S3 Xb]]];rw [MV,LG] at Xb;show(Sc lY[DV Eb D0.reverse=m][by rw [IQ,Ny,Mm,Q0]] lYX[Rx=DV xBM xwH][uA IQ lY Je[Km[IY hm1 x5b]] hn],mV hA5[nA S3[P++(xBM++xwH)++S]][Xn Xb][xov hO hA5 lYX hm0 hm1 ?_ ?_ λ n2 hn3 hn4 TJ _=>?_])
    ·show XV[KP[IR lY.symm]][Jo[IR lY]] hD.sorted
    ·intro x n2 hn3 hn4;show(G1[up hA5 lYX n2 hn3 hn4 ?_],xTn)
     ·show xCR
     ·show xCR
    refine JT[hq n2 _ S3[IY hm0 hn3] hn4[by rw [Jc,<-lYX,J9 hn4]] TJ ?_ ?_]
    ·show(G9[xIi xBM xwH n2=xBM++Ew xwH n2 m][by
      rw [MY,Jo[dY lY hn3],lY]][X.take n2=X.take m++Ew xwH n2 m][by
      rw [<-Oj,Km hn3]],XV e1 e2[hD.sq0.app sA])
    ·show(VT[xBT xBM xwH n2=X.drop n2][by
      rw [List.drop_append,Lj[dY lY hn3],Kd,lY,KS,Km hn3]],xw8 e1 JJ hA5)
   clear_value jp3
   by_cases Yu:UZ>0
   ·show g8 Yu[wpS_bind[xt3[Xn hA][by show([IQ,-Q0,Td,-J8],x79)][mE J8 Q0] λ RU hA3=>Xk RU hA3]]
   ·show(qm hrev[Eb.reverse=Eb][by
     show((y,e)=ygk[Td.trans[xS4[NG Yu]]],Ar e)][aO Yu[Xk Ut ?_]] hrev,Xn hA)
 clear_value jp
 by_cases hgt:n>1
 ·show(g8 hgt ?_,zq[OL Ya][xtD hO h Y2 xXj ?_]);dsimp only;cases er:oJ[X[0]' Y2][X[n-1]'(xXj)] with
  |true=>exact x7a[JT[hq n Zm sq0 Ya TK lt hs sA[same▸h]]]
  |false=>
   show sI Z9[wpS_bind[xt3 ?_ rfl[by rw [lt]] λ RU hA3=>hjp RU[Xn hA3] λ u hu v hv=>?_]]
   ·show((e0:P++Zm++(yek++S)=P++X++S)=by rw [IU P,<-IU Zm,JJ,<-IU],LT e0 h)
   ·show(Dd l1[xpj hs[by rw [lt,M1 Ya]] hu] LD l1,qW hv,xX7,DC l2[DL[X[0]' Y2][X[j]'(vq[dY lt[Jy QF]])]][by
     rcases M3 j with rfl|z
     ·exact xc
     ·show jL[k7 hs 0 j[MN z hj] hj z] LD LD this][Ij l1[Ij er l2]])
 ·show sI hgt[hjp sq0 ?_ λ u hu v hv=>?_]
  ·show(xQ[n=1][IT[xSF hgt] Ya],HG same,VT[(X.take 1).reverse=X.take 1][by
    cases X with
    |nil=>rfl
    |cons x X=>rfl],aC h)
  ·show(xQ[n=1][IT[xSF hgt] Ya],qW hu,Dr q hq'[Kg.mp hv],G9[j=0][xS5[lt▸hj]][q=0][xS5[lt▸hq']],i8,DN e2 xc)
inductive BiI {γ:Type} (κ:KeyKind) (Y R P S:He) (pe:xO5) (ok k:Nat) (c:yfj) (st':SortSt):Prop
 |mk (e:c=Wm ()) (Y':He) (h1:Y'.length=k) (h2:yiF) (h3:vV Y'[Y++xOo k ok]) (h4:xG8[P++(Y'++xP8)++S]):BiI κ Y R P S pe ok k c st'
inductive BjI {γ:Type} (st':SortSt) (k:Nat) (L U:gh) (x:Nat) (c:xBZ gO) (VU:SortSt):Prop
 |mk (e0:VU=st') (l r:Nat) (e:c=wJ l r) (h1:l≤r) (h2:r≤k) (h3:r-l≤k-x) (h4:∀i,i<l->L i) (h5:∀i,IA r->U i):BjI st' k L U x c VU
inductive BjQ {γ:Type} (st':SortSt) (k:Nat) (L U:gh) (c:xBZ gO) (VU:SortSt):Prop
 |mk (e0:VU=st') (l r:Nat) (e:c=wJ l r) (h1:l≤k) (h4:∀i,i<l->L i) (h5:∀i,IA l->U i):BjQ st' k L U c VU
def xfM (hO:κ.OneLt)(h:fb[P++(Y++R)++S])(VS:Rc=P.length)(hY:x1o)(lY:x5c ok)(h1:AL ok)(hok:YJ ok)(hn:n≤x6k ok)
  (hq:∀Y' st',Y'.length=n->yiF->vV Y'[Y++xOo n ok]->xG8[P++(Y'++xME n)++S]->xNj st'):kD[binarySort' Rc n ok]:=by
 subst VS;show G1[Mn[xKY[BiI κ Y R P S pe ok] (Q:=BiI κ Y R P S pe ok n) ?step ?fin ?init] ?post]
 case post=>
  rintro c st' ⟨rfl,Y',e1,e2,e3,e4⟩;show xAK[hq Y' st' e1 e2 e3 e4]
 case init=>
  show(C7[max ok 1=ok][Nat.max_eq_left h1],Γ e (rfl,Y,lY,hY,?_,?_))
  ·show Iv LU MK JM sA
  ·show XV LU Lv h
 case fin=>
  rintro c st' ⟨rfl,Y',e1,e2,e3,e4⟩;rw [Qd[yjg (hok,IY h1 hok)]] at e1 e3 e4;show Z0 rfl Y' e1 e2 e3 e4
 case step=>
  rintro k c st' hak hkn ⟨rfl,Y',e1,e2,e3,e4⟩;show(Sc hak'[ok≤k][IY[Nat.le_max_left _ _] hak] hkr[UE[k-ok]][Bx [_,_,_,_,_][BE[xJx EH]][.a DG D7] SB SL hn hkn[Vp [_,_] hak']],Sc lC[DV Y' xP8=k+(R.length-(k-ok))][mE Je e1] hkC[k<DV Y' xP8][lC▸Lc[NY hkr]]);clear lC;show Sc hx[(Y'++xP8)[k]' hkC=R[(k-ok)]][by
   rw [Mu[IR e1],MP];simp only [e1,LU,Mv]] hy[∀m (hm:m<k),(Y'++xP8)[m]'(MN hm hkC)=Y'[m]'(vd hm)][λ m hm=>Nj[vd hm]]
  extract_lets v1 v2
  let L0:gh:=λ i=>∀hik:i<k,DL[Y'[i]'(vd hik)] R[(k-ok)]
  let U0:gh:=λ i=>∀hi:i<k,mq R[(k-ok)][Y'[i]'(vd hi)]
  show G1[Mn[xKY[BjI st' k L0 U0] (Q:=BjQ st' k L0 U0) ?istep ?ifin ?iinit] ?ipost]
  case iinit=>exact F1 rfl 0 k B1 ρ[KU _ 0][rV i hi hi[NM _]][λ i h1 h2=>absurd h2[Zs h1]]
  case ifin=>
   rintro c VU ⟨rfl,l,r,rfl,hlr,hrk,hm,VS,YW⟩;show Fl[l=r][xnp hlr hm][Aa rfl l l hrk VS YW]
  case istep=>
   rintro x c VU _ hxk ⟨rfl,l,r,rfl,hlr,hrk,hm,VS,YW⟩;dsimp only;by_cases SD:l≥r
   ·show Fl[l=r][IT hlr SD][xwe ρ[JT[Aa rfl l l hrk VS YW]]]
   ·show(Sc hmr[(l+r)/2<r] Z5 hml[l≤(l+r)/2][uW [_,_,_][gK[AS EH]][Aw[Cy m6]] hmr zV],χ hmk[Ja hmr hrk][aO SD[wpS_bind[xtD hO e4 hkC[MN hmk hkC] ?_]]],yeC hx[hy _ hmk]);cases V2:oJ R[(k-ok)][Y'[(l+r)/2]'(vd hmk)]
    case true=>
     show(g8 rfl[JT[F1 rfl l[(l+r)/2] hml[Jy hmk][IY[ME[Mf hmr] _][LT PK[ME hm 1]]] VS[Μ i h1 h2]]],yB[(l+r)/2] i)
     ·exact xYi V2[k7 e2 _ i[vd hmk][vd h2] z]
     ·show Fl[i=(l+r)/2][IT z h1] V2
    case false=>
     show(sI Z9[JT[F1 rfl[(l+r)/2+1] r hmr hrk[IY[Pw[Ml hml] _][ME hm 1]][Μ i h1 h2] YW]],yB i[(l+r)/2])
     ·exact Ij[k7 e2 i _[vd h2][vd hmk] z] V2
     ·show Fl[i=(l+r)/2][IT[KC h1] z] V2
  case ipost=>
   rintro c VU ⟨rfl,l,r,rfl,U1,VS,YW⟩;show(Sc hd[xP8=R[(k-ok)]::xME[k+1]][by
    show([Kt hkr],[Qb hak'])] hA[nA VU[(P++xFJ)++xFK++[R[(k-ok)]]++(xME[k+1]++S)]][by
    show(xU hd e4 e0[(P++xFJ)++xFK++[R[(k-ok)]]++(xME[k+1]++S)=P++(Y'++R[(k-ok)]::xME[k+1])++S][by
     show([IU P,JJ],xMq)],LT e0 e4)],A3 lt[BD xFJ l][by rw [Jc,e1,J9 U1]] ld[BD xFK[k-l]][by rw [Je,e1]][wpS_bind[xa2 hA[by rw [IQ,lt,ld,J8,Km U1]][iB lt] λ RU hA3=>JT (rfl,xFJ++[R[(k-ok)]]++xFK,?_,?_,?_,?_)]])
   ·rw [IQ,IQ,lt,ld];show l+1+(k-l)=k+1;rw [Nat.add_right_comm,Km U1]
   ·show(Sc m1[Ee xFJ[DL y R[(k-ok)]]][IB[by
     show(qW hy,xw7 lt,LT LD[VS j hj[vq U1]])]] m2[Ee xFK[DL R[(k-ok)] y]][IB[by
     show(qW hy,xw7 ld,LT MP[ybJ[YW _ Io[K3 hj]]])]],rK IU Jt[xJ7[e2.sublist xQu][λ a ha b hb=>?_]])
    ·show([NV,K7],AU m2[e2.sublist[P0 _ _]])
    ·show Zd hb
     ·show Fl[b=R[(k-ok)]] zk[m1 a ha]
     ·exact Ij[m1 a ha][m2 b z]
   ·show((e5:xOo[k+1] ok=xOo k ok++[R[(k-ok)]])=by
     rw [Qb hak',xyt hkr],[e5,-IU],DK[xTU[e3.app[QU.refl [R[(k-ok)]]]]] sw[vV[xFJ++([R[(k-ok)]]++xFK)][xFJ++(xFK++[R[(k-ok)]])]][ye9[x8F xD[λ y hy x hx=>by
     show(xQ[y=R[(k-ok)]] xFl,qW hx,xw7 ld,LT MP[YW _ Io[K3 hj]])]]])
    rw [<-IU,<-IU,JJ] at sw;exact sw
   ·show Xn hA3
def dE (o:Nat):xBj->B4
 | []=>[]
 |r::Rs=>yeD o::dE[xBm o] Rs
theorem xyy (o):∀Rs,BD[dE o Rs] Rs.length
 | []=>rfl
 |r::Rs=>zG[iT[dE _ Rs] 1=_][xyy _ Rs]
theorem xyx (o):∀As Bs,dE o[As++Bs]=dE o As++dE[xKz o] Bs
 | [],Bs=>by simp [dE]
 |r::As,Bs=>by
  show yeD o::dE[xBm o][As++Bs]=yeD o::(dE[xBm o] As++_);rw [xyx _ As Bs,Ky,IQ,J8]
theorem xnQ {α β:Type}(f:α->β):∀(l:EW) (i:Nat),xZw yis=yjh f i
 | [],_=>rfl
 |a::l,0=>rfl
 |a::l,i+1=>lP[f a::xZw yis=f a::yjh f i][xnQ f l i]
abbrev two (e:xAp gO):gO:=((e.1,AV e))
def Sm (Rs:xBj)(pe:xO5):Prop:=yhh=dE 0 Rs
theorem Sm.size {pe:xO5}(h:xXV pe):pe.size=Rs.length:=by
 show(xNK h,xBQ xyy KD this,xMu)
theorem Sm.push (h:xXV pe)(e1:Rc=Rs.flatten.length)(e2:n=r.length):Sm[Rs++[r]][pe.push ((Rc,n,pw))]:=by
 show xAL Sm;subst e1 e2;rw [PZ,Ji,h,xyx,Kq];rfl
theorem Sm.modify (h:xXV pe)(i)(hf:∀e,two[f e]=two e):xXV[pe.modify i f]:=by
 show(xAL Sm,[-h],Xv j,[Jw,Jw],xI8[(pe.modify i f).toList[j]?=Hn i j[xZw[yex j]][yex j]][by
  rw [OX,OX,Array.getElem?_modify]])
 split
 ·cases e:yex j with
  |none=>rfl
  |some v=>show lP[xWL[two[f v]][two v]] hf
 ·rfl
theorem Sm.at (h:Sm[As++X::Bs] pe)(hi:x3R i):∃pw,AD pe[xTo X.length pw]:=by
 subst hi;show(XO Sm,C7[Cs[yhh] As.length ykO][by
  rw [h,xyx,Jz[LT xyy ρ],xyy,LU,Kq];rfl])
 rw [Jw,OX] at e;cases e2:pe[As.length]? with
 |none=>show yb e2
 |some v=>
  show(xU e2 e e3[two v=ykO][JA e],(v1,v2,v3)=v,Tl e4[congrArg Prod.fst e3] e5[congrArg Prod.snd e3]);dsimp only at e4 e5;subst e4 e5;exact Gs v3
def Sm.merge (h:Sm[As++X::Y::Bs] pe)(hi:x3R i)(hZ:Z.length=xAt):
  Sm[As++Z::Bs][x01[pe.setIfInBounds i[xTo xAt pw]] i 1]:=by
 subst hi;show(hs=h.size,xAL Sm);rw [IQ,Jn,Jn] at hs;show(VT[cU[x01[pe.setIfInBounds As.length[xTo xAt pw]] As.length 1][(pe.toList.set As.length[xTo xAt pw]).eraseIdx[As.length+1]]][Up Array.eraseIdxIfInBounds[dif_pos[LT Of[EZ[Ρ xM0] SL PL SL[IR hs.symm]]]] Array.toList_eraseIdx PF],[e1,xnQ,List.map_set,h,xyx,xyx]);show((dE 0 As++((xKz 0,X.length))::((xKz 0+X.length,Y.length))::dE[xKH[xKz 0+X.length]] Bs).set As.length[yf5 xAt]).eraseIdx[As.length+1]=dE 0 As++((xKz 0,Z.length))::dE[xKz 0+Z.length] Bs;show(lA=xyy 0 As,[List.set_append,Jk[PU.mpr[IR lA]],lA,LU,List.set_cons_zero,List.eraseIdx_append_of_length_le[Nat.le.intro[congrFun[congrArg HAdd.hAdd lA] 1]],lA,BJ[As.length+1-As.length] 1[M2 _ 1],hZ,Kq],lP[_++(_::dE _ Bs)=_] J8)
structure xem (κ:KeyKind)(a0:He)(sq0:SortSt)(L:Nat)(Rs:xBj)(tail:He):Prop where
 at':∃pe,fb[xE1 tail]/\xXV pe
 so:∀r∈Rs,r.Pairwise DL/\0<r.length
 len:Rs.flatten.length=L
 st':vV[xE1 tail] a0
def xod (hO:κ.OneLt)(h:xU2 sq0 L[As++X::Y::Bs] tail)(hi:x3R i)
  (hq:∀st' Z,xU2 st' L[As++Z::Bs] tail->xNj st'):kD[mergeAt' i]:=by
 show(((pe,hA,hP),so,hlen,RQ)=h,DW sX nX[so X Z6] sY nY[so Y Z6],(ef:x8q[As++X::Y::Bs]=As.flatten++X++Y++(yfp))=xMq,DW pw p1[hP.at hi] pw2 p2[Sm.at (As:=As++[X]) (X:=Y) (Bs:=Bs) (pe:=pe) (i:=i+1) xTS[by simp [hi]]],sB hO (P:=As.flatten) (X:=X) (Y:=Y) (S:=yfp) (pw:=pw) (pw2:=pw2) hA.k hA.f[X5[hA.has p[Ε hA.a hp hp]]][by rw [hA.a,ef]] sX sY nX nY[LT hA.p p1][nQ hA.p p2] λ st' Z b1 b2 b3 b4 b5 b6=>?_,Sc lZ[Z.length=xAt][by rw [x11 xD b6,IQ]] ez[x8q[As++Z::Bs]=As.flatten++Z++(yfp)] xMq,SC YL[vV[x8q[As++Z::Bs]][x8q[As++X::Y::Bs]]][Iv ez ef[IU As.flatten X][(ye9 b6).app sA]][hq st' Z (Gy (b1,b2,b3,by rw [b4,ez],X5[hA.has p[QU.mem xD YL hp]]),UF r hr,?_,YL.trans RQ)])
 ·show LT hA.p[hP.merge hi lZ]
 ·show Zd hr
  ·exact so r EV
  ·show rg z z
   ·show AU b5[CM [_,_,_][.a Fp Φ] HM Fp Re nY[IR lZ.symm]]
   ·exact so r EV
 ·rw [<-hlen];simp [lZ,J8]
theorem xvQ {α:Type}:∀{Rs:EW} {j:Nat},x4u[j+1]->∃As X Y Bs,Rs=As++X::Y::Bs/\x3R j
 | [],j,h=>E2
 | [x],j,h=>E2
 |x::y::Rs,0,_=>([],x,y,Rs,rfl,rfl)
 |x::Rs,j+1,h=>by
  show((As,X,Y,Bs,e,hj)=xvQ (Rs:=Rs) (j:=j) (by show E2;assumption),Z0[x::As] X Y Bs[Ar e][by simp [hj]])
theorem xpa:∀{Rs:xBj},uB r Rs[0<r.length]->Rs.length≤Rs.flatten.length
 | [],_=>ρ
 |r::Rs,h=>by
  show(yY[h r Z6][xpa (Rs:=Rs) λ q hq=>h q[by simp [hq]]],AR Ky Jn,yE [_,_,_][m8 Fp] Φ Φ h1 h2)
inductive AlI {γ:Type} (κ:KeyKind) (a0:He) (x:Nat) (c:xBZ Nat) (st':SortSt):Prop
 |mk (Rs:xBj) (tail:He) (L:Nat) (e:c=Wm L) (h:xZZ tail) (hx:x≤L):AlI κ a0 x c st'
inductive AlQ {γ:Type} (κ:KeyKind) (a0:He) (c:xBZ Nat) (st':SortSt):Prop
 |mk (Rs:xBj) (L:Nat) (e:c=Wm L) (h:xZZ []):AlQ κ a0 c st'
inductive xom {γ:Type} (κ:KeyKind) (a0:He) (L:Nat) (t:He) (n:Nat) (c:yfj) (st':SortSt):Prop
 |mk (e:c=Wm ()) (Rs:xBj) (h:xZZ t) (hl:YJ Rs.length):xom κ a0 L t n c st'
inductive xzz {γ:Type} (κ:KeyKind) (a0:He) (L:Nat) (t:He) (c:yfj) (st':SortSt):Prop
 |mk (e:c=Wm ()) (Rs:xBj) (h:xZZ t):xzz κ a0 L t c st'
def SrP (κ:KeyKind)(a0:He)(x:Nat){γ:Type}(r:ForInStep[xBZ Nat])(st':SortSt):Prop:=match r with
 | .done c'=>AlQ κ a0 c' st'
 | .yield c'=>AlI κ a0[x+1] c' st'
def xjH (h:1<n):n-2+1<n:=tS [_,_] gZ PL[UO[AS AM] jr h]
def xeC (hO:κ.OneLt)(hk:vU)(hf:xFj sq0)(hp:xKD=#[])(QZ:uI Q8)
  (h:∀st',xFj st'->ygX DL->vV (xK8).toList Q8->x7e):kD sortRuns':=by
 show(xEC a0 ha0 a0[Q8=a0] CQ,mV hsz[xUY=a0.length][by rw [<-ha0,KD]] wB)
 extract_lets size Tj Rc
 have hsize:size=a0.length:=hsz
 clear_value size
 show mV tot[∀{st' L Rs tail},xZZ tail->L+tail.length=size][λ {st' L Rs tail} hR=>jL[x11 xD hR.st'] IQ hR.len[this.trans hsize.symm]][Sl[AlI κ a0][AlQ κ a0] ?_]
 rotate_left
 ·rintro c st' ⟨Rs,tail,L,rfl,hR,hx⟩;show(t=tot hR,Fl[tail=[]][K2.mp[(M6 t).trans[NR hx]]][sV Rs L hR])
 ·show Z0 [] a0 0 rfl[sV[ni #[] (hk,hf,hp,ha0,λ p hp'=>QZ p[LT ha0 hp'])][xFH h h] sA] ρ
 ·rintro c Ut ⟨Rs,L,rfl,hR⟩;show Tl hlen[tot hR] SD[xpa (Rs:=Rs) λ r hr=>(hR.so r hr).2]
  rw [hR.len] at SD;show G1[Sl[λ x=>xom κ a0 L [][xYz[size-x]]][xom κ a0 L [] 1][xPS Rs hR[IY SD[IY vT[yg4 _]]]]]
  ·rintro x c RU _ hx ⟨rfl,V0,RS,RV⟩;show(G1 wB,ak pe hA hP RS.at' hs4[xSz RU=V0.length][LT hA.p hP.size])
   extract_lets p i before i2
   by_cases h1:p.size≤1
   ·show(DK[xwe h1[JT[xPS V0 RS ?_]]] Ul[xSz RU≤1] h1,Lw hs4.symm Ul)
   ·show(iy h1,Sc Ul[¬xSz RU≤1] h1 hi2[i2+1<V0.length][by
     show(G9[i=xSz RU-2] rfl[i2=i-1\/i2=i][by
      show yN _=i-1\/yN _=i
      split
      ·show xYh
      ·show DM rfl],hs4▸JS[Ml[e2.elim[λ e=>e▸fj] IR]][xjH[Lr Ul]])])
    clear_value i2
    show((As,X,Y,Bs,rfl,hj)=xvQ hi2,ω[wpS_bind[xod hO RS hj[Μ S3 Z Si]]][xYn[JT[xPS _ Si ?_]]]);simp only [IQ,Jn] at RV ⊢;exact IY[Mf[(Std.le_max.1 RV).resolve_left[SZ[Nat.not_succ_le_zero _[OG[IY[L7 _ _] z]]]]]][yg4 _]
  ·rintro c RU ⟨rfl,V0,RS,RV⟩;show E3 rfl V0 RS[IY RV[yjg (ρ,dY[LU size] B1)]]
  ·rintro c RU ⟨rfl,V0,RS,RV⟩;show Dq pe hA hP RS.at'[JT[h RU hA.f ?_ ?_]]
   ·rw [hA.a,JM];rcases V0 with _|⟨r,_|⟨_,R⟩⟩
    ·simp
    ·simpa using(RS.so r Z6).1
    ·cases OG RV
   ·show XV ha0 hA.a RS.st'
 rintro x c YL _ hx ⟨Rs,tail,L,ec,hR,hxL⟩;subst ec;have t:=tot hR
 extract_lets Rc jp force nf
 have elo:Rc=L:=rfl
 clear_value Rc
 subst elo;by_cases SD:Rc≥size
 ·show Fl[tail=[]][K2.mp[(M6 t).trans[NR SD]]][xwe SD[JT[sV Rs Rc hR]]]
 show(iy SD,Dq pe hA hP hR.at'[wpS_bind[xf6 hO (P:=Rs.flatten) (X:=tail) (S:=[]) (by simpa using hA) hR.len.symm[BJ[size-Rc] tail.length[MQ[M6 t]]][(Nat.le_sub_iff_add_le'[Jy xWh]).mpr xWh] λ m Y Ut m1 m2 lY sY tY hA2=>?_]],x1V m2'[m≤tail.length][IY m2[xGw[M6 t]]])
 extract_lets n0
 have hjp:∀n Y tail' RU,x5c n->0<n->x1o->vV xIv tail->nA RU[xE1[xIv]]->
   wN[x78 n][SrP κ a0 x] RU:=by
  intro n Y tail' RU lY nY sY tY hA3;show mV RS[xU2 RU Rc Rs xIv] ((pe,hA3,hP),hR.so,hR.len,(ye9 tY).trans hR.st') wB
  extract_lets v1 jp2
  have Xl:∀S3 V0,xU2 S3 Rc V0 xIv->wN x4U[SrP κ a0 x] S3:=by
   intro S3 V0 Si;show((pe4,Xb,hP4)=Si.at',mV ef[(V0++[Y]).flatten++tail'=V0.flatten++(xIv)] xMq[wpS_modify[JT[yo[V0++[Y]] tail'[Rc+n] (Cm[(x1r).push ((Rc,n,0))][jE Xb.k Xb.f[LT ef Xb.a][X5[Xb.has p[Ε ef hp hp]]]],UF r hr,?_,LT ef Si.st')[IP hxL nY]]]])
   ·show LT Xb.p[hP4.push Si.len.symm lY.symm]
   ·show Zd hr
    ·exact Si.so r z
    ·show(xQ[r=Y] zk,AU sY[Jq nY lY.symm])
   ·have:=Si.len;simp only [Ld,IQ,Ky,List.flatten_nil,JM];rw [this,lY]
  clear_value jp2
  cases hb:(pendingOf RU).back? with
  |none=>
   have:wN x4U[SrP κ a0 x] RU:=Xl RU Rs RS;simpa only [hb] using this
  |some e=>
   obtain⟨s1,n1,p1⟩:=e;simp only [hb];show G1[Mn[xKY[λ _=>xzz κ a0 Rc xIv] (Q:=xzz κ a0 Rc xIv) ?_ xCe[xBq Rs RS]] ?_]
   ·rintro x2 c S3 _ _ ⟨rfl,V0,Si⟩;show(G1 wB,ak pe4 Xb hP4 Si.at' hs4[oK=V0.length][LT Xb.p hP4.size])
    by_cases h2:oK>1
    ·show((As,X,Y1,Bs,rfl,hj)=xvQ (Rs:=V0) (j:=oK-2) (hs4▸xjH h2),mj pw p1[hP4.at (i:=oK-2) hj] e1[TD[EM[oK>1] (x1r)[oK-2]? none][xTo X.length pw]][by
      rw [Ju h2,<-p1,Xb.p]],dG);dsimp only;show HU[xzE[JT[xBq _ Si]][wpS_bind[xod hO Si hj[Μ st5 Z hR5]]]][xYn[JT[xBq _ hR5]]]
    ·show(VT[Θ[EM[oK>1] (x1r)[oK-2]? none]] Rg,aC[JT[xBq V0 Si]])
   ·rintro c S3 ⟨rfl,V0,Si⟩;show(G1[wpS_modify[Xl _ V0 ?_]],Dq pe4 Xb hP4 Si.at' (Gy[jE Xb.k Xb.f Xb.a Xb.has],Si.so,Si.len,Si.st'));show Sm V0[(x1r).modify[oK-1] _];show LT Xb.p[hP4.modify _ λ e=>rfl]
 clear_value jp
 by_cases QF:m<Tj
 ·show(xUC[xwe QF yaT][xfM hO (P:=Rs.flatten) (Y:=Y) (R:=xKA) (S:=[]) hA2 hR.len.symm sY lY m1[um m[xOp[size-Rc]][ygl[Jy QF]]][show xOp[size-Rc]≤m+(xKA).length by show XV Je[Km m2'][IY G8[xGw[M6 t]]]] λ Y' RU lY' sY' tY' hA3=>?_],DK[xYn[Mn[xWE Y'[yet[xOp[size-Rc]-m]] RU lY'[Ja m1[ygl[Jy QF]]] sY' ?_[by simpa using hA3]] λ r st' q=>by cases r<;>exact q]] e1[vV[Y'++yet[xOp[size-Rc]-m]][(tail.take m++Ew xKA[xOp[size-Rc]] m)++yet[xOp[size-Rc]-m]]][(tY'.trans[tY.app sA]).app sA]);rw [IU,JJ,JJ] at e1;exact e1
 ·show(sI QF[Mn[hjp m Y xKA Ut lY Z3 sY ?_[by simpa using hA2]] λ r st' q=>by cases r<;>exact q],e1=tY.app[QU.refl (blt:=κ.blt) (kf:=sW) xKA],Ε JJ e1 e1)
universe SG
namespace SG
open PySem PyProof.Rows
abbrev ltI:vF[xw4 Int]:=λ a b=>HY a b
abbrev xr8 {β:Type} (p:Int×β):Int:=BS
def xwh:SM.Ord ltI:=(λ a=>Kh yhi,λ a b c h1 h2=>IZ[yig[Jd h2]],λ a b c h=>by
  show xGL;by_cases c1:a<b
  ·show DZ[IZ c1]
  ·show DM[IZ[Int.lt_of_le_of_lt[yaE c1] this]],λ a b h1 h2=>by
  have:=Oz h1;show kG[Oz h2])
def kInt:KeyKind where
 α:=Int
 blt:=λ a b=>HY a b
 irrefl:=λ a=>Kh yhi
 trans:=λ a b c h1 h2=>IZ[yig[Jd h2]]
 negTrans:=λ a b c h=>by
  show xGL;by_cases c1:a<b
  ·show DZ[IZ c1]
  ·show DM xBW
 total:=λ a b h1 h2=>by
  have:=Oz h1;show kG[Oz h2]
 keyOf:=λ v=>match v with
  | .int n _=>some n
  |_=>none
 dflt:=0
def kInt_one:kInt.OneLt:=by
 intro prog w A E s x y a b Q hx hy hq;cases x with
 |int n t=>
  cases y with
  |int m u=>
   cases hx;show CR hy[oneLt_int hq]
  |_=>cases hy
 |_=>cases hx
theorem pw_small {α:Type}{R:α->BY α}:∀{l:EW},l.length<2->l.Pairwise R
 | [],_=>.nil
 | [x],_=>by simp
 |x::y::l,h=>by show(E2,rB[AS PL] jr h)
universe SG
namespace L2
open PySem PyProof.Rows QQ
theorem xmZ:∀{l1} {x} {l2} {m},PR[l1++x::l2] m->∃m1 y m2,m=m1++y::m2/\PR l1 m1/\CU t[ke=Ud Vx]/\RelV y.2 xGa/\PR l2 m2
 | [],x,l2,m,h=>by
  cases h with
  |cons a b c=>exact([],_,_,rfl,.nil,a,b,c)
 |z::l1,x,l2,m,h=>by
  cases h with
  |cons a b c=>
   show((m1,y,m2,rfl,h1,h2,h3,h4)=xmZ c,(_::m1,y,m2,rfl,yfa b h1,h2,h3,h4))
def xcj (g:PR l1 m1)(h:PR l2 m2):PR[l1++l2][m1++m2]:=by
 induction g with
 |nil=>show j8
 |cons a b _ ih=>exact yfa b ih
def xaT (h:xSa){k:Int}(hn:∀z∈l,¬Ty[x9I zI k z]):∀z∈m,¬Ty[x3E k z]:=by
 induction h with
 |nil=>intro z hz;cases hz
 |cons a b c ih=>
  intro z hz;show rg hz hz
  ·show xzS t a[eM[Jl ..]]
  ·exact ih[λ u hu=>hn u[XQ hu]] z hz
theorem xjo:∀{l' l:HZ Qr Qr} {m},x0s zI l' l->xSa->bY[x02 SG.xr8 m' m/\PR l' m']
 | [],l,m,hs,h=>by
  show Y7[yaw x07 hs];cases h with
  |nil=>show Dj [] ya2 .nil
  |cons a b c=>show xCN
 |x::l',l,m,hs,h=>by
  show(Tl O x07 hx[SM.QU.mem O hs[xPd x l']],xXm l1 y l2 hy h1[SM.xu9 (x,hx,SM.xo1 (blt:=SG.kInt.blt) (kf:=zI) O x)],υ e[hs[zI x]] n1[l1.filter[x9I zI[zI x]]=[]][Lh.mpr h1]);rw [JL[SM.xo1 O x],JN,n1,Kd,JL hy] at e;show(mj rfl e2[Ms e] ht[x0s zI l'[l1++l2]][λ k=>by
   by_cases hk:Ty[x9I zI k x]
   ·show(YE[SM.xy7.mp hk],xQ[zI x=k][x4s _ u6 VJ],Iv JN n1 Kd e2)
   ·show(jz e3[hs k] zZ JN zZ e3,LT JN e3)],(m1,y,m2,rfl,p1,(t,hy1),p2,p3)=xmZ h,(m',q1,q2)=xjo ht[xcj p1 p3],A3 hkx[zI x=Vx][by
   show mj x1 x2 x e9[x1=Ud Vx] hy1;subst e9;rfl] km[∀z∈m1,¬Ty[x3E Vx z]][Ε hkx h1[xaT p1 h1]][Cm[y::m'][Hy k]])
  ·by_cases hk:Ty[x3E k y]
   ·show(YE[SM.xy7.mp hk],xQ[Vx=k][SG.xwh.tot _ _ u6 VJ],eN n2[m1.filter[x3E Vx]=[]][Lh.mpr km] q[q1 Vx]);rw [JN,n2,Kd] at q;rw [JL hk,JN,n2,Kd,JL hk,q]
   ·show(Dd q[q1 k] JN q,[zZ,JN,zZ,q])
  ·show(DW x1 x2 x y1 y2 y,.cons (t,hy1) p2 q2)
def xiq {σ:St}
  (I:Wp) (ho:Ii a[xTp n]) (fa:jM a) (hl:its.length=ks.length) (QY:yjC)
  (hcall:∀(Rq:Κ) (s':Qu) (E':Ak) (i:Nat) (x:Qr) (k:Int),zv its->AD ks k->xJM H s'->WN[xTF Dt][λ r Uh=>CU t[r=Ud k]/\xJM H Uh] E' s')
  (h:∀(s':Qu) (out:UV) (kv:Cb),xH2->(∃e,s'.heap.get? a=some (seqObj "list" (out.map (·.2)) e))->x2h ks->ycC->yb6 zI xAu->P[ycO .none] s'):
  WN[yhf F5 xEb] P E s:=by
 show([xfP],(ha:xv4 a)=JE ho,qc[listItems_at ho rfl ?_][xOq ho ?_],xEC e1 ho1 e1[VA x7b a xWf][EX[Ot ho[λ _=>#[]]]],xNp I1[xYr x7b][I.turn fa] hs1[xTl (x7b).objs.size][Heap.size_update ..] x7b h1,qc[yaJ ho1 ?_][wpAny_newTuple ?_],xz4 x0Q x76,Sc ho3[VA xXv a xWf][Ze[Ze ho1]] I3[xYr xXv][x0H s.toks[λ b o e=>Ze qH]],Sc hc3[VA xXv xYB[xvV ([]:Cb).toArray 0]] BH Yi[xzW xYB][by show([size_push',hs1],BM x63)],Sc fc[jM xYB][x0T Yi Yi] nac[a≠xYB][Kf[Ja ha Yi]]);show WN _ P E[mX xXv];show xEF xYB c xXv h3;dsimp only;show qc[Nf ?_][wpAny_forIn_array' _[λ rest _ s'=>∃(i:Nat) (kv:Cb),rest=its.drop i/\i≤its.length/\x2h[ks.take i]/\xH2/\xv9 a xWf/\∃e2,xv9 c[yjz e2]] _ ?_ ?_ _ _ (0,[],rfl,B1,.nil,I3,ho3,0,hc3)]
 ·rintro x rest _ s' ⟨i,kv,hr,hi,hkv,I',hoa,e2,U7⟩;show(Sc hx[zv its][by
   have:Cs[its.drop i] 0 x:=by rw [<-hr];rfl
   show(xSE L6,pK)] Su[i<its.length][ZZ hx],Sc hk[AD ks ks[(i)]][IW[CM [_,_,_] tF Φ SB SL yq Su]] hrest[rest=its.drop[i+1]][Ε[Kt Su] hr (Ms hr).2],χ Ip[I'.pinned (fp:=[a,c]) (Bm[by
   show qT
   ·exact fa
   ·show xEg fc])[Bm[by
   show qT
   ·show iu hoa xtZ
   ·show xEg[CS U7 xtZ]]]][IX[Nu[ZW[hcall _ s' _ i x ks[(i)] hx hk Ip][Μ r Uh z9] e e]]],((t,hrv),I'')=z9);subst hrv;show(Sc hoa'[TD[Uh.heap.get? a] xWf] (I''.pin _[x99 Z6 hoa]).1 hoc'[TD[Uh.heap.get? c][yjz e2]] (I''.pin _[x99 Z6 U7]).1,υ I2 I''.unpinned U1[kv.length=i][xIE hkv.length Jc])
  dsimp only;show xz4[xOq hoc' yG (hsz:=by show([Jj,U1,M8],ED [_,_] Ω xAS xFa QY hi)) (hsz2:=by show([Array.size_push,Jj,U1,M8],yE [_,_] Ω xAS[AS xFa] QY hi))] (i+1,kv++[Ud ks[(i)]],hrest,Su,?_,I2.turn fc,?_,?_)
  ·show XV Kj hk[xht hkv]
  ·show xEO c _ a=_;show xD6 nac hoa'
  ·show(Y7[Ot hoc'[λ x=>x.push[xFt ks[(i)]]]],Ε List.push_toArray e[EX e])
 ·rintro _ s' ⟨i,kv,hr,hi,hkv,I',hoa,e2,U7⟩;have hie:xLV i:=by
   show cX[vC hr] Je;simp at this;show El[xRN hi] [_,_,_] DG[xDs HM] SL x8 W1
  rw [hie,hl,Ki] at hkv;show(Sc U1[xLV kv.length][by rw [hkv.length,hl]] hz[xLV yer][by show(Di Array.size_zip,LN[IR U1.symm])],Sc I4[Zu[x17 x7U]][I'.turn fc] hoa4[VA x7U a xWf][xD6 nac hoa],SC fin (∀out:UV,ycC->yb6 zI xAu->P[ycO .none] (x17 ((x7U).update a (Obj.mapSeq λ _=>out.map (·.2))))) (by
   intro out hp hs;show(x4O e5 (Ot hoa4 (λ _=>out.map (·.2))) x7U h4,xAI I5[Zu[x17[yfO a]]][Inv.turn (s:=x17 h4) I4 fa][yfO a] h5,X3 out kv I5[EX e5] hkv hp hs))[IX[listItems_at U7 rfl ?_]]);by_cases h2:its.toArray.size<2
  ·show(Vr[Ju h2] h2,Gp yG,mw StateT.run_pure yG);dsimp only;show(qc[xOq U7 ?_ (hsz:=(by show([Jj,U1,M8],Ay DU Re Dm Re xFa QY)))] x5d,qc[yaJ hoa4 ?_][xOq hoa4 ?_ (hsz2:=by show(EF Array.size_map[yer≤_],[hz,M8],Ay DU Re Dm Re[AS xFa] QY))],yit LH Og,Jr[fin _[SG.pw_small ?_] ?_])
   ·show(EF KD[yer<2],Ε Jj h2[lt_of_eq_of_lt hz h2])
   ·have:cU xKd xAu:=Z6;show SM.QU _ _ (xKd).toList _;show xZv ya2
  ·show(Wf h2 Rg,xU Jj h2 hkk[keyKind' kv.toArray=pure oneType'][by
    match kv,hkv,U1 with
    | [],_,U1=>simp at U1;show rB[lg 2] xHE[aM[JX h2] U1.symm]
    | [_],_,U1=>simp at U1;show rB[lg 2] SB[aM[JX h2] U1.symm]
    |v₁::v₂::vs,hkv,_=>exact keyKind_ints hkv],mw hkk yG,A3 hzl[cU xKd xAu] Z6 hik[gj (arrOf[ygP xKd #[] 7 none]).toList[SG.xla SG.kInt p]][by
    intro p hp;show((hp':p∈xAu)=Bg hzl hp,(n,t,e)=hkv.all _ (Oq hp').1,AU n[Ar e])][IX[ZW[SG.xeC SG.kInt_one (sq0:=ygP xKd #[] 7 none)
    (Q:=λ _ st'=>ygX[SG.xo0 SG.kInt]/\xFj st'/\x0s zI (xK8).toList xAu)
    rfl rfl rfl hik λ st' a1 a2 a3=>(a2,a1,Bg hzl a3)] ?_ e e]])
   rintro⟨⟨⟩,st'⟩ Uh ⟨rfl,hp,hf,hs⟩;have hsz9:xLV (xK8).size:=by rw [<-KD,yaw x07 hs,List.length_zip,U1,Nat.min_self]
   dsimp only;show(qc[xOq U7 ?_ (hsz:=(Iv Jj U1 M8[uJ QY]))] x5d,qc[yaJ hoa4 ?_][xOq hoa4 ?_ (hsz2:=by show([Array.size_map,hsz9,M8],Ay DU Re Dm Re[AS xFa] QY))],[hf],yit LH Og,Bw[fin _ hp hs])
def xgo {σ:St}
  (I:Wp) (hp:yiR) (hl:its.length=ks.length) (QY:yjC)
  (hcall:∀(Rq:Κ) (s':Qu) (E':Ak) (i:Nat) (x:Qr) (k:Int),zv its->AD ks k->xJM H s'->xSv X.A.in1.in1[xTF Dt][λ r Uh=>CU t[r=Ud k]/\xJM H Uh] E' s')
  (h:∀(s':Qu) (l:Qq) (out:UV) (kv:Cb),xH2->jM l->(∃e,s'.heap.get? l=some (seqObj "list" (out.map (·.2)) e))->x2h ks->ycC->yb6 zI xAu->Q Ct s'):
  Av[xz8 "sorted" Cg xEb] Q E s:=by
 refine call_function_entry_kw kind_sorted plain_sorted entry_sorted[xfC _ _] ?_;unfold Builtin.«sorted»;show(ω[xZM[checkCount "sorted" 1 1 _] yG][IX[collect_list hp ?_]],Gp x0Q,Sc hsz (((s.heap.push[seqObj "list" #[] 0]).update s.heap.objs.size (Obj.mapSeq (·++its.toArray))).objs.size=Hl)[by
  rw [Heap.size_update,size_push']] hoL (VA (((s.heap.push[seqObj "list" #[] 0]).update s.heap.objs.size (Obj.mapSeq (·++its.toArray))).push[seqObj "list" its.toArray 0]) Hl[xTp 0])[Bg hsz BH],(I2:xYr[yfu[xTp 0]])=x2X[λ b o e=>
  Ze[xD6 xWb qH]],V' _ _[mX[yfu[xTp 0]]],RZ hsz fl[jM Hl][x0T bG bG][xNM[wpAny_call_entry_kw slot_list_sort[Xi hoL] entry_list_sort[xiq I2 hoL fl hl QY hcall λ s' out kv a1 a2 a3 a4 a5=>xLb][xfk _ _]]],Bw[BV[h s' _ out kv a1 fl a2 a3 a4 a5]])
def xca (K:Frag)(sp:Sp)(t:TA):TE:=λ σ H Q=>ku zs (∃(p:Qq) (xs:Sy) (ks:Za),zs=Cg/\xY1 p xs/\xU9 ks.length/\ybd/\
 (∀(i:Nat) v k,xDv->AD ks k->sp [v] H1[jh r[r=x6U/\H2=H1]] E0)/\
 ∀l m,UQ l->(m.map (·.1)).Pairwise (·≤·)->x02 SG.xr8 m[ks.zip xs]->Q Ct (upd H1 l (.lst (m.map (·.2)))))
def xnM {fe:QA}{p:Pos}{kp:Pos}{pos:Pos}{y:Str}{t:TA}(F:xTm QM k f fd [y] sp)(hr:xE6[k+2])(hb:xEB X.K [y] [])(hg:xFp "sorted")(hm:xLz "sorted")(hf:xIy fe HW)(ha:Gu [e] t)
  (he:AJ[xLn[e:: []]=yg::xW0]) (Tp:yfC)
  (QZ:AJ ((backToKw pos[keywordEach [(some "key",fe,kp)] X.env]).all (·.1.isSome)=true))
  (hkw:AJ ((backToKw pos[keywordEach [(some "key",fe,kp)] X.env]).any (·.1.isNone)=false))
  (hfm:AJ ((backToKw pos[keywordEach [(some "key",fe,kp)] X.env]).filterMap (·.1)=[("key":Str)])):
  AN[xSB "sorted" p [e] [(some "key",fe,kp)] pos][xca X.K sp t]:=by
 intro QD s σ H Q I h;show(ω[Lk[xRO[show xKJ "sorted"[.builtin "sorted"] from Z8] ?_]][ygq e (rest:=[]) xQZ he Tp QZ hkw],xKc vs H1 I1 r1 q1,kws_cons[thn[hf QD s1 σ H1[jh v[v=HW/\H2=H1]] I1 qg] λ fv s2 ⟨v,H2,I2,r2,e1,e2⟩=>kws_nil ?_]);subst e1 e2;show(Hu[fv=Value.ref f] r2,[hfm],(p,xs,ks,rfl,hq,hlen,QY,Vd,q)=q1,lE u ru r1,Hu[u=Value.ref p] ru,xzN rv pl hz[I2.list hq],Su=rv.length,V' _[xz8 "sorted" Cg xEb] s2,xgo (ks:=ks) I2 pl.isList Z5[dY Su.symm QY][λ Rq s' E' i x k' hx hk I'=>?_] λ s' l out kv I' fl ⟨en,ho⟩ hkv hp hs=>?_)
 ·show(aD v hv rvv v[xDv/\RelV v x][by
   show((hix:rQ)=HI[ZZ hx][Jq this Su.symm],xFT e3 r3[xH9 i xs[(i)][IW hix]],AQ hx e3 e3,iu[IW hix] r3)],OJ[Oc[x1L X.A.in1.in1 s' H2[sG Dt] Dt [v] _ E0 hr.in1.in1 I'.env0.in1.in1[hb s' Dt I'.kIn rfl][lp rvv][Vd i v k' hv hk]][Μ r Uh hq]]);cases r with
  |error e=>show S5
  |ok fl=>
   cases fl with
   |ret u=>
    obtain⟨v',H',I'',rr,e1,e2⟩:=I'.after hq;subst e1 e2;show AU rr I''
   |next=>show S5
   |brk=>show S5
   |cont=>show S5
 ·show((m,RQ,hpr)=xjo hs[xdm hkv rv],Tl hvals[xbK hpr] hml[xdn hpr],qm hol[xLV out.toList.length][by rw [yaw x07 hs,List.length_zip,hkv.length];lia] (ya Ct (I'.adopt fl (its:=out.toList.map (·.2)) hvals[by show([IS],pI M8)] (n:=en) (by rw [ho,<-Array.toList_map]))[q l m fl.1 ?_ RQ]) Ku);intro i j hi hj hij;rw [IS] at hi hj;show(eN key[xP3 i h[i<m.length] h2[i<out.toList.length][zI[out.toList[i]' h2]=m[(i)].1]][by
   intro i hi hi2;show(ak t v e[xd5 hpr xW4] e'[out.toList[(i)]=((Ud m[(i)].1,v))][JA[(IW hi2).symm.trans e]],Ar e')] l1[k7 hp i j Z5 Z5 hij],[List.getElem_map,List.getElem_map],(l2:AG[SG.kInt.blt[zI[out.toList[j]' Z4]][zI[out.toList[i]' Z4]]])=l1);rw [key i hi,key j hj] at l2;show DC l3[¬m[(j)].1<m[(i)].1][SZ[by
   have:Ty[SG.kInt.blt m[(j)].1 m[(i)].1]:=xHW;show AQ this l2 l2]][Int.not_lt.mp l3]
universe L2
namespace PM
abbrev Bd:=xAp LE
def pairs:Cj->Cj
 |a::b::r=>((T6+HK,xQI++tq))::x3H
 |_=>[]
def occ (R:Cj)(p:Nat):Nat:=(R.map λ b=>EC tq).sum
def Rt (B:Cj):Prop:=B.Pairwise λ a b=>T6≤HK
def xtS {a b:LE}(h:a.Perm b):a.sum=b.sum:=by
 induction h with
 |nil=>rfl
 |cons x _ ih=>simp [ih]
 |swap x y l=>show yu[Nat.add_left_comm _ _ _]
 |trans _ _ h1 h2=>exact h1.trans h2
def xmN {R S:Cj}(h:R.Perm S)(p:Nat):WT=yy S:=xtS[h.map _]
def xnx (R S:Cj)(p:Nat):yy[R++S]=WT+yy S:=by simp [occ]
def xxk (b:Bd)(S:Cj)(p:Nat):yy[b::S]=EC tq+yy S:=by simp [occ]
def part {R U X Y:Cj}(h:Xe R U[X++Y]):∃RX RY UX UY,R.Perm[RX++RY]/\U.Perm[UX++UY]/\X.Perm[RX++UX]/\Y.Perm[RY++UY]:=by
 induction R generalizing X Y with
 |nil=>exact([],[],X,Y,.nil,h,x4v,x4v)
 |cons r R ih=>
  show((hr:r∈X++Y)=h.subset Jl,sJ hr hX hY)
  ·show(υ e[N1 hX] h2[Xe R U[X.erase r++Y]][yjR[e.append_right Y]],(RX,RY,UX,UY,h3,h4,h5,h6)=ih h2,(r::RX,RY,UX,UY,h3.cons r,h4,e.trans[h5.cons r],h6))
  ·show(υ e[N1 hY] h2[Xe R U[X++Y.erase r]][yjR[(e.append_left X).trans NB]],(RX,RY,UX,UY,h3,h4,h5,h6)=ih h2,(RX,r::RY,UX,UY,(h3.cons r).trans NB.symm,h4,h5,e.trans[h6.cons r]))
def xgX:∀(n:Nat) {B RP UP:Cj},xQ4->Rt B->Xe RP UP yQ->uB r RP[xr UP[r.1≤u.1]]->
  ∃R U,Xe R U B/\uB r R[xr U[r.1≤u.1]]/\xNk[x3S 2]/\EN p[WT=yy RP]/\∀r∈R,∃q∈RP,∃x∈B,DO=r.1+ke:=by
 show xCL
 induction n with
 |zero=>
  intro B RP UP hB _ h _;show(C7[B=[]][K2.mp yf7],DD);have:RP=[]/\UP=[]:=by
   show(x3T h,pK)
  show j6 this[zE [] [] .nil[U4 E2] QO[U4 E2]]
 |succ n ih=>
  intro B RP UP hB hs h hle
  match B,hB,hs,h with
  | [],_,_,h=>
   have:RP=[]/\UP=[]:=by
    show(x3T h,pK)
   show j6 this[zE [] [] .nil[U4 E2] QO[U4 E2]]
  | [x],_,_,h=>
   have:RP=[]/\UP=[]:=by
    show(x3T h,pK)
   show j6 this[zE [] Dt x4v[U4 E2] QO[U4 E2]]
  |a::b::r,hB,hs,h=>
   show((YT:Rt r)=xVh[xVh hs],Tl ha[xVa hs] hb[xVa[xVh hs]],Sc hab[T6≤HK][ha b Jl] hm[((T6+HK,xQI++tq))∈RP++UP][h.symm.subset Jl],sJ hm hR hU)
   ·show(υ e[N1 hR] h2[Xe[RP.erase ((T6+HK,xQI++tq))] UP x3H] (yb0[e.append_right UP]).cons_inv,(R,U,h3,h4,h5,h6,h7)=ih[by show(xGj,Ly hB)] YT h2 λ x hx u hu=>hle x[OV hx] u hu,Dd hl e.length_eq Jn hl,(a::b::R,U,(h3.cons b).cons a,?_,?_,Hy p,?_))
    ·intro x hx u hu;show((hur:u∈r)=h3.subset[vA hu],rg hx hx)
     ·exact ha u[XQ hur]
     ·show rg hx hx
      ·exact hb u hur
      ·exact h4 x hx u hu
    ·rw [Jn,Jn,h5];lia
    ·show([xmN e p,xxk,xxk,xxk,h6 p],lP[_=EC[xQI++tq]+_] Nd);lia
    ·show(xEw,rg hx hx)
     ·exact cm hR b Z6 rfl
     ·show rg hx hx
      ·exact cm hR a Z6[Mm _ _]
      ·show DR q hq y hy e[h7 x hx] (q,OV hq,y,XQ Qt,e)
   ·show(υ e[N1 hU] h2[Xe RP[UP.erase ((T6+HK,xQI++tq))] x3H] (NB.symm.trans[yb0[e.append_left RP]]).cons_inv,(R,U,h3,h4,h5,h6,h7)=ih[by show(xGj,tS [_,_] SB Re hB)] YT h2 λ x hx u hu=>hle x hx u[OV hu],SC key[Ic R[ke≤T6/\ke≤HK]][by
     show(xEw,(q,hq,y,hy,e)=h7 x hx,eN h8[DO≤T6+HK][hle q hq _ hU] h9[hb y hy],AU[G6 [_,_,_,_,_][xHq Rn xY][BE[oI Φ]] SL zL h8 h9][G6 [_,_,_,_,_][Ξ[xHq Rn xY]][Aw[BE[oI Φ]]] Uf hab zL[IP h8 h9]])] (R,a::b::U,?_,?_,h5,h6,xIH))
    ·exact NB.trans[(NB.trans[h3.cons b]).cons a]
    ·intro x hx u hu;show rg hu hu
     ·exact(key x hx).1
     ·show rg hu hu
      ·exact(key x hx).2
      ·exact h4 x hx u hu
    ·show DR q hq y hy e[h7 x hx] (q,hq,y,XQ Qt,e)
inductive Lev (sg:Cj):cI Cj
 |zero:x6L 0 []
 |step {k:Nat} {B B':Cj}:x6L k B->B'.Perm[sg++yQ]->Rt B'->x6L[k+1] B'
def sgl (wt:ET) (p:Nat):Bd:=((xQz,[p]))
def xn9 {wt:ET}{L:LE}{RX UX:Cj}(h:(UU).Perm[RX++UX]):∃RL UL,L.Perm[RL++UL]/\RX=RL.map E6/\UX=UL.map E6:=by
 show SC g[E5[RX++UX][E6[(tq).headD 0]=b]][by
  intro b hb;show x1n p rfl[h.symm.subset hb];rfl] (TX (RX.map (·.2.headD 0)) (UX.map (·.2.headD 0)) ?_ ?_)
 ·have:=h.map (·.2.headD 0);rw [K1,Ji] at this;show(C7[((λ b:Bd=>(tq).headD 0)∘E6)=id][by funext p;rfl],aG e List.map_id this this)
 ·rw [K1]
  conv=>lhs;rw [<-List.map_id RX]
  exact Nq[Bm (g b[wz hb]).symm]
 ·rw [K1]
  conv=>lhs;rw [<-List.map_id UX]
  exact Nq[Bm (g b[vA hb]).symm]
theorem xqh {wt:ET}:∀{M:LE} {p:Nat},yy[M.map E6]=M.count p
 | [],p=>rfl
 |q::M,p=>by
  rw [KH,xxk,xqh];show EC [q]+_=_;show(nQ NI NI,Mm _ _)
theorem xnY {p:Nat}:∀{M:LE},M.Nodup->p∈M->M.count p=1
 | [],_,h=>E2
 |a::M,hn,h=>by
  show(hn'=Ou.mp hn,[NI]);by_cases e:a=p
  ·show(DD,Di[MD hn'.1])
  ·show((hm:p∈M)=by
    show XJ h h h
    ·show E9 h.symm e
    ·show j8,[xnY hn'.2 hm],x7A)
def xx1 (R:Cj)(k:Nat)(S:LE):Nat:=x2k[λ p=>2^(k-WT)]
def xgY {S:LE}{f:ET}{c:Nat}(h:gj S[f p=c]):x2k f=xBn c:=by
 induction S with
 |nil=>rfl
 |cons a S ih=>
  show([KH,MZ,yT a,ih[X5[lS p hp]],Jn,Nat.mul_succ],Mm _ _)
def xg1 {S:LE}{f g:ET}(h:gj S[f p=g p]):x2k f=x2k g:=by rw [Nq h]
def xak {wt:ET}{L:LE}(hL:L.Nodup)(hw:gj L[0<xQz]){k:Nat}{B:Cj}(lv:xNh k B):Rt B/\CP[0<HK]/\
  ∀R U,Xe R U B->uB r R[xr U[r.1≤u.1]]->∃S T,L.Perm[S++T]/\(gj S[AL WT/\WT≤k/\E6 p∈R])/\EN p[p∉S->WT=0]/\2*xx1 R k S+2^k*R.length=xBn[2^(k+1)]:=by
 induction lv with
 |zero=>
  show pJ .nil[U4 E2][λ R U h _=>?_];have:R=[]/\U=[]:=by
   show(x3T h,pK)
  show j6 this ([],L,x4v,U4 E2,xvU,rfl)
 | @step k B B' _ hp hs ih=>
  show((hsB,SF,ih)=ih,SC pos_pairs[tK n Nat B Cj xQ4[CP[0<HK]->E5 yQ[0<HK]]][by
   show xCL
   induction n with
   |zero=>intro B hB _ b hb;show(xQ[B=[]][K2.mp[IT[qG Hc Hc hB] zW]],xQj)
   |succ n ih2=>
    intro B hB h b hb
    match B,hB,h,hb with
    | [],_,_,hb=>show xQj
    | [x],_,_,hb=>show xQj
    |x::y::r,hB,h,hb=>
     show qT
     ·have:=yT x;show dC[0<ke+Vx][Nat.add_pos_left this _]
     ·exact ih2 r[by show(xGj,tS [_,_] SB Re hB)][Bm[lS b xWa]] b hb] (hs,qE,λ R U h hle=>?_))
  ·show sJ yax hb hb
   ·show(xNC p hpL hb,hw p hpL)
   ·exact pos_pairs _ B ρ SF b hb
  ·show((RX,RP,UX,UP,h1,h2,h3,h4)=part[h.trans hp],(RL,UL,h5,rfl,rfl)=xn9 h3,Sc mR[∀b,b∈RL.map E6\/b∈RP->b∈R][Bm[h1.symm.subset[Jx.mpr hb]]] mU[∀b,b∈UL.map E6\/b∈UP->b∈U][Bm[h2.symm.subset[Jx.mpr hb]]],(R',U',h6,h7,h8,h9,h10)=xgX _ ρ hsB h4.symm λ r hr u hu=>hle r[mR r[.inr hr]] u[mU u[.inr hu]],(S,T,Ug,h12,h13,W4)=ih R' U' h6 h7,Sc hocc[∀p,WT=RL.count p+yy R'][λ p=>by rw [xmN h1 p,xnx,xqh,h9 p]] hndR RL.Nodup[ygY[h5.nodup_iff.mp hL]],Sc hndS S.Nodup[ygY[Ug.nodup_iff.mp hL]] hsub[gj S[p∈RL]][by
    intro p hpS;show((hpL:p∈RL++UL)=h5.subset[Ug.symm.subset[wz hpS]],sJ hpL hh hh)
    ·exact hh
    ·obtain⟨q,hq,x,hx,e⟩:=h10 _[EU[h12 p hpS]];have:=hle q[mR q[.inr hq]] _[mU _[.inl[Pk hh]]];show υ hx0[SF x hx] e'[DO=xQz+ke] e;have:DO≤xQz:=this;exact yR [_,_,_][xIe[Ρ Fp]] Iy[IP zL[IP this hx0]]],SC hcnt[gj RL[RL.count p=1]][X5[xnY hndR hp]] (RL,UL,h5,λ p hpR=>xJ7 ?_[mR _[.inl[Pk hpR]]],UF p hpR,?_))
   ·show XV hocc[hcnt p hpR][JD 1 _]
   ·rw [hocc,hcnt p hpR];by_cases hpS:p∈S
    ·have:=AV[h12 p hpS];show Ay [_,_] Re SL UI Β this
    ·show LT[h13 p hpS][Y6[Y9 AM]]
   ·rw [hocc,MD hpR,h13 p[SZ[hpR[hsub p z]]]]
   ·
    show(Sc hspl[RL.Perm[S++xUs p[! xVG p S]]][by
     show qm e1[RL.Perm[xUs p[xVG p S]++xUs p[! xVG p S]]] (List.filter_append_perm _ _).symm[e1.trans[List.Perm.append_right _ ?_]][List.perm_ext_iff_of_nodup[hndR.filter _] hndS];intro p;simp only [LZ,decide_eq_true_eq];show AU[jl bw][jl (hsub p h,h)]] hkr[xx1 R[k+1] RL=xx1 R' k S+2^k*(xUs p[! xVG p S]).length][by
     unfold xx1;show(Wv[(RL.map λ p=>2^(k+1-WT)).sum=(RL.map λ p=>2^(k-yy R')).sum][by
      show(xg1 wc,[hocc,hcnt p hp,show k+1-(1+yy R')=k-yy R' by lia])],[e2,xtS[hspl.map _],Ji,Mw]);congr 1;refine xgY wc
     simp only [LZ,PV,decide_eq_false_iff_not] at hp;rw [h13 p hp.2,MM]],Tl hlR h1.length_eq hlS hspl.length_eq);rw [IQ,IS] at hlR;rw [IQ] at hlS;rw [hkr,hlR,KQ 2[k+1],KQ 2 k];rw [h8,KQ 2 k] at W4;show(xEF (xUs p[! xVG p S]).length xl[2^k] q,[hlS],Sc e0[∀z,q*2*z=2*(q*z)][SZ[by rw [KI q 2,KL]]] e00[∀z,q*2*2*z=4*(q*z)][SZ[by show([KL[q*2] 2 z,e0[2*z],PY q 2 z],T5[xRQ Gf][x9 4][Fv[x9 4][xRQ Gf]])]],Sc e3[q*(x3S 2)=2*(x3S q)][by rw [PY]] e4[xBn[q*2]=2*(xBn q)][e0 _],Sc e5[q*2*(Zr xl+RP.length)=2*(xBn q)+2*(q*xl)+2*(x3S q)][by
     show([e0,MR q,MR q],BW[xI [_,_,_][xRQ xF2][.a[A8 m6] kL]][xI [_,_,_][.a[A8 m6] kL][xRQ xF2]])] e6[q*2*2*(Zr xl)=4*(xBn q)+4*(q*xl)][XV e00[MR q][MR 4 _ _]],[e5,e6]);rw [e3,e4] at W4;show BW[jK [_,_,_,_][A8 xHG] kL[uX WF[.a[xQO m6] xHG]][ZY 4[Zv 4]][IR W4]][jK [_,_,_,_] kL[A8 xHG][ZY 4[Zv 4]][uX WF[.a[xQO m6] xHG]][IR W4.symm]]
theorem xfm:∀(n:Nat) {B:Cj},xQ4->BD yQ[B.length/2]
 |0,[],_=>rfl
 |_+1,[],_=>rfl
 |_+1,[_],_=>by simp [pairs]
 |n+1,a::b::r,hB=>by
  show(eK[xZP n r[by show(xGj,tS [_,_] SB Re hB)]],[pairs,Jn,h1,Jn,Jn],BW[Zc 2 [_,_,_][A8[xwB xi]][Aw[Cy m6]] SB SL DB zV][Zc 2 [_,_,_][Fg m6][.a[Cy Gf] xM0] SL SB zV DB])
theorem xn4 {L:LE}:∀(n:Nat) {B:Cj},xQ4->CP[gj tq[p∈L]]->E5 yQ[gj tq[p∈L]]
 |0,[],_,_,_,hb=>by cases hb
 |_+1,[],_,_,_,hb=>by cases hb
 |_+1,[_],_,_,_,hb=>by cases hb
 |n+1,x::y::r,hB,h,b,hb=>by
  show qT
  ·exact X5[wU hp[yT x p][lS y Jl p]]
  ·exact xn4 n[by show(xGj,tS [_,_] SB Re hB)][Bm[lS b xWa]] b hb
def xcl {L:LE}{wt:ET}{k:Nat}{B:Cj}(lv:xNh k B):E5 B[gj tq[p∈L]]:=by
 induction lv with
 |zero=>intro b hb;cases hb
 | @step k B B' _ hp hs ih=>
  intro b hb;show sJ yax hb hb
  ·show(xNC p hpL hb,λ q hq=>LT yel hpL)
  ·exact xn4 _ ρ ih b hb
def xbC {L:LE}{wt:ET}{k:Nat}{B:Cj}(lv:xNh k B):HB*2^k+1≤xMH[2^k]+HB+2^k:=by
 induction lv with
 |zero=>simp
 | @step k B B' _ hp hs ih=>
  show(jz hl hp.length_eq IQ IS[xZP _ B ρ] hl,[hl,KQ],(h2:xSX[2*(B.length/2)+1])=(Dh SB[Cy m6] Re[AS m6] zV),xEF[B.length/2] h B.length b,xEF L.length n[2^k] q,Sc h3[q*b≤q*(2*h+1)][IV _ h2] e1[q*(2*h+1)=2*(q*h)+q][by show([MR,PY],qL[A8[xYX 1]] xG0 xG0[A8[xYX 1]])],Sc e2[2*n*q=2*(q*n)][by rw [KL,KI n]] e3[2*n*(q*2)=4*(q*n)][by show([-KL,e2],T5[.w Gf 2][x9 4][Fv[x9 4][.w Gf 2]])],(e4:q*2*(n+h)=2*(q*n)+2*(q*h))=Iv[KI q 2] KL[MR q][MR 2 _ _],[e3,e4],Ε e2 ih[Bx [_,_,_,_,_,_][.a x5V xMZ][.a[yt[Gh kL]][Vv[xQR Cv]]][AS[x9 4]][.a[.a[A8 m6] kL][.w Cv 2]] ih h3[IR e1]])
def best {L:LE}{wt:ET}(hL:L.Nodup)(hw:gj L[0<xQz]){m:Nat}{B:Cj}(lv:xNh m B)(hn:nJ 2)(hm:lU[2^m]):
  (gj L[AL x8u/\x8u≤m])/\EN p[p∉L->x8u=0]/\
  (L.map λ p=>2^(m-x8u)).sum≤2^m:=by
 show((hs,SF,hpart)=xak hL hw lv,Sc hlen[sC[HB-2]][by
  show(υ h1[xbC lv] h0[0<2^m] Gm,iq B.length[HB-2] h h)
  ·exfalso;show(UN h2[2^m*(dH 3)≤2^m*(HB)][IV _[CM [_,_,_][tG[xCz 2]][Aw m6] IH m6 h[DI DU jr Re jr Gf hn]]] MR h2,Ε[KI HB] h1[mh [_,_,_,_][A8[Fg[BE[xYX 3]]]][xQR[HQ[IM[BE Gf]]]][oM 2 hm[xOT h2]]])
  ·show j8] W0[BD xNt[HB-2]][Gb[J9 hlen]],Sc YH[Xe xNt[B.drop[HB-2]] B][by rw [JJ]] hle[∀r∈xNt,xr[B.drop[HB-2]][r.1≤u.1]][by
  have:Rt[xNt++B.drop[HB-2]]:=LT JJ hs
  exact EU[Jt.mp this]],(S,T,h1,h2,h3,h4)=hpart _ _ YH hle);rw [W0] at h4;generalize xNt=R at*;show(Dd hlL h1.length_eq IQ hlL,(hT:T=[])=by
  show xBu[M3 T.length] h
  ·exact K2.mp h
  ·exfalso;show(Sc h0[0<2^m] Gm h5[xBn[2^(m+1)]≤2^m*(HB-2)][by
    have:xBn 2≤HB-2:=(Bx [_,_,_,_][uX Hk[uX Fp kL]][xQO[xQT xBY]] Gf SL[lV[IR hlL.symm]][lV h] W1);show XV KQ KL[IV _ this]],Sc Uv[xx1 R m S=0][xRp[Dg [_,_,_][HQ xG0] DG Hc[IR h4] h5]] hS0[S=[]][by
    match S,Uv with
    | [],_=>rfl
    |p::S',Uv=>
     exfalso;unfold xx1 at Uv;rw [KH,MZ] at Uv;have:0<2^(m-WT):=Gm;show BM[mh [_,_][xL5 Fp] kM[ym Uv this]]])
   subst hS0;show xU Uv h4 h6[2^m*(HB-2)=0][by simpa using h4]
   rcases Nat.mul_eq_zero.mp h6 with h|h<;>lia)
 subst hT;show xXs JM;rw [Oo,Mv] at hlL;show SC hkL[xx1 R m S=(L.map λ p=>2^(m-WT)).sum] (xtS[h1.map _]).symm[Cm wc[X5[h3 p[SZ[hp[h1.symm.subset z]]]]]]
 ·show((a,b,_)=h2 p[h1.subset hp],AU a b)
 ·rw [<-hkL];rw [<-hlL,KQ] at h4;show(C7[2^m*(HB-2)+2*2^m=2^m*2*L.length][by
   rw [KI 2[2^m],<-MR,KL];congr 1;show BW[Dh gZ m6 gZ m6[DI DU jr Re jr Gf hn]][Dh m6 gZ m6 gZ W1]],BM[zQ 2 [_,_,_,_][yt[A8 Uf]][BE[Aw m6]] SL[IR h4] zL])
def Db {wt:ET}{p:Nat}{k:Nat}{B:Cj}(lv:Lev[[p].map E6] k B):k=0\/B=[E6 p]:=by
 induction lv with
 |zero=>show xYh
 | @step k B B' _ hp hs ih=>
  right
  have:yQ=[]:=by
   show oH ih
   ·rename_i h;show rn h
   ·rfl
  show Ε this hp[List.perm_singleton.mp hp]
def xxE (P:LE)(wt:ET)(m:Nat)(ln:ET):Prop:=
 (gj P[AL xIT/\xIT≤m])/\EN p[p∉P->xIT=0]/\x2i[λ p=>2^(m-xIT)]≤2^m
def xxE.perm {P L:LE}{wt:ET}{m:Nat}{ln:ET}(h:xxE L wt m ln)(hp:L.Perm P):xxE P wt m ln:=ZQ h1 h2 h3 h[λ p hpP=>h1 p[hp.symm.subset hpP]][λ p hpP=>h2 p[SZ[hpP[hp.subset z]]]][Bg[xtS[hp.map _]] h3]
def xia {L:LE}{wt:ET}(hL:L.Nodup)(hw:gj L[0<xQz]){m:Nat}{B:Cj}(lv:xNh m B)(h1:ybL)(hm1:AL m)(hm:lU[2^m]):
  xxE L wt m[occ[xFB 1[HB-2]]]:=by
 by_cases hn:nJ 2
 ·show(C7[xYz[HB-2]=HB-2] Z5,WQ[best hL hw lv hn hm])
 ·match L,h1,hn,hL,hw,lv with
  | [p],_,_,_,hw,lv=>
   show xBu[Db lv] rfl
   ·show rB UI xHE[aM hm1 h]
   ·show A3 e[∀q,xQA[[E6 p].take[xYz[2* [p].length-2]]]=dS [p]][EA[by
     show xQA [E6 p]=_;show EF xxk[dS [p]+xQA []=_];rfl]] ep[EC [p]=1] Z6[Cm[UF q hq][UF q hq]]
    ·show([yel,e,ep],AU ρ hm1)
    ·show WQ[MD hq]
    ·rw [KH,PH,MZ,List.sum_nil,e,ep];have:2^(m-1)≤2^m:=xB3[KU _ 1]
     assumption
  |a::b::r,_,hn,_,_,_=>show E9 Z6 hn
universe PM
namespace SM
theorem xsm {kf:β->κ}(O:x4q)(φ:α->β):∀{mm:yeS} {Z:EW},nr mm[Z.map φ]->∃Z',mm=Z'.map φ/\x0j[SZ[xNF z]] Z' Z
 | [],Z,h=>by
  show(Dd e[x11 O h] IS e,Fl[Z=[]][K2.mp e.symm][Ef [] sA])
 |x::mm,Z,h=>by
  show(hx=xTT h[xPd x mm],(z0,hz0,ez0)=LI.mp hx,xXm l1 y l2 hy h1[xu9 (p:=SZ[x7l[φ z]]) (ys:=Z) (z0,hz0,LT ez0 xQy)],υ e[h qi] n1[(l1.map φ).filter x7l=[]][Lh.mpr λ u hu=>by
   show(xNC z hz hu,h1 z hz)])
  rw [Ji,KH,JL xQy,JN,n1,Kd,JL hy] at e;obtain⟨ex,e2⟩:=Ms e;subst ex;show((ht:nr mm[(l1++l2).map φ])=λ k=>by
   rw [Ji,JN];by_cases hk:xCh k[φ y]
   ·show(YE yei,xQ[xNF y=k][x4s _ u6 VJ],XV n1 Kd e2)
   ·have e3:=lM;rw [Ji,KH,zZ,JN,zZ] at e3;exact e3,Dq Z' rfl hs[xsm O φ ht][Ef[y::Z'][Hy k]],Dd YT[hs k] JN YT,[JN]);by_cases hk:Ty[xv8[SZ[xNF z]] k y]
  ·show υ z yei ek[xNF y=k][x4s _ u6 VJ];subst ek;have n2:l1.filter[xv8[SZ[xNF z]][xNF y]]=[]:=Lh.mpr λ u hu=>h1 u hu
   rw [n2,Kd] at YT ⊢;rw [JL hk,JL hk,YT]
  ·rw [zZ,zZ,YT]
def xmw (ψ:α->γ){kf':cq}(hk:∀z,kf' z=kg[ψ z])(h:x0j kf' Z' Z):x0j kg[Z'.map ψ][Z.map ψ]:=λ k=>by
 show([Ph,Ph],C7[(xv8 kg k∘ψ)=xv8 kf' k][by
  funext z;show xv8 kg k[ψ z]=xv8 kf' k z;show Fq eqv hk],[e,lM])
universe SM
namespace D6
open PM SM
abbrev xwv (b:Bd):Int:=xNr
inductive xxI (sg:Cj):cI Cj
 |zero:xOr 0 []
 |step {k:Nat} {B B':Cj}:xOr k B->QU SG.ltI xwv B'[sg++yQ]->Rt B'->xOr[k+1] B'
def xxI.lev (h:xOr k B):x6L k B:=by
 induction h with
 |zero=>exact .zero
 |step _ hs hso ih=>exact .step ih[xyD SG.xwh hs] hso
def xs1 {B:Cj}(h:Rt B):B.Pairwise[Le SG.ltI xwv]:=h.imp λ {a b} hab=>dC[AG[HY xNr[ST T6]]][Kh Z5]
def xxI.uniq (h:xOr k B)(h':xOr k B'):B=B':=by
 induction h generalizing B' with
 |zero=>show rn h'
 |step _ hs hso ih=>
  cases h' with
  |step h2 TJ hso2=>
   have:=ih h2;show DN this[xsn SG.xwh[xs1 hso][xs1 hso2][hs.trans TJ.symm]]
universe D6
namespace QQ
open PySem PyProof.Rows
def xhd {i:Nat}(hq:xDB)
  (he:IsEnum s.heap e it i old) (hit:x9B l i) (hl:x9T l) (hx:Θ items[i]?)
  (hQ:d8[xZk->x69 Zf]):uc[pyNext yw]:=by
 show((hT:s.TypeIs yw "enumerate")=Xi he,x60[Nu[Lz hT Ps
  (MX Ps hT PySem.F.entry_enumerate_next ?_[PySem.F.args_enumerate_next_1 _])]],V' _[field yw 2>>= _] _,qc[KJ he rfl rfl ?_][xgx hq hit hl hx λ h' x he' hx'=>?_],Dq o ho hc hx'[IX[x0Y[kc ho hc] ?_]],Bw[hQ _ he'])
universe QQ
namespace L2
open PySem PySem.Spec PyProof.Rows QQ
def Ite (K:Frag)(a:Qq):It:=
 (λ i H=>∃xs x,VH/\ue,λ i H v H'=>∃p x,Vu/\v=FR/\H'=Hf H p [x4N,x]/\∀xs,VH->ue,λ i H=>cg[VH/\x2B i])
def xh0 {K:Frag}(a e it)(RI:e≠it):
  xWD w K[x2K k pos] xHM [e,it] e[λ i h=>CU old[IsEnum h e it xJ old]/\yhZ a i] where
 mem:=Z6
 obj:=λ i h st b hb=>by
  show(xTd he hit st,XJ hb hb hb)
  ·show DN hb[CS he[λ v z=>by
    show((z':xU3 _ ybx)=z,xBJ)]]
  ·show(xw9 xE3,C5 o e' c d hit[kc e'[λ v z=>qX d]])
 keep:=λ i h h' st k=>by
  show(xTd he hit st,AU (old,k e Z6 _ he)[hit.at λ o x=>k it Z6 o x])
 item:=by
  intro X hP hw hK hc i QD s σ H E I hf st hg;subst hP hw hK;show(xTd he hit st,x7x x hq hx hg,kW rv p hq,xFT hu ru yc9,o1 e0 e1 e2 e3 e4 e5 e Z6,o1 f0 f1 f2 f3 f4 f5 it Z6,Sc elt[xv4 e][JE he] ilt[xv4 it][xK2 o e' x6A[JE e']],(hT:ygV)=Am,ω[wpAny_pyNext_enum_item he hit p.isList xFk RI λ h1 ho hit1 ht hsz kk=>?_][BV[wpAny_letOwnedTupleGo_enum ho[Μ h2 YX TJ]]],Sc kept[∀b o,Vy->b≠it->Uz DA[h2.get? b]][λ b o n1 n2 x=>x6 TJ b n1[kk b o n1 n2 x]] Ys[TD[h2.get? s.heap.objs.size][xEx "tuple"[.seq #[Dz s.toks,u]]]][x6 TJ _[K4 elt] ht],Sc hT2[∀b o,DA->xEV b][λ b o x=>Kf[JE x]] nT[∀b o,zc->xEV b][λ b o x z=>FZ hT x x],Sc nE[∀b o,zc->Vy/\b≠it][λ b o x=>xQq[FZ e0 x x][FZ f0 x x]] he3[IsEnum h2 e it[VF] u][by
   have:(VF)=xJ+1:=Nat.ToInt.add_congr rfl rfl;show xZv YX],A3 hit2[h2.IsListIter it a[i+1]][hit1.at λ o x=>x6 TJ it RI.symm x] I2[oa[Hf H s.heap.objs.size [x4N,x]][mI h2 xMw]][by
   refine ycP [e,it] qE[λ b o _ _ hb x _=>kept b o[Yz EV][Yz EV] x][λ b o _ _ hb x _=>xFm[kept b o[Yz EV][Yz EV] x]][λ b o _ x n=>Δ[hT2 b o x] n][λ b o hb x=>xZA[kept b o[Yz EV][Yz EV] x]][λ b xs x=>Δ[nT b _ x] x][λ b o u x=>Δ[nT b _ x] x][λ b ps x=>xMI[nQ[aj[nT b _ x]] x]][UF m hm][Μ b o x] I.bare
   ·show XJ hb hb hb
    ·show DN hb (e3,e1,e4,e5)
    ·show(xw9 xE3,E3 f3 f1 f4 f5)
   ·show DR o es' ep ho' r hm (o,es',ep,kept _ o[MJ e1][MJ f1] ho',r)
   ·by_cases hb:xTl b
    ·show(FD hb ad x x,E3 ye [Dz s.toks,u][pM CQ ru][jE _ Ys _ rfl])
    ·rw [UG] at x;show(xFu b o x[λ c v hc' q=>?_][λ c q=>Δ[nT c _ q] q][λ c xs q=>Δ[nT c _ q] q],II hc')
     ·show DN z[kept c v (nE c _ x).1 (nE c _ x).2 q]
     ·exact kept c v (nE c _ z).1 (nE c _ z).2 q][Aa qx _ I2[yo _ x hT rfl[λ ys hy=>(LT[yi2 hq] hx)]] ((u,he3),hit2) qE],XJ hb hb hb)
  ·subst hb;show Δ[Kf elt] e0
  ·show(xw9 xE3,Δ[Kf ilt] f0)
 done:=by
  intro X hP hw hK hc i QD s σ H E I hf st hg;subst hP hw hK;show(xTd he hit st,(xs,hq,hx)=hg,kW rv p hq,o1 f0 f1 f2 f3 f4 f5 it Z6,aH hl rv.length[xhd I.hq he hit p.isList[yu[xUh hx]] λ h' eb=>ZV[eO[λ b o hb e=>eb b o hb e]]])
 self:=xT5 h[by
  show(xTd he hit st,ygG h)]
inductive iEnum_p (K:Frag) (R:jG) (vs:Sy) (H1:Hp):Prop
 |mk (l:_) (xs:_) (h0:vs=[Ct]) (h1:xY1 l xs) (h2:R[Ite K l] H1):iEnum_p K R vs H1
def xdx (K:Frag)(ta:TA):TI:=λ σ H R=>xVR vs[iEnum_p K R vs H1]
def xq8 {X:Cx}(hg:xFp "enumerate")(hm:xLz "enumerate")(ha:Gu uP ta)(hs:AJ[xG uP=[sH a]]):
  PI X[x2K k q][xVl "enumerate" p uP][xdx X.K ta]:=by
 intro QD s σ H R I h;show(kA[Call_[xRO boot_enumerate[L9 xQZ hs rfl]]] vs H1 I1 r1 q1,(l,xs,e,hq,q)=q1,DD);cases r1 with
 |cons r rr=>
  cases rr;show(iY,xzN rv p hz[I1.list hq],call_enumerate_list p.isList λ h' he hit hsz hk=>?_,SC I2[oa H1 {s1 with heap:=h'}][ycB hk][ygG (yj3 1,[yj3 1,s1.heap.objs.size],_,_,H1,rfl,I2,xh0 l _ _[Nat.succ_ne_self _],(EX he,hit),qE,q)],DC RJ[s1.heap.objs.size≤b][by
   show XJ hb hb hb
   ·show LT hb bG
   ·show xEg ρ][I1.fpOk RJ[I1.hok.fresh RJ]])
def xaa {K:Frag}{g:TG}{tt:TT}{te:TE}{R:xvW}(Pv:DQ xHo)(h0:Pv 0 [] kB)(hl:∀i ys H,WH->U8->VH)
  (hs:∀i x ys σ H p,ue->U8->xRl->Vu->g FR σ[Hf H p [x4N,x]][xIm[λ c H5=>xJ4 c[λ y H4=>zh=de/\XU/\xUI n/\Pv[i+1] xBG xUH][xUI n/\Pv[i+1] ys H5]]])
  (hd:∀ys H,ybh H->R H) (mg:∀x σ H (A B:EE),uN[x7s->x7t]->Vo A->Vo B) (mtt:∀σ H (A B:xw5),(uq v[xR4->xR5])->xXP H A->xXP H B) (mt:∀σ H (A B:VK),(uq v[xR4->xR5])->ZJ A->ZJ B):
  Ek[Sy->EE][xY9/\∀i m ys σ' H',jD->
   (ik xHM H'/\R H')\/(gX xHM H'/\∀x H2,YA xHM H' x H2->xDU[xIm[λ c H5=>xJ4 c[λ y H4=>
    zh=de/\XU/\bY[m'<m/\lK[i+1]]][bY[m'<m/\xLM[i+1] ys H5]]]])]:=by
 show yI[λ i m ys σ H=>m=xQV/\WH/\xRl/\U8] (xs.length,Z6,B1,JQ,h0);rintro i m ys σ H ⟨rfl,hi,hn,p⟩;show YC[xDh ys H hi p];by_cases QF:rQ
 ·show(xR7 (xs,xs[(i)],q,xVn),(p1,x1,RD,e1,e2,y)=y);subst e1 e2;refine mg _ _ _ _ _[λ σ3 H3 z=>mtt _ _ _ _[Μ c H5 z] z][xDi x1 ys σ _ p1 xXK p hn RD];cases c with
  |true=>
   show xwA CD z[mt _ _ _ _[λ y H4 z9=>C5 z1 z2 z3 z4 z9[Hx z1 z2[p9[i+1]] we QF z3 z4]] z]
  |false=>
   rw [Jk JF] at z ⊢;show Z0[p9[i+1]] we rfl QF u6 VJ
 ·show HP xN8 xBA[Zp[xHv q ρ][hd ys H p]]
universe L2
namespace K27.S
open PySem L2 QQ PM D6
seal PE PA PS PSs PT PW PG PI
inductive xmv (vs:Sy) (H:Hp) (Q:VK) (QL:XK):Prop
 |mk (a:Qq) (B:LE) (hi:Nat) (h0:vs=zR[vN hi]) (h1:Υ=uK) (h2:CP[b≤hi]) (h3:sC 1) (h4:xSX 300) (h5:(∃b∈B,0<b)) (h6:xCk):xmv vs H Q QL
def xij:XL xAr xAr xxd:=Tm
def iA (R:LE):sR=yeE x2H:=Ar K1
def xk8 {f fA fW:Qq}(F:Ο "are_of_things" xxd xAr)(AW:yar cY Jaa fA fdA)(W:jm)(T:Df):vn xAr xmv:=by
 show(Zq tt ht T.things xij[λ QE A outer s H vs Q E hr h=>?_] _,(a,B,hi,rfl,hB,hb,h1,h3,(b0,hb0,hp0),k)=h,eN Uj[Dk 2] CJ hn xzY,Fx[yj[rh[xW[aE[xzD AW W T] Uj AW[mJ[zO oF]]]] cu][kP[xqW iP iP ag iJ[FK 300 ht tt]][oS xwV[yiN[xik hn] T.max gP] ag]]] (_,rfl,_,rfl,a,B,0,_,rfl,hB,λ b z=>xCM[qN z] xNy[Bf[xRN this]],_,rfl,AI),Ec (_,rfl,a,_,rfl,BN hB,_,_,rfl,rfl,_,rfl,xIF[IZ[Gk[Int.toNat_le.mp h1]]] h)[Aa _ _ rfl _ rfl[xIF[IZ[Gk[ygN rfl h3]]] h]][VM a[B.map xGu][Bg iA xFU][ybX IS][Μ n hn hmax]]);have:YJ[ST b0]:=hmax _[Pk hb0];refine ya _ rfl ?_
 try dsimp only
 show LT[qh[HY 0 n] xBW] k
inductive spNeed (vs:Sy) (H:Hp) (Q:VK) (QL:XK):Prop
 |mk (a:Qq) (B:LE) (m:Nat) (h0:vs=zR qS) (h1:Υ=uK) (h2:CP[x3N b]) (h3:sC 1) (h4:xSX 300) (h5:(∃b∈B,0<b)) (h6:AL m) (h7:ua m) (h8:EI[B.filter[xBl b b]][2^m]) (h9:vi):spNeed vs H Q QL
def xcE:XL Jan Jan xs3:=Tm
def ndC:HJ ["count"]:=Z8
def xa6 {f fT fA fW:Qq}(F:Ο "need_shares" xs3 Jan)(Th:yg9 xxd xAr fT fdT)(AW:yar cY Jaa fA fdA)(W:jm)(T:Df):xB7 Jan spNeed:=by
 show(DW tc hc T.count tm hm T.mlen,D1 xcE[λ QE A outer s H vs Q E hr h=>?_],(a,B,m,rfl,hB,hb,h1,h3,SF,m1,m2,WL,k)=h,xEi,gp[ac[xHs[Iw[xk8 Th AW W T] Th[nj 0[FK 1000000 hc tc]]]]
  (ac[xHs[Br[xQx T] W[XM 1[Mk xWx]]]]
  (ae[yn[qO[Ez xzA T.len OM[BO[xtT (N:=["count"]) (g:=IF) (tt:=jd[Mh[λ i j=>Rh j i] gF xV3]) (te:=gF) rfl rfl Z8 Z8 Z8 x6g
   (λ fp s H=>VG ndC)[λ fp s H=>FW xwV Η][λ fp s H=>Η]]]][xYN τ]]]))] (_,rfl,a,B,1000000,rfl,hB,hb,h1,h3,SF,_,rfl,x7G),xGM,SC e1[IC[FO Il m7&&FO m7 12]][Ai[IZ[um Il m7[Int.toNat_le.mp m1]]][IZ[show ua m7 by show kX[qG hJ hJ m2]]]] (_,rfl,m7,1,12,rfl,?_),xEe[BV x7G],Aj,ω[m9 a hB Ex][xn0 (K:=K) (a:=a) (l:=l) (xs:=sO) (n:=1) (g:=IF) (tt:=jd[Mh[λ i j=>Rh j i] gF xV3]) (te:=gF)
  (λ i ys H'=>ys=A5[xGh xLX b b]/\B0=de/\Χ)[xBq ad xwI][λ i ys H' _ z9=>by show(xKw sm,rW[y9 hB])] ?_ ?_ ?_ ?_ ?_])
 ·rintro i x ys σ H' hx ⟨rfl,hl,sm⟩ hσ;show(Dr b Rl[dZ hx],(Su:xWF i)=x7F,vk u0 u0[σ=[u0]][match σ,hσ with| [u0],_=>Gs u0],SC hlen[xOD[xGh xLX b b]][IY[NO _ _][Gb[xMJ h3]]][u7 _ rfl _ _ _ rfl ?_],[xwW Rl,JN])
  try dsimp only
  by_cases h0:0<b
  ·show Γ[Ju[IZ[Eo FX iw yde]]][VM hl[bW[Gk[uJ hlen]]] ?_ ad[fK c o]]
   ·show Ai[JL xTV] Ji
   ·show Ye xHI
  ·show iR[Wg[Jd z] Z5][xPS ?_ ?_ sm]
   ·show Di[JU xTV]
   ·exact hl
 ·rintro ys H' ⟨rfl,hl,sm⟩;show(Ua Ki hl,(l,_,rfl,BN hl,_,rfl,_,_,rfl,rfl,xP9 xNy[qG hJ SW m2] Z9,_,_,rfl,rfl,_,rfl,xMP h[Ey sm]));exfalso;show(xGL,Ua JH this,Wv[Il*2^m=ST[2^m]][Di Qo],xKe e2[mh [_,_] Dw Ω[IP WL xwJ]])
 ·exact λ x σ H A B h z=>tM
 ·exact λ σ H A B h z9=>by show((v,e1,i,j,e2,e3,c,e4,z)=z9,(v,e1,i,j,e2,e3,c,e4,tM))
 ·exact λ σ H A B h z9=>ZQ v e1 z z9 v e1 tM
def Bun (H:Hp)(A:AH)(t:Qq)(b:Bd):Prop:=∃l,t∉A/\l∉A/\Y8 [vN HK,Ct]/\pV=BA tq
inductive xu6 (vs:Sy) (H:Hp) (Q:VK) (QL:XK):Prop
 |mk (t l:Qq) (n:Nat) (h0:vs=[Z1]) (h1:Y8 [F6,Ct]) (h2:Fc F6):xu6 vs H Q QL
def xiT:XL xFx xFx xye:=Tm
def xnR (F:Ο "weight_of" xye xFx):eg xFx xu6:=by
 show(D1 xiT[λ QE A outer s H vs Q E hr h=>?_],xv0 t l n rfl ht k,xJ2 x5B (_,rfl,t,_,_,_,rfl,rfl,rR,tZ,k))
inductive Q2 (H:Hp) (A:AH):AH->BY Cj
 |nil:xSg [] []
 |cons {t:Qq} {b:Bd} {ts:AH} {bs:Cj}:Bun H A t b->qe->xSg[t::ts][b::bs]
def Q2.keepA {H H':Hp}{A:AH}{bs:Cj}(h:qe)(s:∀c o,c∉A->Ψ->Cf):Q2 H' A ts bs:=by
 induction h with
 |nil=>show yx
 |cons a _ ih=>
  show DR l n1 n2 h1 h2 a[xS1 (l,n1,n2,FV n1 h1,FV n2 h2)]
def Q2.keep {H H':Hp}{A:AH}{bs:Cj}(h:qe)(s:Χ):Q2 H' A ts bs:=h.keepA λ c o _ e=>s c o e
def Q2.sub {H:Hp}{A A':AH}{bs:Cj}(h:qe)(s:∀a∈A',a∈A):yb7 A':=by
 induction h with
 |nil=>show yx
 |cons a _ ih=>
  show DR l n1 n2 h1 h2 a[xS1 (l,SZ[n1[s _ z]],SZ[n2[s _ z]],h1,h2)]
def Q2.app {H:Hp}{A:AH}{bs cs:Cj}(h:qe)(g:xSg us cs):xSg[ts++us][bs++cs]:=by
 induction h with
 |nil=>exact g
 |cons a _ ih=>show xCB a
def Q2.len {H:Hp}{A:AH}{bs:Cj}(h:qe):xU7 bs.length:=by
 induction h with
 |nil=>rfl
 |cons a _ ih=>rw [Jn,Jn,ih]
theorem Q2.at {H:Hp}{A:AH}(h:qe):∀{i:Nat} {b},AD bs b->X6[xQb/\Bun H A t b]:=by
 induction h with
 |nil=>intro i b h;show E2
 |cons a _ ih=>
  intro i b h;cases i with
  |zero=>show(E2,DN h[BV a])
  |succ i=>show E2;simpa using ih h
def xat:∀n {B} {i} {a b},xQ4->Cs B[2*i] a->Cs B[2*i+1] b->AD[yQ] ((T6+HK,xQI++tq)):=by
 show xCL
 induction n with
 |zero=>intro B i a b hB h1 _;show(xQ[B=[]][K2.mp[IT[qG Hc Hc hB] zW]],x4R)
 |succ n ih=>
  intro B i a b hB h1 h2
  match B,hB,h1,h2 with
  | [],_,h1,_=>show x4R
  | [x],_,h1,h2=>simp at h2
  |x::y::r,hB,h1,h2=>
   cases i with
   |zero=>simp at h1 h2;subst h1 h2;rfl
   |succ i=>
    show tB[BJ[2*(i+1)][2*i+1+1][MQ[Nat.succ_add _ 1]]];simp at h1 h2;show dC[(x3H)[i]?=_][ih[by show(xGj,Ly hB)] h1 h2]
def xyf {ts:AH}{i:Nat}(h:xQb):(E8)[i]?=xQE:=Ai Jw h
def xdp (m)(h:Zg m):Ty[Builtin.Range.small 1 m7 2]/\ygm m7 2=ST[m/2]:=by
 show(SC e[ygm m7 2=ST[m/2]][by
  show Fq Builtin.Range.rangeSize[Ju Z9]
  split<;>lia] (?_,e),(f:∀i,IA 0->i<100000->Ty[Builtin.Range.rangeFitsLong i])=λ i h0 h1=>by
  unfold Builtin.Range.rangeFitsLong;show Ai xBW xBW,Fq Builtin.Range.small e)
 try dsimp only
 rw [f 1 Z9 Z9,f m7 Z5[xn[sk h]],f 2 Z9 Z9,f[ST[m/2]] Wk[xn[CM [_,_][Ξ Gf][EL 2000] SB[.n 100000] h DB]],Ju Z9,f[m7+(2-1)] Z5 Z5];simp
inductive xlk (vs:Sy) (H:Hp) (Q:VK) (QL:XK):Prop
 |mk (p av:Qq) (ts:AH) (B:Cj) (h0:vs=Cg) (h1:H p=jX) (h2:CU o[lj av]) (h3:Q2 H xJd ts B) (h4:x1O) (h5:CP[EI tq 8000000]) (h6:Xx l Qq us AH[Χ->Bv->B0=xYq->Q2 H' xJd us yQ->B8]):xlk vs H Q QL
def xzp:XL ["bundles","pairs","place","first","second"] xLj xyV:=Tm
def xiK {P:Qv}{K:Frag}(F:Ο "in_pairs" xyV xLj)(T:Df):eg xLj xlk:=by
 show(D1 xzp[λ QE A outer s H vs Q E hr h=>?_],(p,av,ts,B,rfl,hp,(oav,hav),hB,VO,hsm,k)=h,D9[DP 1 xzp.nd rE[nK[xix Z7 T.range[zO[W5 iJ]]] 2 xzp.nd[ID 3 xzp.nd[oR[bj Ζ]] 4 xzp.nd xM2[rD[fP τ[cx[zM[Gi xGV tD][rY xGV tD]]]]]]] τ],Ss=hB.len,xJp[ka Z9 l nl A1],Tl s0 xWT TJ[xdp ts.length[Dg [_,_] Ω xAS Bc VO xG1]],Bu (_,rfl,p,_,rfl,BN[pH hp],1,_,2,ts.length/2,rfl,Z9,Gk TJ.1,Gk TJ.2,PyProof.noPylong_small Z9,xgE (D:=Ws) (lo:=1) (c:=2) (n:=ts.length/2)
  (λ i σ H2=>∃(v2 v3 v4:EY) (us:AH),σ=[u5,qB,v2,v3,v4]/\Vw=xYq/\Q2 H2 [l,av] us[(yQ).take i]/\yi)[Hx none none none [] ad .nil s0] ?_ ?_))
 ·show Aj;rintro i σ H2 hi ⟨v2,v3,v4,us,rfl,TC,W7,sm⟩;show(Sc l0[xWF[2*i]][Bx [_,_,_,_][Aw[uX SB xHG]][Ξ[xQT Uf]] x5V SL xG1[lV hi] DB] l1[xWF[2*i+1]][Bx [_,_,_,_][Aw[uX SB xHG]][Ξ[xQT Uf]][xwB Gf] SL xG1[lV hi] DB],Sc g0[Cs B[2*i] B[(2*i)]][IW l0] g1[Cs B[2*i+1] B[(2*i+1)]] xXS,XF z0[hsm _[KZ l0]] z1[hsm _[KZ l1]] hpa[xat _ ρ g0 g1],(t0,ht0,la,_,_,WZ,WY)=(hB.keep sm).at g0,(t1,ht1,lb,_,_,Rl,Tf)=(hB.keep sm).at g1,xEF B[(2*i)] ba B[(2*i+1)] bb,G9[Il+wy*2=qU[2*i]][xJ9[Fv[xQK[xBb 2]] x5V] x5V[xQK[xBb 2]]][qU[2*i]-1=ST[2*i]] Z5,Q1=x64,dG,ZT g2[F1 _ rfl _ _ _ rfl rfl ?_])
  try dsimp only
  show(Γ e2[u7 p _ _ _[QK.of Q1][aA[xyf ht0]] bf],YK,HV g2 (_,rfl,_,rfl,p,_,_,_,rfl,rfl,QK.of Q1,aA[xyf ht1],bf),YK,Dd YS W7.len Jc YS,DK (_,rfl,xq TC,_,rfl,t0,_,_,_,rfl,rfl,QV.of WZ,tZ,_,rfl,t1,_,_,_,rfl,rfl,QV.of Rl,tZ,_,_,rfl,rfl,
   _,rfl,t0,_,_,_,rfl,rfl,QV.of WZ,xp,_,rfl,t1,_,_,_,rfl,rfl,QV.of Rl,xp,la,lb,_,_,rfl,rfl,WY,Tf,(by show(EP IS M8,Bj [_,_] WF[CN[.n 8000000] 8000000] WF xFa z0 z1)),UF q nq) e3[V.int[ST xOs+ST xOt]=vN[xOs+xOt]][x1f xIX],υ s3[Dn[A5 ba.2++A5 xGi] nq] h3q[kS H2 q[A5 ba.2++A5 xGi] q=BA[ba.2++xGi]] xIO,Yd=Ge TC,Cz[Fj H2 q[A5 ba.2++A5 xGi]] H3[nU ye t nt])
  try dsimp only
  show([e3],υ s4[xQS [vN[xOs+xOt],xw0]] h4t[jB[(Hf H3 t [vN[xOs+xOt],xw0]) t] [vN[xOs+xOt],xw0]] ad,Tl h4l[X4 Yd] h4q[X4 h3q],xAI nql[q≠l][SZ[FZ TC nq nq]][Hf H3 t [vN[xOs+xOt],xw0]] H4,SC sm4[xYe H4] xFi (l,_,_,rfl,rfl,h4l,bW[uO[G6 [_,_,_,_][Ξ[.a[AS kL] Hk]][iK xV5] Bc VO l0[ym YS G8]]],Α[2*i+1],π t0,π t1,us++[t],rfl,?_,?_,fK c o))
  ·show xCS
  ·show([Kj,hpa],(kk:∀c o,c∉ [l,av]->Uz[Gr[H4 c]][(IJ H4[xSP++[V.ref t]]) c])=λ c o n e=>Δ[SZ[n EV]] e,DF h2av[y9 hav] ntl[t∉ [l,av]][SZ[by
    show(x1b Jv NA z,oH z)
    ·show AQ Yd nt nt
    ·show AQ[Ge h2av] nt nt]] nqa[q∉ [l,av]][SZ[by
    show(x1b Jv NA z,oH z)
    ·exact nql rfl
    ·show AQ h2av nq nq]],(W7.keepA λ c o n e=>xSc n[sm4 _ _ e]).app[lp (q,ntl,nqa,xSc ntl h4t,xSc nqa h4q)])
  ·show Ye[sm4 _ _ xHI]
 ·rintro σ H2 ⟨v2,v3,v4,us,rfl,TC,W7,sm⟩;show Ε[Jo[LT[xZP _ B ρ][IR[congrFun[congrArg HDiv.hDiv Ss.symm] 2]]]] W7[xOh[Wb us H2 sm nl TC[W7.sub λ a h=>by show E2;simp [h]]]]
theorem Q2.zip {H:Hp}{A:AH}{bs:Cj}(h:qe):∀z∈ts.zip bs,Bun H A u6 VJ:=by
 induction h with
 |nil=>intro z hz;show x4T
 |cons a _ ih=>
  intro z hz;rw [List.zip_cons_cons] at hz;show rg hz hz
  ·exact a
  ·exact ih z hz
theorem xvp:∀(as:AH) bs,(bs.map[λ b=>xNr]).zip[as.map V.ref]=(as.zip bs).map[λ z:Qq×Bd=>Hm[xNY z] u6]
 | [],bs=>by simp
 |a::as,[]=>by simp
 |a::as,b::bs=>by
  have:=xvp as bs;simp only [KH,List.zip_cons_cons,this]
theorem Q2.take {H:Hp}{A:AH}{bs:Cj}(h:qe):∀n,xSg[ts.take n][bs.take n]:=by
 induction h with
 |nil=>show(xCL,XV List.take_nil List.take_nil .nil)
 |cons a _ ih=>
  show xCL;cases n with
  |zero=>show yx
  |succ n=>exact yfa[ih n]
theorem xqB {H:Hp}{A:AH}:∀{Z:HZ Qq Bd},uB z Z[Bun H A u6 VJ]->xSg (Z.map (·.1)) (Z.map (·.2))
 | [],_=>.nil
 |z::Z,h=>.cons[yT z][xqB[IB[h y Qt]]]
def xjp {L:LE}(lv:xNh k B):CP[EI tq[2^k]]/\xSX HB:=by
 have ps:∀n q B,xQ4->CP[EI tq q]->E5 yQ[EI tq[2*q]]:=by
  show xCL
  induction n with
  |zero=>intro q B hB _ b hb;show(xQ[B=[]][K2.mp yf7],xQj)
  |succ n ih=>
   intro q B hB h b hb
   match B,hB,h,hb with
   | [],_,_,hb=>show xQj
   | [x],_,_,hb=>show xQj
   |x::y::r,hB,h,hb=>
    show qT
    ·show yY[yT x][lS y Jl];show DV xGa y.2≤_;show GV[CM [_,_,_] WF[Aw Uf] WF kL h1 h2]
    ·exact ih q r[by show(xGj,Ly hB)][Bm[lS b xWa]] b hb
 induction lv with
 |zero=>show AU[Bm[by simp at hb]] B1
 | @step k B B' _ hp hs ih=>
  show Tl Rv[xZP _ B ρ] hl hp.length_eq;rw [IQ,IS,Rv] at hl;show(DK (qE,by have:=ih.2;show BM[zQ 2 [_,_,_,_][A8[BE kL]][uX Φ[xQR Cv]] m6[lV yq][IP this DB]]) h1[AL[2^(k+1)]] Nat.one_le_two_pow,sJ yax hb hb)
  ·show(x1n p rfl hb,h1)
  ·have:=ps _ _ B ρ ih.1 b hb;show LT KQ[Dh Re m6 Re[xYX 2] this]
inductive xld (vs:Sy) (H:Hp) (Q:VK) (QL:XK):Prop
 |mk (p av:Qq) (ts:AH) (L:LE) (wt:ET) (m:Nat) (h0:vs=[FR,qS]) (h1:H p=jX) (h2:CU o[lj av]) (h3:Q2 H xJd ts UU) (h4:Rt UU) (h5:ybL) (h6:x6X) (h7:AL m) (h8:ua m) (h9:∀(l:Qq) (us:AH) (B:Cj) (H':Hp),Χ->Bv->B0=xYq->Q2 H' xJd us[xFB 1[HB-2]]->xxI UU m B->B8):xld vs H Q QL
def xtx:XL ["singles","most","bundles","step"] xTs xsU:=Tm
def xiQ {P:Qv}{K:Frag}{f xx6 fW:Qq}{fd fdP U2:Qx}(F:Ο "lightest_bundles" xsU xTs)(Pa:yjF xyV xLj xx6 fdP)(We:yiJ xye xFx fW U2)(T:Df):vn xTs xld:=by
 show(D1 xtx[λ QE A outer s H vs Q E hr h=>?_],(p,av,ts,L,wt,m,rfl,hp,(oav,hav),hB,hso,n1,n2,m1,m2,k)=h,tP QW F9 S4 3,χ hn xzY[Gy[DP 2 xtx.nd x7v[nK[xti Z7 T.range[BO[bj τ]]] 3 xtx.nd[eI 2 xtx.nd[xnM (sp:=xu6) (xnR We) S4 We.b Z7 T.sort[xHd fW We.m][BO[rY Η[yU[xiK Pa T] Pa 2]]]]]][kU Ζ[yiN[xh7 hn] T.max[Mk[bj[xIg iJ]]]]]]],Dd Ss hB.len IS Ss,xJp[ZC p[BN hp][λ l0 YQ=>A1]],υ s0[Dn E8 YQ] lv1[xxI UU 1 UU][.step .zero[XV[CA[pairs ([]:Cj)] []] JM ya2] hso],SC e1[m7-1=ST[m-1]][WM m1][yD xC8])
 try dsimp only
 show(xEe[TX[ST[m-1]] rfl[Oe[2^62] _] Z5],Γ JH[xPI 0[m-1][λ i σ H2=>∃(lb:Qq) (us:AH) (B:Cj) (v3:EY),σ=[u5,CB,π lb,v3]/\H2 lb=xYq/\Q2 H2 xJd us B/\xxI UU[i+1] B/\yi][Q6 l0 ts _ none ad[hB.keep s0] lv1 s0] ?_ ?_])
 ·show Aj;rintro i σ H2 hi ⟨lb,us,B,v3,rfl,hlb,W7,lv,sm⟩;show(mj hsz VO[xjp lv.lev] hsz2[E5 B[EI tq 8000000]][Bm[by
   show(DF h1[hsz b hb] h2[2^(i+1)≤2^12][xB3[Bx [_,_,_][Ξ xV4][xYa DG] SB hJ m2 hi fj]] h3[Zx 2^12=4096] Z9,IY h1[uJ h2])]],χ Rv[xZP _ B ρ] (_,rfl,_,rfl,lb,av,us,B,rfl,hlb,EX[y9 hav],W7,(Dg [_,_][xQR Re][uX xGt m6] Dm[lV n2] VO),hsz2,λ l ps H3 s3 nl hl hps=>?_),χ hpsl hps.len (p,l,_,_,rfl,rfl,Ge x64,hl,(by show(EP IS M8,DE [_,_,_,_,_,_][ZY 3[Ρ[BE[Gh[Ξ[xRQ nV]]]]]][DT 3 xGt[Aw[xQO[Vv xV8]]]] WF xFa[IV 3 n2] xG1[IP VO[ym Rv[ym hpsl DB]]])),UF q nq),DF s4[Dn[E8++xTz] nq] QZ[Q2[Fj H3 q[E8++xTz]] xJd[ts++ps][UU++yQ]][((hB.keep yji).app hps).keep s4] h4q[kS H3 q[E8++xTz] q=Az[xEl ps]] xIO,sm4=(yji).trans s4,az H3 q[E8++xTz] H4,χ WX QZ.len[F1 q[xEl ps][XW[UU++yQ] b xNr][QK.of h4q][zD IS WX][by show(mY IQ,DE [_,_,_,_,_,_][ZY 3[Ρ[BE[Gh[Ξ[xRQ nV]]]]]][DT 3 xGt[Aw[xQO[Vv xV8]]]] WF Dm[IV 3 n2] xG1[IP VO[ym Rv[ym hpsl DB]]])][λ j v kk hv hk=>?_][λ lo mm nlo hpw hstb=>?_]])
  ·show kH hk;cases e:(UU++yQ)[j]? with
   |none=>show tO hk hk
   |some b=>
    rw [e] at hk;show((t,ht,lt,_,_,h1,h2)=QZ.at e,AQ[xyf ht] hv hv,CR hk[Aa t lt HK h1 rfl rfl])
  ·show(UN hz[(XW[UU++yQ] b xNr).zip[xEl ps]=((ts++ps).zip[UU++yQ]).map[λ z:Qq×Bd=>Hm[xNY z] u6]][xvp _ _] hz hstb,XG Z' VV[SM.xsm SG.xwh _ hstb],DF hZ (SM.xyD SG.xwh VV).symm hSB[yjN xwv[UU++yQ]][gN[SM.xmw (kg:=xwv) (λ z:Qq×Bd=>VJ) QO VV][O1 x13]] hZB[ygC[UU++yQ]][yiP[O1 x13]],(hso':yg5)=by
    rw [K1,OI] at hpw;show Bz Rt OI[hpw.imp[λ {a b} h=>DC h'[xNY a≤xNY b] h[OQ.mp h']]],χ s5[yfz nlo][Q6 lo yjj yjk[xAB[0+wy]] ?_ ?_[.step lv hSB hso'][sm4.trans s5]])
   ·show gA ad K1 K1
   ·exact x5e[xqB λ z hz=>QZ.zip z ygQ]
 ·rintro σ H2 ⟨lb,us,B,v3,rfl,hlb,W7,lv,sm⟩;rw [show m-1+1=m by show BW[Dp[UO AM AM m1]][d6 SB SB W1]] at lv;show(VB A1,(_,VO)=xjp lv.lev,χ YS W7.len (_,rfl,_,rfl,p,_,rfl,BN x64,_,_,rfl,rfl,xQP,_,_,rfl,rfl,_,_,rfl,?_),Wv[EM[A6 2*pf E8-2>1][A6 2*pf E8-2] 1=ST[xYz[HB-2]]][by
   show mY Ss;split<;>lia])
  try dsimp only
  show Γ e2[ZC lb[QK.of hlb] x8M]
  try dsimp only
  show([xxj,-LO],aH s5[Dn[(us.take[xYz[HB-2]]).map V.ref] n5][k l5 _ B _ yj4[x29 sm] ad[x5e[W7.take _]] lv])
structure FnL (K:Frag)(mg:Ι)(x:Str)(st:QC)(ps:CI)(f:Qq)(fd:Qx):Prop where
 F:∃dV,xEs x x f fd
 m:nO=kZ
 b:vc
 d:X6[xMl [Ud 6]]
theorem FnL.kp (F:FnL K mg x st ps f fd):ZI:=F.F.elim λ _ z=>z.kp
def xx9 (C:LE)(p:Nat):Nat:=C.getD p 0
def pos (C:LE):LE:=xv5 C.length[xBl p[sj p]]
def LnOf (C:LE)(m:Nat)(ln:ET):Prop:=∃(L:LE) (B:Cj),Rt[x0b sj]/\x02 xwv[x0b sj] xPT/\xxI[x0b sj] m B/\ln=occ[xFB 1[HB-2]]
theorem LnOf.uniq (h:x6M m ln)(h':x6M m ln'):ln=ln':=by
 show(xv0 L B a1 a2 a3 a4,(L',B',b1,b2,b3,b4)=h',Tl e[SM.xsn SG.xwh[xs1 a1][xs1 b1][a2.trans b2.symm]] el[vC e],Ua IS el);rw [<-e] at b3;have:=a3.uniq b3;subst this;rw [a4,b4,el]
def Q2.fresh {H:Hp}{A:AH}(h:qe)(n:B7 av):yb7 xJd:=by
 induction h with
 |nil=>show yx
 |cons a _ ih=>
  show((l,_,_,h1,h2)=a,xCB (l,SZ[ai h1 n xVb],SZ[ai h2 n xVb],h1,h2))
def ixN_nat (h:j<n):TD[ixN n xPP] j:=by
 unfold ixN;show nQ[Ju Wk][ydI h]
def set_range {f f':ET}(h:∀p,f' p=f p+ EC [q]):(xJi[λ p=>vN[f p]]).set q[vN[f q+1]]=xJi[λ p=>vN[f' p]]:=by
 show(K6[Hy i],[List.getElem?_set,IS,LA,Jw,Jw]);by_cases hi:i<n
 ·rw [Mp hi];by_cases e:q=i
  ·show(DD,[CD,Ju hi,MS,h q]);simp
  ·rw [xPB,MS,MS,h i];have: [q].count i=0:=MD[yu yb9];rw [this,Mv]
 ·show(Wv[Θ (List.range n)[i]?][J6[LT LA[JX hi]]],[e2]);by_cases e:q=i
  ·show(DD,Ai CD[Jk hi])
  ·show Ar xPB
inductive xkK (vs:Sy) (H:Hp) (Q:VK) (QL:XK):Prop
 |mk (a:Qq) (C:LE) (m:Nat) (h0:vs=zR qS) (h1:Υ=Az xLY) (h2:(E5 C[x3N b])) (h3:AL C.length) (h4:C.length≤300) (h5:(∃b∈C,0<b)) (h6:AL m) (h7:ua m) (h8:EI[yeQ b b][2^m]) (h9:xOD xTP) (h10:yeK xTP) (Ug:EI xTP[2^m]) (h12:Xx l Qq ln ET[Bv->Χ->B0=Az[xZH xIT]->xxE xTP sj m ln->x6M m ln->B8]):xkK vs H Q QL
def xzq:XL ["counts","most","singles","lengths","bundle","place"] Jan xqy:=Tm
def xi4:HJ[x42 "count"]:=Z8
def xi6:TE:=xuU[yJ[Q5 1][nP x6l]]
def xjB:TT:=jd[Mh[λ i j=>Rh j i][Q5 1] xV3]
def xfa {P:Qv}{K:Frag}{mg:Ι}{base:Qz}{f fN fT fA fW' fL xx6 fW:Qq}{fd Xd fdT fdA fdW' fdL fdP U2:Qx}(F:FnL K mg "lengths_of" xqy Jan f fd)(Ne:Gg "need_shares" xs3 Jan fN Xd)(Th:yg9 xxd xAr fT fdT)(AW:yar cY Jaa fA fdA)(W:x2I fW' fdW')
  (Li:Gg "lightest_bundles" xsU xTs fL fdL) (Pa:yjF xyV xLj xx6 fdP) (We:yiJ xye xFx fW U2) (T:Df):xYj Jan xkK:=by
 show((dV,F0)=F.F,rN[F0.ok xzq λ QE A outer s H vs Q E hr h=>?_] _,(a,C,m,rfl,ha,hC,c1,c3,SF,m1,m2,WL,p30,p1,pm,k)=h,tP RW hV S4 3,xJ1[Fm[Iw[xa6 Ne Th AW W T] Ne[jA 0 1]][DS 2 xzq.nd[xnM (sp:=xu6) (xnR We) S4 We.b Z7 T.sort[xHd fW We.m][BO[xtT (N:=x42 "count") (g:=x6B 2[xwk IF[xwk[bO 1] gNil]]) (tt:=xjB) (te:=xi6) rfl rfl Z8 Z8 Z8
   (xq8 Z7 T.enum gP)[λ fp s H=>xNc[pN 0 xi4[pN 1 xi4 im]]]
   (λ fp s H=>FW xwV τ)[λ fp s H=>cx[nj 1[aK gP]]]]]][DP 3 xzq.nd[xOu wI iJ][xf[aE[xiQ Li Pa We T] RW Li[jA 2 1]] 4 xzq.nd[ae[xf tD 5 xzq.nd[ae[xyU[xS[V9 AZ qK]][o0 AZ qK xtG]]]]]] AZ]]] (_,rfl,_,rfl,a,C,m,rfl,ha,hC,c1,c3,SF,m1,m2,WL,λ H1 s1=>A1),Aj,Vk WZ ay[yD[ZC a[QK.of WZ] Ex]][xaa (K:=K) (a:=a) (l:=l) (xs:=xLY) (n:=2) (g:=x6B 2[xwk IF[xwk[bO 1] gNil]]) (tt:=xjB) (te:=xi6)
  (λ i ys H2=>∃ts:AH,ys=E8/\Vw=de/\xHL/\Q2 H2 [l] ts[(xv5 i[xBl p[sj p]]).map[sgl sj]])
  ([],rfl,ad,xwI,.nil)[λ i ys H2 _ z9=>by show((_,_,_,sm,_)=z9,rW[y9 WZ])] ?_ ?_ ?_ ?_ ?_])
 ·show Aj;rintro i x ys σ H2 p hx ⟨ts,rfl,hl,sm,hb⟩ hσ hp;show(Dr c hc[dZ hx],Sc Su[xVH i][ZZ hc] hcw[sj i=c][gA xx9 Jm hc])
  obtain⟨u0,u1,rfl⟩:∃u0 u1,σ=[u0,u1]:=match σ,hσ with| [u0,u1],_=>ni u0 u1
  show(Tl sp[Zj [yfh,Vz] hp] hlp[sp _ _ hl],xAI hpp[jB[(GJ p [yfh,Vz]) p] [WU,Vz]] ad[GJ p [yfh,Vz]] H3,ω (p,_,rfl,QV.of hpp,rfl,_,_,rfl,_,_,rfl,rfl,?_)[u7 _ rfl _ _ _ rfl ?_],Dd Ss hb.len IS Ss,(hfl:xOD[xv5 i[xBl p[sj p]]])=IY[NO _ _][LT LA[IY[Jy Su] c3]])
  try dsimp only
  rw [NN,JN];by_cases h0:0<c
  ·show(rK[Ju[IZ[Eo FX[ST c] yde]]][JL[LT hcw[IZ h0]]][y3 _ TY[λ q nq=>nU ye t nt]],Tl sq[Dn [WU] nq] hlq[sq _ _ hlp],Sc hqq[kS H3 q [WU] q=Az [WU]] ad nql[q∉ [l]][SZ[Zw xVb hlp nq nq]],az H3 q [WU] H4,Tl st[xQS [Vz,xw0]] QF[GQ hlq],DF hqt[GQ hqq] WW[jB[(Hf H4 t [Vz,xw0]) t] [Vz,xw0]] ad ntl[t∉ [l]][SZ[Zw xVb hlq nt nt]])
   generalize Hf H4 t [Vz,xw0]=H5 at*;show A3 s25[xYe H5][(sp.trans sq).trans st] kk[∀c' o,c'∉ [l]->Uz[xNG c'][(IJ H5[E8++[V.ref t]]) c']][λ c' o n e=>Δ[SZ[n EV]] e] (QF,bW[uO[Dg [_,_] WF[sN 300] Bc xG1 hfl]],rfl,ts++[t],Ar Ji,ad,fK c' o,?_)
   ·show Ye[s25 _ _ xHI]
   ·show Γ Ji[(hb.keepA λ c' o n e=>xSc n[s25 _ _ e]).app[lp (q,ntl,nql,?_,xSc nql hqt)]];show TD _[HO.tup [vN[sj i],xw0]];show LT hcw[xSc ntl WW]
  ·show(rK[Jk[Wg[Jd z] Z4]][JU[by show([hcw],xTV)]] (rfl,ts,rfl,hlp,sm.trans sp,?_),XV List.filter_nil JM[hb.keep sp])
 rotate_left
 ·rintro x σ H3 A' B' hAB ⟨a',xs,e,hq,hl',v,r,e2,v2,r2,e3,e4,h⟩;exact(a',xs,e,hq,hl',v,r,e2,v2,r2,e3,e4,hAB _ _ h)
 ·exact λ σ H A B h z9=>by show((v,e1,i,j,e2,e3,c,e4,z)=z9,(v,e1,i,j,e2,e3,c,e4,tM))
 ·exact λ σ H A B h z9=>by show((v,e1,v2,e2,n1,z)=z9,Z0 v e1 v2 e2 n1[λ q nq=>ka (z q nq).1 t nt[wF[(z q nq).2 t nt]]])
 rintro ys H2 ⟨ts,rfl,hl,sm,hb⟩;show xU IS hb RJ[Q2 H2 [l] ts xPT] hb;clear hb;show(Dd WX RJ.len IS WX,F1 l E8[XW xPT b xNr] x22[Iv IS IS IS WX][uO[Dg [_,_] Ω[EL 300] Dm p30[IR WX]]][λ j v kk hv hk=>?_][λ lo mm nlo hpw hstb=>A1])
 ·show kH hk;cases e:(xPT)[j]? with
  |none=>show tO hk hk
  |some b=>
   rw [e] at hk;show((t,ht,lt,_,_,h1,h2)=RJ.at e,AQ[xyf ht] hv hv,CR hk[Aa t lt HK h1 rfl rfl])
 show Aj;rw [xvp] at hstb;show(XG Z' VV[SM.xsm SG.xwh _ hstb],DF hZ (SM.xyD SG.xwh VV).symm hSB[yjN xwv xPT][gN[SM.xmw (kg:=xwv) (λ z:Qq×Bd=>VJ) QO VV][O1[Gk x13]]] hZB[ygC xPT][yiP[O1[Gk x13]]],(hso':yg5)=by
  rw [K1,OI] at hpw;show Bz Rt OI[hpw.imp[λ {a b} h=>by show((h':xNY a≤xNY b)=h,tS [_,_] Re Re[yad h'])]],(L,UL,hLp,eL,eU)=xn9 (RX:=yjk) (UX:=[]) (LT JM hZB.symm),(eU':UL=[])=by simpa using eU.symm)
 subst eU';rw [JM] at hLp;show(Tl s5[yfz nlo] hbs[x5e[xqB λ z hz=>RJ.zip z ygQ]],eN VS (TD ((upd H2 lo (.lst ((Z'.map[λ z:Qq×Bd=>((((z.2.1:Nat):Int),V.ref z.1))]).map (·.2)))) lo) (.lst ((Z'.map (·.1)).map V.ref)))[gA ad K1 K1] sm3 yj4);generalize upd H2 lo (.lst ((Z'.map[λ z:Qq×Bd=>((((z.2.1:Nat):Int),V.ref z.1))]).map (·.2)))=H3 at*;rw [eL] at hbs hso' hSB;generalize yjj=ss at*;clear hZ hZB hstb VV hpw eL eU hl RJ sm s5 WX;show(Tl hLl hLp.length_eq YM[s1.trans sm3],χ ha3[YM _ _ ha][yD[nU TY l4 n4]],fw s4 xQ9 n4 Yo[kS H3 l4 xQ9 l4=Az jw],Cz[Fj H3 l4 xQ9] H4 (_,rfl,a,_,rfl,BN[X4 ha3],l4,_,_,rfl,rfl,Yo,Z5,Gk[xn[sk c3]],(zD JH[bV[by show(tX[1*C.length],yr 300[x9 1] Bc c3)]]),λ l5 n5=>A1),Aj,(ez:xVO[pf xLY] jw=xZI)=by
  rw [JH,IS];show BC C.length jw=x82[λ _=>ie]
  rw [Pg,LA];generalize C.length=n
  induction n with
  |zero=>rfl
  |succ n ih=>show kh KG Ky ih KG)
 try dsimp only
 show([ez],fw s5 xZI n5 h55[xEq l5 xZI l5=Az xZI],Tl hb5[x5e[(hbs.keep s4).fresh n5]] hlo5[xXr VS],υ s05[(ya3).trans s5] n05[B7 l5][x29 ya3],az H4 l5 xZI H5);clear s4 s5 Yo n4 n5 ez;show(Bu (_,rfl,_,rfl,lo,l5,ss,L,sj,m,rfl,hlo5,EX h55,hb5,hso',yhj hLl,(Dg [_,_] Ω[EL 300] xGt p30[IR hLl.symm]),m1,m2,λ lb ub B H6 s6 nlb hlb hub lv=>?_),Tl h65[kj h55] s06 yjl,Sc V3[xxE L sj m[occ[xFB 1[HB-2]]]][by
  refine xia[hLp.nodup_iff.mp ?_] wc lv.lev[yhj hLl] m1[Lw hLl.symm pm]
  ·exact List.Pairwise.filter _ List.nodup_range
  ·show HI (ygR hp).2[Jd this]] hwR[E5[xFB 1[HB-2]][ZA tq[xVH q]]][λ b hb q hq=>HI[xcl lv.lev b[JK hb] q hq][ND.mp (ygR this).1]],xAI hln[x6M m[occ[xFB 1[HB-2]]]] (L,B,hso',hSB,lv,rfl)[xFB 1[HB-2]] R,υ hulR hub.len hlb5[lb≠l5][sF h55 nlb]);clear hb5 hlo5 h55 hso' hbs VS;refine xDu lb hlb[i' Ws K lb[ub.map V.ref][λ i σ H7=>∃v4 v5:EY,σ=[BL,CB,π lo,xH1,v4,v5]/\H7 l5=Az[xZH xN2]/\∀c o,FL l5->Uz[Gr[H6 c]][H7 c]][jE none none h65 x8t][λ i σ H7 _ z9=>by show(x9M z9,rW[Bo hlb5 hlb])] ?_ ?_]
 ·show Aj;rintro i y σ H7 hi ⟨v4,v5,rfl,h7,kp⟩;show(Sc Su[UE i][x3[ZZ hi] IS[Jq this hulR]] hRi[AD R R[(i)]] xBX,(t,ht,lq,nt,nq,h1,h2)=hub.at hRi,(hy:y=Z1)=Ε[xyf ht] hi[xGg hi])
  subst hy;show(xGb QF[hwR _[KZ Su]] e1[∀p,yy[R.take[i+1]]=xN2+EC R[(i)].2][λ p=>by
   show([Kj,hRi],YB[yy[xKB++[R[(i)]]]=_] xnx xxk)] R[(i)] bb,A3 nq'[lq≠l5][SZ[nq EV]] nt'[t≠l5][SZ[nt EV]] (_,rfl,t,_,_,_,rfl,rfl,QV.of[Bo nt' h1],xp,lq,rfl,EX[QK.of[Bo nq' h2]],i' Ws K lq[A5 xGi][λ j σ H8=>∃v5:EY,σ=[BL,CB,π lo,xH1,xQE,v5]/\H8 l5=Az[xZH[xN2+EC xOc]]/\∀c o,FL l5->Uz[Gr[H6 c]][H8 c]][VC v5[by simpa using h7] kp][λ j σ H8 _ z9=>xzV kp z9[QK.of[Bo nq' h2]]] ?_ ?_))
  ·rintro j y σ H8 hj ⟨v5,rfl,h8,kp8⟩;show(Dr q hq[dZ hj],Sc hqn[xVH q][QF q[J7 hq]] hg[Cs[xZH[xN2+EC xOc]] q[vN[xQA xKB+dS xOc]]][Ai Jw[Mp hqn]],SC e2[ST[xQA xKB+dS xOc]+1=qU[xQA xKB+dS xOc]][OR _] (_,rfl,_,rfl,l5,_,_,_,rfl,rfl,QK.of h8,aA hg,_,_,rfl,rfl,?_))
   try dsimp only
   show Γ e2 (_,rfl,_,rfl,l5,_,_,q,rfl,rfl,h8,ixN_nat[zD LA hqn],Α q,rfl,?_,λ c o n e=>?_)
   ·show([ad,set_range (f:=λ p=>xN2+EC xOc) (f':=λ p=>xN2+EC[(xGi).take[j+1]]) (Hy p)],[xwW hq,Nd,J8])
   ·show Xz[kp8 _ _ n e]
  ·show(xGO H8 v5 rfl h8 kp8,Ua Ki h8,tI[yW _ ?_ kp8] h8);congr 2;show tI[Nq λ p _=>?_][e1 p]
 ·rintro σ H7 ⟨v4,v5,rfl,h7,kp⟩;show(xBQ hulR Ki h7,xOh[k l5 _ H7 n05[λ c o e=>Bo[Af n05][s06 _ _ e]] h7[V3.perm hLp.symm] hln])
universe K27.S
namespace K27.Tb
open PySem L2 QQ W13 BP
seal PE PA PS PSs PT PW PG PI
inductive xkw (vs:Sy) (H:Hp) (Q:VK) (QL:XK):Prop
 |mk (a:Qq) (L:LE) (h0:vs=F5) (h1:Υ=xO) (h2:Gq) (h3:(E5 L[b≤6])) (h4:xJq):xkw vs H Q QL
def xgr:XL Jah Jah xtW:=Tm
def xf7 (F:Ο "need_table" xtW Jah)(Y:ZK):Cc 3 Jah xkw:=by
 show(yhg T W Y,DW tb hb T.bits tm hm T.many,D1 xgr[λ QE A outer s H vs Q E hr h=>?_],XT a L rfl hL hl h6 k,Gw[ae[yn[zo[xW[Iw[xzD AW W T] AW[mJ[Mk[FK 6 hb tb]]]]][HX xwO iJ xVw]]]] (_,rfl,a,L,0,6,rfl,hL,λ b z=>xCM[h6 b z] xNy[Bf[qG xN0 xN0 this]],_,rfl,AI) (_,rfl,a,_,rfl,BN hL,rfl,_,rfl,xc0 ?_ k),Ai IS hl)
inductive xml (vs:Sy) (H:Hp) (Q:VK) (QL:XK):Prop
 |mk (a:Qq) (L:LE) (p ah:Nat) (h0:vs=[AO,xDp,xNU]) (h1:Υ=xO) (h2:Gq) (h3:p≤272) (h4:i9[yaS wG]):xml vs H Q QL
def xtv:XL ["lengths","place","ahead","most","again"] xVi xsZ:=Tm
inductive xk6 (H:Hp) (a:Qq) (L:LE) (p:Nat) (ah:Nat) (m:Nat) (n:Nat) (σ:St) (H2:Hp):Prop
 |mk (i:Nat) (h0:n=m-i) (h1:σ=[BL,oz,xYb,CB,Α i]) (h2:H2=H) (h3:i≤m) (h4:∀j<i,u9[wG] ah):xk6 H a L p ah m n σ H2
def xiH (F:Ο "again_from" xsZ xVi)(T:Df):vn xVi xml:=by
 show(DW tm hm T.many ta hma T.mostA,D1 xtv[λ QE A outer st H vs Q E hr h=>?_],(a,L,p,ah,rfl,hL,hl,hp,k)=h,hn=xzY,xJ1[DS 3 xtv.nd[Ez[xrA hn] T.min OP[zM[FK 66 hma ta][y4 xVw τ]]][DP 4 xtv.nd ag[zd[xP7[ZS Bb AZ][qo[oR xWt] Ζ]][eI 4 xtv.nd x5J]] Bb]] (_,rfl,_,_,rfl,rfl,_,_,rfl,A1),Aj,aD m em hm1 m[EM[xVJ-tx<66][xVJ-tx] 66=m7/\m=x0K[272-p]][ni[x0K[272-p]][by split<;>lia]])
 try dsimp only
 rw [em];clear em;show(VB bL,xGM,Dd WB[xyS ah wG] Je WB,yI[xk6 H a L p ah m][zE m 0 rfl rfl B1[rV j hj hj[NM _]]]);rintro n σ H2 ⟨i,rfl,rfl,rfl,hi,QZ⟩;refine(_,rfl,_,rfl,_,_,rfl,rfl,_,rfl,iM)
 ·show(Sc h2[i<m][HI xA3 xLu] e1[tx+wy=rH i][xIX],SC l1[pB[p+i]][Jq[K3[Ja h2[dY hm1 Fb]]] hl.symm] (_,rfl,_,rfl,_,rfl,_,_,rfl,rfl,?_))
  try dsimp only
  show(dG,SC hgd[AD[wG] L[(p+i)]][by rw [L6,xXS]] (a,_,_,_,rfl,rfl,QK.of hL,fJ l1,_,rfl,rfl,_,rfl,xg h3 h3))
  ·show SC h4[L[(p+i)]=ah][yeP h3][Cm[λ σ' H'=>σ'=[BL,oz,xYb,CB,Α[i+1]]/\H'=H2][λ σ' H' z=>(m-(i+1),Kz _ _ h2,i+1,rfl,u6,VJ, Z3,xCY)]]
   ·by_cases e:j=i
    ·show(DD,[hgd,h4])
    ·exact QZ j[Ko[KC hj] e]
   ·exact VM _ _ rfl rfl rfl
  ·show(DK xM7 h4[jT (wG)[i]? ah][by
    show([hgd],Sf,h3[xLB[JA z]])],aG[xp6 QZ h4][LN[IY[Jy h2][dY hm1 G8]]] k k)
 ·show(DK[bp xM7] h2[i=m][by
   have Ul:¬(Ty[HY xJ xt]):=h1;have:¬(xJ<xt):=SZ[Ul xHW]
   exact xT6[JX[SZ[this[xn z]]]]],xNN,υ h5[xvI QZ] e[yaS wG=i][IT[IY[yjm (G8,xMJ[hl▸WB])][IR hm1.symm]][yjm (dY hm1 G8,h5)]],lG k k)
def BT:∀P,xEU P≤9*P.length:=by
 intro P;show(C7[xEU P=x2i Itm.cost][xrC P],xCQ);clear e
 induction P with
 |nil=>simp
 |cons x P ih=>
  have:x.cost≤9:=by cases x<;>simp [Itm.cost]
  simp;show Bj [_,_,_] Ω[CN[XY 9] 9] WF[.m 9 xi] ih this
inductive xkQ (C:Qq) (vs:Sy) (H:Hp) (Q:VK) (QL:XK):Prop
 |mk (p d a:Qq) (N0 T0:Nat) (L:LE) (h0:vs=Tr) (h1:xA1 C H N0 T0) (h2:xOH) (h3:Υ=xO) (h4:Gq) (h5:(E5 L[b≤6])) (h6:a≠d) (h7:Xx Pp F2 b Nat[x68 0 0 Pp 272 b->Dy C[dU ydX N0][T0+xH5]->lN[Ψ->CY->zY->Cf]]):xkQ C vs H Q QL
def xxN:XL ["bits","lengths","place","ahead","again"] x3z xrO:=Tm
def xeB (F:Ο "put_table" xrO x3z)(NT:Gg "need_table" xtW Jah fN Xd)(AF:Gg "again_from" xsZ xVi fA fdA)(B:xPp C):xB7 x3z[xkQ C]:=by
 show(jf B.R.X,C6 W B.R.whole S B.needsize,xm O B.ones Pu B.put M B.move,Tl T B.T GP[xZ4 P w S W O M T X],DW tm hm X.many ta hag X.again,Zq tl hle X.leastA xxN[λ QE A outer st H vs Q E hr h=>?_] _,(p,d,a,N0,T0,L,rfl,hB,VY,ha,hl,h6,nad,k)=h,Sc S4[Dk 3] CJ nap[vj a][by
  show((dx,_,_,_,hp,_)=hB,fD ha A2)],xJ1[Fm[Ih[xf7 NT B.R] S4 NT 1][ID 2 xxN.nd ag 3 xxN.nd ag[ae[zd[ZS Ζ xVw][DS 4 xxN.nd[Iw[xiH AF X] AF[Wt 1 2 3]][vm[HX xwy Bb xPm][Fm[xO8 Pu GP S4[W5[FK 7 hag ta]]][Fm[xO8 Pu GP S4[W5[y4 Bb xPm]]][eI 2 xxN.nd[Gi Ζ Bb]]]][Gn 3 xxN.nd[V9 τ Ζ][aB[xO8 Pu GP S4[xIW 3]]][eI 2 xxN.nd x5K]]]]]]]][Q6 _ rfl a L ha hl h6 A1],x8w,VB bL,yI[λ n σ H2=>∃q ah Pp v4,n=272-q/\σ=[u5,BL,Α q,xYb,v4]/\q≤272/\x68 0 0 Pp q ah/\xA1 C H2[dU ydX N0][T0+xH5]/\(∀c o,Ψ->CY->zY->ZL)] (272,0,0,[],none,rfl,rfl,Z9,qg,hB,λ c o e _ _=>e))
 rintro n σ H2 ⟨q,ah,Pp,v4,rfl,rfl,hq,hw,RT,kp⟩;refine u7 _ rfl _ _ _ rfl[xg hc hc]
 ·show(A3 VX[q<272][HI xXT xLu] hqL zu[Jq VX hl.symm][Cm[λ σ' H'=>∃q' ah Pp v4,q<q'/\σ'=[u5,BL,Α q',xYb,v4]/\q'≤272/\x68 0 0 Pp q' ah/\Dy C[dU ydX N0][T0+xH5]/\(∀c o,Ψ->CY->zY->Cf)][λ σ' H' z9=>by show((q',ah,Pp,v4,QF,z1,z2,z)=z9,(272-q',Ll[Ja QF z2] QF,q',ah,Pp,v4,rfl,z1,z2,z))]],Hs hwl[xwX hw] hcl[BT Pp] WY[Bo ha nap nad] hws[xxr hw hqL],χ hsz[xnZ (a:=ah) hqL][xzK g2 (_,rfl,_,rfl,_,rfl,a,L,q,ah,rfl,WY,hl, Z3,bf)],YK,(dx,B2,r2,k2,Q1,hd2,br2,Uk)=id RT,SC no[∀r k,Θ[lh zr "put"]][λ r k=>ZE][u7 _ rfl _ _ _ rfl[xg h3 h3]])
  ·show Sc h4[zS xXd][HI[Jd h3][OQ.mp this]] est[iX q ah=.rep xXd][Fq stAt[Ju h4]]
   rw [est] at hws hsz;show((hr66:xXd≤66)=J5 66 _,Cz xXd r (_,rfl,p,dx,_,rfl,Q1,qI _,p,d,_,_,7,3,rfl,RT,(Bx [_,_,_,_][xIA 9[DT 9[xDs Cv] SL]][iK[DT 9 xV[ZY 9[FJ 9]]]] WF xAR VY[IV 9 hq][oM 9 hwl hcl]),Z9,Z9,Μ H3 VZ Q4),(Uy,B3,r3,k3,RE,hd3,br3,hk3)=id VZ,SC er[ST r-3=ST[r-3]] Z5 (_,rfl,p,Uy,_,rfl,RE,qI _,_,rfl,_,_,rfl,rfl,?_))
   try dsimp only
   show([er],ω (p,d,_,_,r-3,6,rfl,VZ,(Bx [_,_,_,_][xIA 9[DT 9[xDs Cv] SL]][iK[DT 9 xV[ZY 9[FJ 9]]]] xWz xAR VY[IV 9 hq][oM 9 hwl hcl]),Z9,(by show r-3<2^6;lia),Μ H4 hB4 TH) (_,rfl,_,rfl,_,_,rfl,rfl,q+r,ah,Pp++[.rep r],Α r,(Dh DH SL SB WF h4),?_,by have:=hsz.2;show q+r≤272;show(C7[(ycQ).size=r] rfl,DE [_,_,_,_][Aw xV6][BZ 272 Fs] WF xV yq hsz.2 zL),hws,?_,λ c o e n1 n2=>VE xPt n1 n2))
   ·show Wv[xQF+ST r=ST[q+r]][Int.ofNat_add_ofNat _ _]
    try dsimp only
    show Ar e2
   ·show([xl5,xxB,aU],(e5:T0+(xH5+xEU [ycQ])=T0+xH5+3+6)=by
     show(RC[xEU [ycQ]=9],Em Uf kO Iy[CN xWz 6] Yp[EZ kO Uf[CN xWz 6] Iy x8]),LT e5 hB4)
  ·show(Sc h4[¬zS xXd][SZ[h3[IZ[Bf[HH DH Re DH Re z]]]]] est[iX q ah=.one L[(q)]][by show(Fq stAt[Jk h4],x1C hqL)],xU est hws hx6[L[(q)]≤6][h6 _[KZ hqL]],Ec (_,rfl,_,rfl,a,_,_,_,rfl,rfl,xUW,fJ hqL,?_) (_,rfl,p,dx,_,rfl,Q1,qI _,_,rfl,p,d,_,_,L[(q)],3,rfl,RT,(Bx [_,_,_,_][xIA 9[DT 9[xDs Cv] SL]][iK[DT 9 xV[ZY 9[FJ 9]]]] WF xAR VY[IV 9 hq][oM 9 hwl hcl]),Z9,(by show L[(q)]<2^3;lia),Μ H3 VZ Q4) (_,rfl,_,_,rfl,rfl,q+1,L[(q)],Pp++[.one L[(q)]],_,ON _,rfl, Z3,hws,?_,λ c o e n1 n2=>xPt),[xl5,xxB,aU],(e5:T0+(xH5+xEU [Itm.one L[(q)]])=T0+xH5+3)=by
    show(RC[xEU [Itm.one L[(q)]]=3],Em Uf DH Iy xWz Yp[EZ DH Uf xWz Iy x8]),LT e5 VZ)
 ·show((VX:q=272)=by
   show((h1:¬(Ty[HY xQF 272]))=hc,cw[¬(xQF<272)][SZ[h1 xHW]]),DN VX[k Pp ah H2 hw RT kp])
universe K27.Tb
namespace C9
def ed (L:LE):ET
 |0=>0
 |j+1=>2*Cn+L.count[j+1]
def cdAt (L:LE) (q s:Nat):Nat:=2*aY[s-1]+xz7 q s
def itm (L:LE) (j p q:Nat):x9J:=x8H[xIa/\(pQ Al\/(Al=j+1/\q<p))] ((xGI Al,Al))
def row (L:LE)(j p:Nat):yfg:=xEy L.length[itm L j p]
def codes (L:LE):yfg:=xA9 12 0
def xzH (L:LE)(j p:Nat):BD xPL L.length:=by simp [row]
def eV {L:LE}{j p q:Nat}(h:zu):Cs[xPL] q[itm L j p q]:=by simp [row,h]
def xih (L:LE):xA9 0 0=yft none:=by
 show Xv q;by_cases h:zu
 ·rw [eV h,MF,Ju h];congr 1;show Fq itm[Jk Z5]
 ·rw [J6[xEj h],J6[LT JQ[JX h]]]
def xaj (L:LE)(j:Nat):xA9 j L.length=xA9[j+1] 0:=by
 show Xv q;by_cases h:zu
 ·rw [eV h,eV h];congr 1;show x40;by_cases c:xIa/\(pQ Al\/(Al=j+1/\zu))
  ·show Vr[Ju c] Z5
  ·show Wf c[Jk Z5]
 ·rw [J6[xEj h],J6[xEj h]]
def xb9 {L:LE}{j p:Nat}(h:xv p[j+1]):xA9 j[p+1]=(xPL).set p[some ((xDt[j+1],j+1))]:=by
 show(Sc hp[pB p][ZZ h] hg[xzM p=j+1][Yy h],Xv q);by_cases e:p=q
 ·show(DD,[eV hp,KO[LT xzH hp]]);congr 1;show jb itm hg x7m
 ·rw [Mc e];by_cases hq:zu
  ·rw [eV hq,eV hq];congr 1;show x40;by_cases c:xIa/\(pQ Al\/(Al=j+1/\q<p))
   ·show Vr[Ju c] Z5
   ·show Wf c[Jk Z5]
  ·rw [J6[xEj hq],J6[xEj hq]]
def xie {L:LE}{j p:Nat}(h:jT L[p]?[j+1]):xA9 j[p+1]=xPL:=by
 show Xv q;by_cases hq:zu
 ·rw [eV hq,eV hq];congr 1;show(x40,(RI:q=p->Al≠j+1)=by
   rintro rfl e;apply h;rw [Jm,IW hq] at e;show LT[IW hq][aS e])
  by_cases c:xIa/\(pQ Al\/(Al=j+1/\q<p))
  ·show Vr[Ju c] Z4
  ·show Wf c[Jk[by
    show Sf;apply c;show(FQ u6,x2Z VJ z1 z2)
    ·show DZ z
    ·show(xVD[FQ z1],cw[vj q][λ e=>RI e z1])]]
 ·rw [J6[xEj hq],J6[xEj hq]]
def wS (L:LE)(j p:Nat):xDt[j+1]=2*Cn+xz7 p[j+1]:=rfl
def xmA {L:LE}{j p:Nat}(h:xv p[j+1]):zC[p+1][j+1]=xDt[j+1]+1:=by
 show Up cdAt Kj h Nd;simp;show qL[A8 Β][AS xG0][AS xG0][A8 Β]
def xh4 {L:LE}{j p:Nat}(h:jT L[p]?[j+1]):zC[p+1][j+1]=xDt[j+1]:=by
 show jb cdAt Kj Nd;cases e:L[p]? with
 |none=>simp
 |some z=>
  show HG e;have:z≠j+1:=EA[h[by rw [q]]]
  simp [List.count_singleton,this]
def xmT (L:LE)(j:Nat):zC L.length[j+1]=aY[j+1]:=Ai wS Ki
theorem xpU (L:LE)(a:Nat):∀d,2^d*aY a≤aY[a+d]
 |0=>by simp
 |d+1=>by
  have:=xpU L a d;show lP[_≤2*aY[a+d]+_] KQ;have:2^d*2*aY a=2*(2^d*aY a):=by rw [KI[2^d] 2,KL]
  omega
theorem xjT (L:LE):∀j,Cn+L.length≤L.length*2^j
 |0=>by simp [ed]
 |j+1=>by
  have:=xjT L j;have:=ygS[j+1] (l:=L);rw [ed,KQ,<-KL];lia
def wr {L:LE}{q s:Nat}(h:rI)(hs:qV):xDH<aY s:=by
 show(vk j j[s=j+1] (s-1,x6K hs rfl),υ h1[xmA (j:=j) h] h2[zC[q+1][j+1]≤aY[j+1]][by
  rw [<-xmT];unfold cdAt;have:List.count[j+1][List.take[q+1] L]≤List.count[j+1][List.take L.length L]:=LT Ki[ygs xQu]
  exact LX.mpr this],Ja[IR h1.symm] h2)
def xd3 {L:LE}{q1 q2 s1 s2:Nat}(h1:xv q1 s1)(p1:AL s1)(lt:s1<s2):zC q2 s2/2^(s2-s1)≠zC q1 s1:=by
 show DF a[wr h1 p1] b[2^(s2-s1)*aY s1≤zC q2 s2][by
  show(cX[xpU L s1[s2-1-s1]][show s1+(s2-1-s1)=s2-1 by show Em Ω Uf WF Uf[NL.J'[uW [_,_,_] xV4 xV0 lt W1]][EZ Uf Ω Uf WF W1]],[show s2-s1=(s2-1-s1)+1 by show BW[G6 [_,_,_,_,_][Gh x5t][kx Φ 4 Cv] Β W1 W1[rA [_,_] SB Re lt]][Bx [_,_,_,_,_][BE[xJx Φ]][.a EH D7] Β Re W1[rA [_,_] SB AM lt][NL.J'[Dg [_,_,_] gc yp Uf lt W1]]],KQ]);unfold cdAt;show(C7[2^(s2-1-s1)*2*aY s1=2*(2^(s2-1-s1)*aY s1)][by rw [KI[2^(s2-1-s1)] 2,KL]],ED [_,_,_,_][xQT Re][xQR xHG][xQR Uf][lV this][IR e])] c[aY s1≤zC q2 s2/2^(s2-s1)][(ygc).mpr[LT KI b]];omega
def krf (m:Nat)(L:LE):Nat:=(XW[xAA l[HY 0 l]] l[2^(m-l)]).sum
def xpt (m:Nat)(L M:LE):krf m[L++M]=krf m L+krf m M:=Up krf JN Ji Mw
theorem krf_up {m:Nat}(hm:ua m):∀L:LE,uB l L[l≤m]->fo L=2^(12-m)*krf m L
 | [],_=>rfl
 |a::L,h=>by
  show Tl ih[krf_up hm L λ l z=>lS l z] ha[yT a];unfold krf at ih ⊢;by_cases c:0<a
  ·simp only [P4,c,decide_true,if_true,KH,MZ];rw [ih,MR,<-LW];congr 2;exact MQ[Nat.sub_add_sub_cancel hm ha]
  ·simp only [P4,c,decide_false,LH,Og];show xYc
structure Good (L:LE):Prop where
 ne:ybL
 le:x6X
 most:∀l∈L,ua l
 some:∃l∈L,0<l
 room:fo L≤4096
universe C9
namespace C10
open BP C9
def kle (L:LE)(j:Nat):Nat:=fo[xAA l[FO l j]]
theorem xl9 (p:xVA):∀L:LE,fo[L.filter p]≤fo L
 | []=>ρ
 |a::L=>by
  show υ ih[xl9 p L] e[∀M:LE,fo[a::M]=fo uP+fo M][λ M=>xpt 12 uP M]
  by_cases h:Ty[p a]
  ·show Iv[JL h][e[L.filter p]][e L][LX.mpr ih]
  ·show XV[JU h][e L][OO ih]
def xib (L:LE)(j:Nat):kle L[j+1]=kle L j+L.count[j+1]*2^(12-(j+1)):=by
 induction L with
 |nil=>simp [kle]
 |cons a L ih=>
  show C7[∀M:LE,fo[a::M]=fo uP+fo M][λ M=>xpt 12 uP M]
  unfold kle at ih ⊢;rw [NI];by_cases h1:pQ a
  ·rw [JL[yu[KN h1]],JL Uu,e[xAA l[FO l[j+1]]],e[xAA l[FO l j]],ih,Jk x5a];simp only [Mv];exact MQ[J8 _ _[_*2^(12-_)]]
  ·by_cases h2:a=j+1
   ·show(xNN,[JL Z6,JU Z6,e[xAA l[FO l[j+1]]],ih,Ju Z6]);have:fo [j+1]=2^(12-(j+1)):=by
     unfold krf;simp
    show([this,LV,P1],BW[xI [_,_,_] Iy xGT][xI [_,_,_] xGT Iy])
   ·rw [JU[yu[Ko[yfD h1] λ a=>h2[id[MQ a]]]],JU Uu,ih,Jk x12];simp only [Mv]
theorem xoz (L:LE):∀j,ua j->Cn*2^(12-j)=kle L j
 |0,_=>by
  unfold kle krf;show xI8[(xGh[xAA l[FO l 0]] l l)=[]][by
   rw [List.filter_filter,Lh];intro a _;show x5a];simp [ed]
 |j+1,h=>by
  show(ZR[xoz L j[Ly h]],[xib,-ih],XC[(2*Cn+L.count[j+1])*2^(12-(j+1))=_] LV[show 12-j=(12-(j+1))+1 by show El[Dg [_,_,_][xYa EH][CN yp 12] Β W1[DI DU SB hJ Re hJ h]] [_,_,_][xYa yp][CN EH 12] Β W1[DI DU SB hJ SB hJ h]] KQ);congr 1;rw [KI 2,KL,KI 2]
def xcS {L:LE}(g:gn){j:Nat}(hj:ua j):Cn≤2^j:=by
 show DF h[xoz L j hj] h1[kle L j≤4096][IY[xl9 _ L] g.room] h2[2^j*2^(12-j)=4096][by rw [<-LW,BJ[j+(12-j)] 12[Km hj]]]
 rw [<-h,<-h2] at h1;exact Nat.le_of_mul_le_mul_right h1 Gm
def xvH {L:LE}(g:gn){q s:Nat}(h:rI):ua s:=g.most s[J7 h]
def cd_lt {L:LE}(g:gn){q s:Nat}(h:rI)(hs:qV):xDH<2^s:=
 Ja[wr h hs][xcS g[xvH g h]]
def xjy {L:LE}{q r s:Nat}(h1:rI)(h2:xv r s)(e:xDH=zC r s):q=r:=by
 have key:∀q r:Nat,rI->q<r->xz7 q s<xz7 r s:=λ q r h1 h=>by
  show(G9[xN1 q 1=L.take q++[s]][Ai Kj h1][xz7[q+1] s=xz7 q s+1][nQ e1 Nd],(e3:xz7[q+1] s≤xz7 r s)=by
   have:xN1 q 1=(L.take r).take[q+1]:=by rw [N3,J9 Z4]
   show xZv[ygs xQu],yc [_,_,_] xV4 DG[IR e2.symm] e3)
 unfold cdAt at e;rcases PQ q r with h|h|h
 ·have:=key q r h1 h;show BW[xWc SB h][yR [_,_,_][.a[A8 Uf] Β][HQ xG0][IP zL this]]
 ·show j8
 ·have:=key r q h2 h;show BW[yR [_,_,_][.a xG0 xi][IM[A8 Uf]][ym e this]][Dh Β Re SL Re h]
def xfr (L:LE)(u:Au)(q:Nat):Prop:=xv q u.length/\AL u.length/\xGI u.length=xOv
def Beg (L:LE)(u:Au):Prop:=∃q s,rI/\u.length<s/\xDH/2^(s-u.length)=xOv
def xqw {L:LE}{u:Au}{q:Nat}(h:Q3 u q)(b:xYM u):False:=by
 show(x4Y h1 h3 h,DR q2 s2 b1 b2 b3 b[xd3 h1 h2 b2[b3.trans h3.symm]])
def xhl {L:LE}{u:Au}{q r:Nat}(h:Q3 u q)(h':Q3 u r):q=r:=xjy EO h'.1[(xCs).trans (EU h').symm]
inductive Res where
 |thing (q s:Nat)
 |bad
 |none
def Due (L:LE)(rest:Au):BY Res
 | .thing q s=>s≤rest.length/\Q3 yjP q/\∀j<s,x1M L j
 | .bad=>∃s,s≤rest.length/\(∀j<s,x1M L j)/\¬x1M L s/\∀q,¬Q3 yjP q
 | .none=>∀j≤rest.length,x1M L j
def Due.uniq {L:LE}{rest:Au}{a b:Res}(ha:xRy a)(hb:xRy b):a=b:=by
 show(Sc tt[∀{q s q' s'},bh L rest q s->bh L rest q' s'->s≤s'][λ {q s q' s'} h h'=>by
  show iq s' s c c
  ·show rT[xqw[AV h'][xCs s' c]]
  ·exact c] tb[∀{q s},bh L rest q s->xRy .bad->False][λ {q s} h ⟨r,h1,h2,h3,h4⟩=>by
  rcases PQ s r with c|c|c
  ·exact xqw ji[h2 s c]
  ·show DN c[h4 q ji]
  ·exact h3[xCs r c]],Sc tn[∀{q s},bh L rest q s->xRy .none->False][λ {q s} h h'=>xqw ji[h' s EO]] bn[xRy .bad->xRy .none->False][λ z9 h'=>DR r h1 h2 h3 h4 z9[h3[h' r h1]]])
 cases a with
 |thing q s=>
  cases b with
  |thing q' s'=>
   show(C7[s=s'][IT[tt ha hb][tt hb ha]],DD,[xhl[AV ha][AV hb]])
  |bad=>show rT[tb ha hb]
  |none=>show rT[tn ha hb]
 |bad=>
  cases b with
  |thing q' s'=>show rT[tb hb ha]
  |bad=>rfl
  |none=>show rT[bn ha hb]
 |none=>
  cases b with
  |thing q' s'=>show rT[tn hb ha]
  |bad=>show rT[bn hb ha]
  |none=>rfl
theorem xmc:∀{a b:Au},a.length=b.length->num a=num b->a=b
 | [],[],_,_=>rfl
 |x::a,y::b,h,e=>by
  have hl:a.length=b.length:=Rj
  rw [xtF,xtF,hl] at e;show(yY[xxL a][xxL b],xU hl h1 exy[x=y][by
   cases x<;>cases y<;>first|rfl|(exfalso;show xWC;omega)])
  subst exy;rw [xmc hl[IT[EZ HM DG Re SL[IR e]][EZ DG HM SL Re zL]]]
def xj1 (u:Au){k:Nat}(h:k≤u.length):num ycR=xOv/2^(xMA k):=by
 show(C7[xOv=num ycR*2^(xMA k)+num ycS][jL[xyo ycR ycS] JJ Je this],Dd QF[xxL ycS] Je QF,kh e KI[Pe Gm][OY QF])
def xpO (c:gO):Au:=dig ax ZP
def wd_num {L:LE}(g:gn){q s:Nat}(h:rI)(hs:qV):num[xpO ((xDH,s))]=xDH:=Bz xpO xxf[Lq[cd_lt g h hs]]
def xnn {L:LE}{q:Nat}(g:gn):(xA6)[q]?=x8H zu[x8H xIa ((xGI Al,Al))]:=by
 unfold codes;by_cases h:zu
 ·show Vr[eV h] h;congr 1;show x40;have:ua Al:=XV Jm[IW h][g.most _[KZ h]]
  by_cases c:xIa
  ·show Vr[Ju (c,.inl this)] c
  ·show Wf[SZ[c u6]][Jk c]
 ·show Wf h[J6[xEj h]]
def xhp {L:LE}(g:gn){q:Nat}{c:gO}(h:Cs[xA6] q[some c]):xv q ZP/\AL ZP/\ax=xGI ZP:=by
 show(HG[xnn g],x0I)
 ·rename_i hq
  show(xUo h,x0I)
  ·rename_i h1
   show(xy,ni ?_ h1,Yy[IW hq])
  ·show xy
 ·show xy
def xkm {L:LE}(g:gn){q s:Nat}(h:rI)(hs:qV):Cs[xA6] q[some ((xDH,s))]:=by
 show(υ hq[ZZ h] e[Al=s][Yy h],[xnn g,Ju hq,e,Ju hs])
universe C10
namespace L2
open PySem PySem.Spec PyProof.Rows QQ
section
variable {κ:Type}[DecidableEq κ]
def du (QN:kr)(k:κ):EY:=(QN.find?[xNz x38]).map (·.2)
def putK (QN:kr)(k:κ)(v:V):kr:=
 Uc[xXD][x3r[Hn mi k ((mi,v)) kv]][QN++[((k,v))]]
def xrs {k:κ}(e:BS=k):TD[du[p::r] k] Wd:=xNP du e
def xrt {k:κ}(e:¬BS=k):du[p::r] k=du r k:=xNP du e
theorem xtQ (k:κ):∀QN:kr,(xXD)=(xCC).isSome
 | []=>rfl
 |p::r=>by
  rw [List.any_cons];by_cases e:BS=k
  ·simp only [OT,IZ e,Bool.true_or,Option.isSome_some]
  ·show Iv CH[Kh e] Bool.false_or[xtQ k r]
theorem xmX (k j:κ)(y):∀QN:kr,du[x3r[Hn mi k ((mi,y)) kv]] j=XW[xKM j] x[Hn j k y x]
 | []=>rfl
 |p::r=>by
  show(ZR[xmX k j y r],[KH]);by_cases h:BS=k
  ·show w6 h;by_cases e:BS=j
   ·rw [xrs (p:=((BS,y))) e,OT,MS,Ju[e.symm.trans h]]
   ·rw [xrt (p:=((BS,y))) e,CH,ih]
  ·show w8 h;by_cases e:BS=j
   ·rw [OT,OT,MS,Jk[SZ[h[e.trans z]]]]
   ·rw [CH,CH,ih]
theorem xne (k j:κ)(y):∀QN:kr,Θ xCC->du[QN++[((k,y))]] j=xH6 j k y[xKM j]
 | [],_=>by
  by_cases e:k=j
  ·show oB e.symm OT
  ·show Zz yb9 CH
 |p::r,hn=>by
  show([K5],UN hk[¬BS=k][SZ[AQ[xrs z] hn hn]][xrt hk] hn,ZR[xne k j y r hn]);by_cases e:BS=j
  ·rw [OT,OT,Jk[SZ[hk[e.trans z]]]]
  ·rw [CH,CH,ih]
def xr2 (QN:kr)(k j:κ)(y):du[x4a y] j=xH6 j k y[xKM j]:=by
 unfold putK;by_cases a:IC xXD
 ·rw [Ju a,xmX];rw [xtQ] at a;by_cases e:j=k
  ·show(x21 x[Option.isSome_iff_exists.mp a],[Ju e,e,hx,MS,CD])
  ·show w8 e;cases xKM j with
   |none=>rfl
   |some x=>rw [MS,xPB]
 ·show iR a[xne k j y QN ?_];rw [xtQ] at a;cases q:xCC with
  |none=>rfl
  |some x=>show Ε q a (a rfl).elim
def f8 (QN:kr)(k:κ)(v):EI xOm[x3U 1]:=by
 show xL2 putK
 ·show uO x63
 ·show(mE Jn Oo,BM[Y6[Ρ Fp]])
def S8.isSome_eq (r:S8 o u):o.isSome=u.isSome:=by
 cases o with
 |none=>cases u with
  |none=>rfl
  |some _=>show rT x8p
 |some _=>cases u with
  |none=>show rT x8p
  |some _=>rfl
def KV.val (r:iH)(k:κ):S8 xCC[x3V vs]:=by
 unfold KV at r
 induction r with
 |nil=>exact True.intro
 | @cons p q ps qs h t ih=>
  show xAs h1 h2;by_cases e:BS=k
  ·show(Sc e'[DO=k] x0X b[TD[x3V[q::qs]] GZ][xNP valueAt e'],XV OT b h2)
  ·show(Sc e'[¬DO=k] x6o b[x3V[q::qs]=x3V qs][xNP valueAt e'],XV CH b ih)
theorem KV.any (r:iH)(k:κ):(xXD)=vs.any[xNz x38]:=by
 unfold KV at r
 induction r with
 |nil=>rfl
 |cons h t ih=>rw [List.any_cons,List.any_cons,ih,EO]
def KV.repl (r:iH)(k:κ)(ry:VL):
  KV[x3r[Hn mi k ((mi,y)) kv]][vs.map[xNz[Hn mi k ((mi,u)) kv]]]:=by
 unfold KV at r ⊢
 induction r with
 |nil=>show yx
 | @cons p q ps qs h t ih=>
  show([KH,KH],zJ[xS1 ?_] h1 h2 h);by_cases e:BS=k
  ·show(Vr[Ju e] x0X,AU h1 ry)
  ·show(Wf e[Jk x6o],AU h1 h2)
def KV.put (r:iH)(k:κ)(ry:VL):KV[x4a y][stored vs k u]:=by
 unfold putK stored;rw [r.any k];by_cases e:IC[vs.any[xNz x38]]
 ·show XV[Ju e][Ju e][r.repl k ry]
 ·show XV xPB xPB[yjn[ZV ry]]
theorem KV.length {vs:HZ κ Qr}(r:iH):QN.length=vs.length:=yhX
universe s
def xm5 (r:RelV[kV k] u):Ty[(xxA P w).is k u]:=by
 cases k with
 |inl i=>show(Vl e[u=xFt i] r,yA[xgz P w i t])
 |inr x=>show(Vl e[u=xUl x] r,yA[xgj P w x t])
theorem xnO:cj ks us[pT yb1][ItemsAre[xxA P w] ks us]
 | [],_,r=>by show(AQ PH r r,yx)
 |k::ks,_,r=>by
  rw [KH] at r;cases r with
  |cons h t=>exact .cons[xm5 h][xnO t]
abbrev KT (H:Hp):xO4->BY[HZ xTh[Qq×Qr]]:=Paired λ p q=>BS=DO/\Zt[AV q][xWU BS]/\yff[EU q]
def KT.val (r:xPu)(k):S8 xCC ((atKey xs k).map (·.2)):=by
 induction r with
 |nil=>exact True.intro
 | @cons p q ps qs h t ih=>
  obtain⟨h1,_,h2⟩:=h;by_cases e:BS=k
  ·show(Sc e'[DO=k] x0X b[TD[xWW[q::qs]] GZ][xNP atKey e'],XV OT b h2)
  ·show(Sc e'[¬DO=k] x6o b[xWW[q::qs]=xWW qs][xNP atKey e'],XV CH b ih)
def KT.repl (r:xPu)(k)(ry:VL):
  KT H[x3r[Hn mi k ((mi,y)) kv]][xs.map[putAt k u]]:=by
 induction r with
 |nil=>show yx
 | @cons p q ps qs h t ih=>
  show([KH,KH],XX[xS1 ?_] h1 h2 h3 h);unfold putAt;by_cases e:BS=k
  ·show XV[Ju e][Ju x0X] (h1,h2,ry)
  ·show XV xPB[Jk x6o] (h1,h2,h3)
def KT.put (r:xPu)(k)(hb:Zt b xUy)(ry:VL):
  KT H[x4a y][storedH xs k b u]:=by
 show C7[(xXD)=(xWW xs).isSome][by
  rw [xtQ,(r.val k).isSome_eq,PX]]
 unfold putK storedH;show xCQ;by_cases q:FY[xWW xs]
 ·show XV[Ju q][Ju q][r.repl k ry]
 ·show XV[Jk q][Jk q][yjn[xBq hb ry]]
def KT.keeps (r:xPu)(ht:∀b ys,Zt b ys->jB xE5 ys):KT H' QN xs:=
 yiY[x0q (u6,ht _ _[AV z],EU z)]
def xjN (ok:ZG)(e:xDY u):qv u:=e.ok ok
def xm4 (ok:ZG)(e:xDY dF):xFe/\xJL/\∃vs,iH/\ydG P w a vs:=
 show qv dF from xjN ok e
def xdF (ok:ZG)(e:lD dF):xFe/\xJL/\∃vs,iH/\ydG P w a vs:=xm4 ok x4l
def xnt (ok:ZG)(e:Zt a yb1):(xTN P w).is h ks a:=by
 show((_,its,r,o,h1,h2,n,h3)=xwG[qv[.tup yb1]][ok a _ e],(o,its.toArray,n,h1,h2,h3,by simpa using xnO r))
def xmJ (ok:ZG)(e:xDY Mg):xFe/\xJL/\
  cg[xPu/\h.DictOfH[xTN P w] a xs]:=by
 show((z,y,xs,r,o,es,ep,h1,h2,h3,h4,h5)=xwG[qv Mg][xjN ok e],DK (z,y,xs,r,o,es,ep,h1,h2,h3,h4,xIH,h5) all[cj l m[KT H l m][Ic m[(xTN P w).is h ke[AV x]]]][by
  intro l m q
  induction q with
  |nil=>show(xEw,xVd hx)
  | @cons p q ps qs hq t ih=>
   show(xEw,XJ hx e hx)
   ·show yA[xnt ok[Bg hq.1[AV hq]]]
   ·exact ih x hx],all r x hx)
def xdt (ok:ZG)(e:xYW):xFe/\xJL/\
  cg[xPu/\h.DictOfH[xTN P w] a xs]:=xmJ ok x4l
def U6 (H:Hp)(a:Qq)(y:V)(r:EY):Prop:=
 (∃QN k,xDY dF/\y=kV k/\r=xCC)\/∃QN k b,xDY Mg/\y=Bh/\Zt b xUy/\r=xCC
def DPut (H:Hp)(a:Qq)(y v:V)(H':Hp):Prop:=
 (∃QN k,lD dF/\y=kV k/\ybf/\H'=xGJ[.dK xOm])\/
 ∃QN k b,xYW/\y=Bh/\Zt b xUy/\ybf/\H'=xGJ[.dT xOm]
def U6.t {k:xTh}(e:xYW)(eb:Zt b xUy):U6 H a Bh xCC:=.inr[zE QN k b x4l eb rfl]
def DPut.t {k:xTh}(e:xYW)(eb:Zt b xUy)(hl:ybf):
  DPut H a Bh v[xGJ[.dT xOm]]:=.inr[Hx QN k b e eb hl rfl]
def Inv.big {σ:St}(I:Wp):yjD:=DC h yiG (x9x).lt[MN Z9 h]
def xgZ {σ:St}(hu:xOf 1)(I:Wp)(g:U6 H a y Ha)(ry:VL)(h:∀w' s',xH2->RelV v w'->Q w' s'):
  WN[getItem AO u] Q E s:=by
 rcases g with⟨QN,k,e,ey,l⟩|⟨QN,k,b,e,ey,eb,l⟩
 ·show(xNQ,xAz z hd vs dd[x3s e],Ie w' hw rw'[S8.some_of[LT l[rel.val k]]][wpAny_getItem_of x5f dd.mapOf hw[h w' _ AK rw']])
 ·show(xNQ,Sx xK7 ry,xAz z hd xs dd[x3t e],(w',hw,rw')=S8.some_of[LT l[rel.val k]],Dq p hp Q1[Option.map_eq_some_iff.mp hw][wpAny_getItem_heap x5g x6r dd hp ?_],LT Q1[h w' _ AK rw'])
def xd6 {σ:St}(hu:xOf 1)(I:Wp)(g:U6 H a y o)(ry:VL)(h:∀s',xH2->x4k o.isSome s'):
  WN[compareOp .In u AO] Q E s:=by
 rcases g with⟨QN,k,e,ey,l⟩|⟨QN,k,b,e,ey,eb,l⟩
 ·show(xNQ,xAz z hd vs dd[x3s e],wpAny_in_of x5f hd dd.mapOf ?_,xF5[x0M k] l[X3 AK])
 ·show(xNQ,Sx xK7 ry,xAz z hd xs dd[x3t e],wpAny_in_heap x5g x6r hd dd ?_,Dd q[x0M k] PX q,xF5 q l[X3 AK])
def xbI {σ:St}(hu:xOf 1)(I:Wp)(g:U6 H a y o)(ry:VL)(h:∀s',xH2->x4k[! o.isSome] s'):
  WN[compareOp .NotIn u AO] Q E s:=by
 rcases g with⟨QN,k,e,ey,l⟩|⟨QN,k,b,e,ey,eb,l⟩
 ·show(xNQ,xAz z hd vs dd[x3s e],wpAny_notIn_of x5f hd dd.mapOf ?_,xF5[x0M k] l[X3 AK])
 ·show(xNQ,Sx xK7 ry,xAz z hd xs dd[x3t e],wpAny_notIn_heap x5g x6r hd dd ?_,Dd q[x0M k] PX q,xF5 q l[X3 AK])
def xm0 {σ:St}(I:Wp)(mu:Mut Υ)(hs:xSY a h')(he:∃q,p6 a q)(new:xLK[xGJ ob] h' a ob):
  oa[xGJ ob] cv:=
 yeJ mu[λ b q hb z=>xIZ hb z] he new
def xcz (z:xFe)(hd:xJL)(rel:iH)(dd:h'.DictOf[xxA P w] a vs):
  xMn H' h' a dF:=(z,hd,vs,rel,dd)
def xgP {σ:St}(hu:xOf 1)(I:Wp)(g:DPut H a y v H')(ry:VL)(rv:RelV v r)(h:∀s',mn->xYG):
  WN[setItem AO u r] Q E s:=by
 rcases g with⟨QN,k,e,ey,l,eH⟩|⟨QN,k,b,e,ey,eb,l,eH⟩
 ·subst ey eH;show(xAz z hd vs dd[xdF I.hok e],A3 hz[xF vs.length][Bg rel.length z] hl[yeI xOm][by have:=f8 QN k v;show ED [_,_,_] xGW yp SL l this][wpAny_setItem_pairs x5f dd λ h' dd' hs=>x8h],DC he[∃q,p6 a q][let(q,_,_,hq,_):=dd';xPO hq][xm0 I ybN hs he[xcz hl hd[rel.put k rv] dd']])
 ·subst ey eH;show(Sx xK7 ry,xAz z hd xs dd[xdt I.hok e],A3 hz wx[Bg[Paired.length rel] z] hl[yeI xOm][by have:=f8 QN k v;show ED [_,_,_] xGW yp SL l this][wpAny_setItem_heap x5g x6r dd λ h' dd' hs=>x8h],(q,es,ep,hq,h2,h3,h4,_,h5)=dd',xm0 I ybN hs[xPO hq] (hl,hd,_,(rel.put k eb rv).keeps[Μ c ys ec],q,es,ep,hq,h2,h3,h4,h5),Δ[aJ ec e Ab] ec)
def xjD (i:QA):Prop:=∀ov iv,x00 i ov iv=ycj [ov,iv] ov iv
def xbV {T id:String}
  (hl:ygL x27=pure[xTf id]) (hs:xjD slice)
  (h:nD[eG value][λ o s₁=>nD[eG slice][λ i s₂=>s₂.TypeIs o T/\xFM[getItem o i] s₂] E s₁] E s):
  uc[eG[xE8 value slice]]:=by
 show(zJ[Subscript_[ZW h[λ o s₁ h₁=>ZW h₁[Μ i s₂ h₂] x x] x x]] hT h₂ h₂,gD subscriptTail ?_,mw[getitemInPython_of_ne hT.not_modules][wpAny_specialOf hT hl ?_],(fin:nD[x00 slice o i][λ r s₃=>xFM[letTemporaryGo value o r>>= λ _=>pure r] s₃] E s₂)=LT[hs o i][wpAny_operating[ZW h₂[λ r s₃ h₃=>IX[wpAny_letTemporaryGo[Jr h₃]]] x x]])
 first
  |show Bw[IX fin]
  |exact xHp[IX fin]
  |exact IX fin
def xgp {σ:St}(I:Wp)(g:U6 H a y o):s.TypeIs AO "dict":=by
 rcases g with⟨QN,k,e,_,_⟩|⟨QN,k,b,e,_,_,_⟩
 ·show ydE vs dd[x3s e] dd.typeIs
 ·show ydE xs dd[x3t e] dd.typeIs
def xdW (td ty:TE):TE:=λ σ H Q=>td σ H[kI x[ty σ H1[jh y[∃a v,x=AO/\U6 H2 a y Ha/\Q v H2]]]]
def xd8 (ty td:TE):TE:=λ σ H Q=>ty σ H[kI y[td σ H1[jh x[∃a o,x=AO/\U6 H2 a y o/\xSQ o.isSome H2]]]]
def xbp (ty td:TE):TE:=λ σ H Q=>ty σ H[kI y[td σ H1[jh x[∃a o,x=AO/\U6 H2 a y o/\xSQ[! o.isSome] H2]]]]
def xdX (td ty tv:TE):TS:=λ D σ H=>tv σ H[kI v[td σ H1[jh x[ty σ H2 λ y H3=>∃a H4,x=AO/\DPut H3 a y v H4/\xSW H4]]]]
def xaM (hu:xUk 1)(ho:xDy td)(hi:AN i ty)(hs:xjD i):AN[xE8 o i][xdW td ty]:=by
 intro QD s σ H Q I h;show(xbV PySem.F.slot_dict_getitem.lookup hs[thn[aR s H _ I h] λ u s1 ⟨x,H1,I1,rx,q1⟩=>Hv[xI1 s1 H1 _ I1 q1] iv s2],(y,H2,I2,ry,a,v,ex,g,q2)=z9,WR[u=aI],AU[xgp I2 g][xgZ hu I2 g ry λ w' s3 I3 rw'=>(v,H2,I3,rw',q2)])
def xc1 (hu:xUk 1)(hi:AN i ty)(ho:xDy td):xuH X .In i o[xd8 ty td]:=by
 intro QD s σ H Q I h;show(thn[xI1 s H _ I h] λ iv s1 ⟨y,H1,I1,ry,q1⟩=>Hv[aR s1 H1 _ I1 q1] u s2,(x,H2,I2,rx,a,ov,ex,g,q2)=z9,WR[u=aI],xd6 hu I2 g ry λ s3 I3=>sP[.bl ov.isSome] H2 I3 q2)
def xiw (hu:xUk 1)(hi:AN i ty)(ho:xDy td):xuH X .NotIn i o[xbp ty td]:=by
 intro QD s σ H Q I h;show(thn[xI1 s H _ I h] λ iv s1 ⟨y,H1,I1,ry,q1⟩=>Hv[aR s1 H1 _ I1 q1] u s2,(x,H2,I2,rx,a,ov,ex,g,q2)=z9,WR[u=aI],xbI hu I2 g ry λ s3 I3=>sP[.bl[! ov.isSome]] H2 I3 q2)
def xqd (hu:xUk 1)(ho:xDy td)(hi:AN i ty)(hv:AN value tv)(hs:x3J value[some[ykG i pos']]=xUg):
  xL1 [ykG i pos'] value pos[xdX td ty tv]:=by
 intro QD s σ H D I h;show(wpAny_Assign_Subscript[thn[hv QD s σ H _ I h] λ r s1 ⟨v,H1,I1,rv,q1⟩=>thn[aR s1 H1 _ I1 q1] λ u s2 ⟨x,H2,I2,rx,q2⟩=>Hv[xI1 s2 H2 _ I2 q2] iv s3] hs,(y,H3,I3,ry,a,H4,ex,g,q3)=z9,WR[u=aI],xgP hu I3 g ry rv λ s4 I4=>xCo H4 I4 q3)
def xax (h:Qz)(hb:ydH sysModules):xMn H[h.push[xEx "dict"[.dict #[]]]] h.objs.size d4:=
 (B1,MU.mpr[MJ[Kf hb]],[],.nil,_,#[],0,BH,ni rfl rfl,rfl,rfl,List.nodup_nil)
def xcZ:TE:=λ _ H Q=>∀p,Vu->lR[zB p d4]
def xmH:AN[.Dict [] [] pos] xcZ:=λ QD s σ H Q I h=>
 wpAny_Dict_empty[ya qx[I.laid[xTc TM] ρ[xax s.heap I.big]][X3 Am]]
def xjw {K:Frag}{g:TG}{tb:TS}{D:Ends}(Pv:xYv)(h0:E1 0)(hl:∀i σ H,WH->T2->VH)
  (hs:∀i x p σ H,ue->Vu->T2->g FR σ[Hf H p [x4N,x]][Ry D[Pv[i+1]][Pv[i+1]]]) (hd:∀σ H,yky->tQ):
  Ek EE[xYP H/\∀i m σ H,xYO H->
   (ik xHM H/\tQ)\/(gX xHM H/\∃N,uN[xPo->bY[m'<m/\xZC[i+1] H']]/\uq x[YA xHM H x H'->xYJ[Ry D N N]])]:=by
 show yI[λ i m σ H=>m=xQV/\WH/\T2] (xs.length,Z6,B1,h0);rintro i m σ H ⟨rfl,hi,p⟩;show YC[xDh σ H hi p];by_cases QF:rQ
 ·show(ja (xs,xs[(i)],q,xVn)[Pv[i+1]][λ σ' H' p'=>jE[p9[i+1]] we QF p'] xXC,(p1,x1,RD,e1,e2,y)=y);subst e1 e2;exact xDi x1 p1 σ _ xXK RD p
 ·show HP xN8 xBA[Zp[xHv q ρ][hd σ H p]]
universe L2
namespace K27.C
open PySem L2 QQ C9 C10
seal PE PA PS PSs PT PW PG PI
def iA (R:LE):sR=yeE x2H:=Ar K1
def IsL (H:Hp)(x:V)(L:LE):Prop:=∃a,x=AO/\Υ=xO/\∀l∈L,ua l
def xyF (H:Hp)(x:V):BY x9J
 |none=>SE x
 |some c=>X6[x=Z1/\Y8 [vN ax,vN ZP]]
def xxR (H:Hp)(xs:Sy)(cs:yfg):Prop:=xU9 cs.length/\∀(i:Nat) x c,ue->x7W->xyF H x c
def xyF.keep {H H':Hp}(h:xyF H x c)(k:∀t ys,Y8 ys->jB[H' t] ys):xyF H' x c:=by
 cases c with
 |none=>show j8
 |some c=>show ZQ t e z h t e[bD z]
theorem xxR.keep (h:gW H cs)(k:∀t ys,Y8 ys->jB[H' t] ys):gW H' cs:=(EO,λ i x c h1 h2=>(bw i x c h1 h2).keep k)
theorem xxR.set {H:Hp}(h:gW H cs)(hy:xyF H y d):xxR H[xs.set p y][cs.set p d]:=by
 show ZU[XV My My EO][λ i x c h1 h2=>?_];by_cases e:p=i
 ·show(DD,UN hp[xEK p][by
   have:=x8c
   rwa [My] at this][KO hp] h1,AQ[KO[Bg EO hp]] h2 h1,CR h2 hy)
 ·show(tB[Mc e],bw i x c h1 h2)
theorem xxR.none (H:Hp)(n:Nat):xxR H[xv1 .non][xv1 none]:=by
 show(ZU[by rw [JQ,JQ]][λ i x c h1 h2=>?_],tB MF)
 split at h1
 ·show(xAJ,AQ[Ju[by assumption]] h2 h2);rfl
 ·show xAJ
def ndL:HJ ["length"]:=Z8
inductive spRoom (vs:Sy) (H:Hp) (Q:VK) (QL:XK):Prop
 |mk (a:Qq) (L:LE) (h0:vs=F5) (h1:Υ=xO) (h2:uB l L[ua l]) (h3:x6X) (h4:xBN[fo L]):spRoom vs H Q QL
def xcB:XL Jah Jah AC:=Tm
abbrev xju:TE:=bF xuS[i*xWV 2] xOK[xN7[i-j][vz 12] gF]
abbrev xp8:TT:=jd[Mh[λ i j=>Rh j i] gF xV3]
def xcc (F:Ο "room_taken" AC Jah)(T:Df):vn Jah spRoom:=by
 show(Zq tm hm T.mlen xcB[λ QE A outer s H vs Q E hr h=>?_] _,XT a L rfl hL hb hl300 k,hn=xzY,Gw[Gz[yiM[xm7 hn] T.sum[BO[xtT (N:=["length"]) (g:=IF) (tt:=xp8) (te:=xju) rfl rfl Z8 Z8 Z8 x6g
   (λ fp s H=>VG ndL)[λ fp s H=>FW xwV Η][λ fp s H=>xYN[y4 xWx Η]]]]]][m9 a hL Ex][xn0 (K:=K) (a:=a) (l:=l) (xs:=sZ) (n:=1) (g:=IF) (tt:=xp8) (te:=xju)
  (λ i ys H'=>ys=A5[XW[xGh[L.take i] b b] b[2^(12-b)]]/\B0=de/\Χ)[xBq ad xwI][λ i ys H' _ z9=>by show(xKw sm,rW[y9 hL])] ?_ ?_ ?_ ?_ ?_])
 ·rintro i x ys σ H' hx ⟨rfl,hl,sm⟩ hσ;show(Dr b Rl[dZ hx],υ hb12[qN x48] Su[pB i] x7F,vk u0 u0[σ=[u0]][match σ,hσ with| [u0],_=>Gs u0],SC hlen[xOD[xGh[L.take i] b b]][IY[NO _ _][Gb[xMJ hl300]]][u7 _ rfl _ _ _ rfl ?_],[xwW Rl,JN])
  try dsimp only
  by_cases h0:0<b
  ·show Γ[Ju[IZ[Eo FX iw yde]]] (_,rfl,_,_,rfl,rfl,_,_,rfl,rfl,(Z5,Z5,Z9),hl,bW[zD IS[uJ hlen]],rfl,?_,ad,fK c o)
   ·show([JL xTV,Ji,Ji],VT[Il*2^xa[A6 12] iw=ST[2^(12-b)]][nQ[show xa[A6 12] iw=12-b by lia] Qo])
    try dsimp only
    show Ar e1
   ·show Ye xHI
  ·show iR[Wg[Jd z] Z5][xPS ?_ ?_ sm]
   ·show Di[JU xTV]
   ·exact hl
 ·rintro ys H' ⟨rfl,hl,sm⟩;show(xBQ Ki iA hl,DK[yW l x22 ?_] e[(ky[XW[xAA b[HY 0 b]] b[2^(12-b)]]).sum=ST[fo L]][by
   unfold krf;generalize XW[xAA b[HY 0 b]] b[2^(12-b)]=Y
   induction Y with
   |nil=>rfl
   |cons y Y ih=>simp only [KH,MZ];show Di ih],WQ[Ey sm])
 ·exact λ x σ H A B h z=>tM
 ·exact λ σ H A B h z9=>by show((v,e1,i,j,e2,e3,c,e4,z)=z9,(v,e1,i,j,e2,e3,c,e4,tM))
 ·exact λ σ H A B h z9=>by show((v,e1,i,j,e2,e3,i2,j2,e4,e5,c,z)=z9,(v,e1,i,j,e2,e3,i2,j2,e4,e5,c,tM))
inductive xkk (vs:Sy) (H:Hp) (Q:VK) (QL:XK):Prop
 |mk (x:V) (L:LE) (h0:vs=Dt) (h1:IsL H x L) (h2:gn) (h3:vi):xkk vs H Q QL
def xh5:XL Jah Jah xym:=Tm
structure Lns (K:Frag)(mg:Ι):Prop where
 X:Df
 whole:xZF
 arewhole:ydp cY Jaa
 things:Ν "are_of_things" xxd xAr
 room:Ν "room_taken" AC Jah
def xha {P:Qv}{w:Qw}(F:Ο "need_lengths" xym Jah)(Y:Lns K mg):xB7 Jah xkk:=by
 show(ygp T W AW Th Ro,Zq tm hm T.mlen xh5[λ QE A outer s H vs Q E hr h=>?_] _,(x,L,rfl,(a,rfl,hB,hb),G,k)=h,gp[ac[xHs[Iw[S.xk8 Th AW W T] Th[nj 0 xWx]]]
  (ae[yn[qO[oV[xcc Ro T] Ro 0][xYN xWx]]])] (_,rfl,a,L,12,rfl,hB,hb,G.ne,G.le,G.some,_,rfl,x7G),ω[Q6 _ rfl a L hB hb G.le[UF H' s1]] (_,_,rfl,rfl,(Z9,Z9,Z9),_,_,rfl,rfl,_,rfl,xMP h[Ey s1]));exfalso;show(xGL,υ g G.room e[Il*2^(A6 12).toNat=4096] Z9,xKe e[mh DU[m8[AS[.n 4096]]][HS 4096][IP xwJ g]])
def xmf {α:Type}(x:α)(k):BC k Dt=yaB k:=by
 induction k with
 |zero=>rfl
 |succ k ih=>show kh KG Ky ih KG
def xaW (hl:x6X)(hj:ua j):Cn≤1228800:=by
 show(DF h[xjT L j] h1[2^j≤2^12][xB3 hj] h2[L.length*2^j≤300*4096][Nat.mul_le_mul hl h1],ED [_,_,_] xF2[Aw[.m 300[.n 4096]]][.n 1228800] h h2)
def xbf (L)(j):zC 0[j+1]=2*Cn:=Di wS
def ixN_nat (h:i<n):TD[ixN n wy] i:=by
 show(Fq ixN x7m,Rj)
inductive xkI (vs:Sy) (H:Hp) (Q:VK) (QL:XK):Prop
 |mk (x:V) (L:LE) (h0:vs=Dt) (h1:IsL H x L) (h2:gn) (h3:∀l xs H',Bv->Χ->B0=Fh->gW H' xA6->B8):xkI vs H Q QL
def xwn:XL ["lengths","codes","code","size","place","length"] Jah xtM:=Tm
def xkX {P:Qv}{w:Qw}{mg:Ι}{base:Qz}{f fN:Qq}{fd Xd:Qx}(F:Ο "codes_of" xtM Jah)(N:Gg "need_lengths" xym Jah fN Xd)(Y:Lns K mg):xYj Jah xkI:=by
 show(xYU,Zq tm hm T.mlen xwn[λ QE A outer st H vs Q E hr h=>?_] _,(x,L,rfl,(a,rfl,hB,hb),G,k)=h,gp[Fm[oV[xha N Y] N 0][DS 1 xwn.nd[xOu[BO xwU] iJ][DP 2 xwn.nd ag[nK[yeB Z7[Mk[xS xWx]]] 3 xwn.nd[DS 2 xwn.nd[zP xwS Ζ][ae[x0v[xq8 Z7 T.enum gP][xNc[pN 4 xwn.nd[pN 5 xwn.nd im]]][xQg[qo qK AZ][ac[xyU[cx xEc][o0 τ Bb xtG]]
     (eI 2 xwn.nd x5K)]]]]]] τ]]][VM _ L[VC a hB hb] G[λ H1 s1=>A1]],χ RV G.le[yD[nU TY l0 n0]],B9 s2[Dn [.non] n0] (_,rfl,a,_,rfl,BN[xXu hB],l0,_,_,rfl,rfl,ad,Oe[2^63] _,Gk[xn[sk RV]],(zD JH[bV[by show 1*_≤_;show yr 300[x9 1] Bc RV]]),xRi),υ s3[Dn xUF nl] ez[xVO[pf sZ] [V.non]=xUF][EP JH xmf])
 try dsimp only
 show([ez],Sc Td[(IJ[Fj H1 l0 [.non]] xUF) l=Az xUF] ad nlH Bv[Fd Fy],YM=xLT s3,Cz[IJ[Fj H1 l0 [.non]] xUF] H3 bL,Aj,Bu[F1 _ _ rfl 1 13 rfl (Z5,Z5,Z5,Z5) ?_],(en:xa[A6 13] 1=12)=Z9)
 try dsimp only
 show Γ en[xPI 1 12[λ j σ H2=>∃v3 v4 v5:EY,∃xs:Sy,σ=[BL,qB,Α Cn,v3,v4,v5]/\Vw=Fh/\gW H2[xA9 j 0]/\yi][Hx none none none _ Td[LT xih[xxR.none _ _]] YM] ?_ ?_]
 ·clear g1 Td YM s3 nl;rintro j σ H2 hj ⟨v3,v4,v5,xs,rfl,Q0,hC,sm⟩;have eb:Il+xPP=qU j:=(xJ9[Y6 UI] SB UI)
  try dsimp only
  show([eb],hes=xaW RV[show ua j from x6J],ZT g2[VM _ _ rfl[xP9[Bf[xI [] Hc AM]][xI [] AM SW] Z5] bf],YK,(ec:ST Cn*2^x2U=ST[zC 0[j+1]])=xIE xbf[CA[x2U] 1])
  try dsimp only
  show Γ ec[ZC a[QK.of[y9 hB]][xjw (D:=Ws) (K:=K) (a:=a) (xs:=sZ) (λ p σ H'=>∃v4 v5:EY,∃xs:Sy,σ=[BL,qB,Α[xDt[j+1]],Α[j+1],v4,v5]/\B0=Fh/\gW H' xPL/\Χ)
   (Aa v4 v5 xs Q0 hC sm)[λ i σ H' _ z9=>by show((_,_,_,_,_,_,e)=z9,rW[e _ _ hB])] ?_ ?_]]
  ·rintro p y t σ H' hp ht ⟨v4,v5,xs,rfl,Q0,hC,sm⟩;show(Dr b Rl[dZ hp],eN Rv[pB p] x7F st[Zj [xDp,qR] ht],ω (t,_,rfl,x3u,rfl,_,_,rfl,_,_,rfl,rfl,?_)[VM _ rfl _ rfl iM])
   ·show VT[b=j+1] yd0;rw [e1] at Rl st ⊢;show(HV g3[y3 _ ye[UF q nq]],Tl sq[Zj [vN[xDt[j+1]],vN[j+1]] nq] hlq[sq _ _ x7c],SC hCq[gW _ xPL][hC.keep λ t ys e=>sq _ _[GQ e]] (_,rfl,_,rfl,l,xs,_,p,rfl,rfl,hlq,ixN_nat[XV hC.1 xzH Rv],g3 _ _ ?_));clear g3;show DK xC8 ec2[ST[xDt[j+1]]+1=ST[zC[p+1][j+1]]][LT[xmA Rl][xKo cb cb]]
    try dsimp only
    show Γ ec2[Aa oz[Α[j+1]][xs.set p ig] ad ?_[fK c o]]
    ·show(Γ[xb9 Rl][(hCq.set (y:=ig) (d:=some ((xDt[j+1],j+1))) (Ef q ad)).keep[fK t2 ys]],Δ[xDl hlq A2] e)
    ·show Eh nlH[sq _ _[GQ xHI]]
   ·show SC e1[jT L[p]?[j+1]][by
     show([Rl],A2,h1 gU)] (oz,yL,xs,?_,x7c,?_,sm.trans st)
    ·show Ar[xh4 e1]
    ·show LT[xie e1][hC.keep λ t ys e=>GQ e]
  ·rintro σ H' ⟨v4,v5,xs,rfl,Q0,hC,sm⟩;rw [IS] at hC ⊢;show([xmT],Ε xaj hC[Hx _ _ _ xs Q0 hC sm])
 ·rintro σ H2 ⟨v3,v4,v5,xs,rfl,Q0,hC,sm⟩;exact xOh[Wb xs H2 nlH sm Q0 hC]
def u1 (r:mr A):xOf 1:=by show(xMb,tS [_,_,_][xHK[XY 16]] PL this)
abbrev kk (a b:Nat):xTh:=[.inl[ST a],.inl iw]
def xzl:xRz=kk c d<->a=c/\b=d:=by
 constructor
 ·intro h;injection h with h1 h2
  show xAE h2 h2
  injection h1 with h1
  injection h2 with h2
  show AU[xCH[xRN[IR[pU h1]]][xGw[pU h1]]][xCH[xRN[IR[pU h2]]][xGw[pU h2]]]
 ·rintro⟨rfl,rfl⟩;rfl
def xjG:¬(ycT x1P):=Z8
def fC (d e:Qq):ug:=[(("things",Ed)),(("beginnings",yw))]
def jo (d e):BG "beginnings" e xRg=qF:=zG[DY[ycT x1P][Hm x1P d:: [Hm "beginnings" e]]=_][Jk xjG]
def xo8 (d e):lh qF "things"=zm:=by
 rw [<-jo,ar,Jk xjG,ar,CD]
def xi2 (d e):lh qF "beginnings"=π e:=xHg jo ar
def fC_no (d e){m:Str}(h1:pz[ycT m])(h2:pz[m="things"]):o4 qF m:=by
 rw [<-jo,ar,Ru,ar,Rg];rfl
def xf1 (L:LE)(n:Nat)(QN:xO4):Prop:=YJ QN.length/\∀a b,EN q[q<n->xv q b->Hh->xGI b=a->TD[xGY a b][vN q]]/\(EN q[q<n->xv q b->Hh->xGI b≠a]->Θ[xGY a b])
def xgy (L:LE)(n:Nat)(QN:xO4):Prop:=QN.length≤12*n/\∀a b,FY[xGY a b]<->∃q s,q<n/\rI/\b<s/\xDH/2^(s-b)=a
structure xy4 (C:Qq)(H:Hp)(p d e:Qq)(L:LE):Prop where
 ob:∃dx,G5 qF
 th:∃QN,pG d Mg/\xDm L.length QN
 bg:∃QN,pG e Mg/\xDn L.length QN
structure CRc (K:Frag)(mg:Ι)(C:Qq):Prop where
 cl:Es
 nT:f9 "things"
 nB:f9 "beginnings"
inductive spKeep (C:Qq) (vs:Sy) (H:Hp) (Q:VK) (QL:XK):Prop
 |mk (p d e dx:Qq) (c s:Nat) (QN:xO4) (h0:vs=[FR,Vz,Iq]) (h1:G5 qF) (h2:pG e Mg) (h3:QN.length≤5000) (h4:ua s) (h5:∀H' U3,TD[H' e][.dT U3]->yeX[x3U s]->(∀a b:Nat,FY[du U3 xRz]<->FY[xGY a b]\/(b<s/\c/2^(s-b)=a))->qC x[lj x->x≠e->xED x]):spKeep C vs H Q QL
def scKeep:XL ["self","code","length","size"] ydZ xuc:=Tm
def xbz (F:Bq "keep_beginnings" "CodeReader.keep_beginnings" xuc)(T:CRc K mg C)(X:Df):eg ydZ[spKeep C]:=by
 show(D2 scKeep[λ QE A outer st H vs Q E hr h=>?_],(p,d,e,dx,c,s,QN,rfl,hp,he,hl,hs,q)=h,(npe:p≠e)=xXR he A2,jJ[nK[xIb AP] 3 scKeep.nd[ae[xqd xVW B5[cx[aa[ao xxY τ[y4 Ζ AZ]][sf 3]]] cu rfl]]][Aa _ rfl[ST s] Z4 Z4 ?_])
 try dsimp only
 show Γ JH[xPI 0 s[λ i σ H2=>∃v U3,σ=[u5,xJh,Α s,v]/\TD[H2 e][.dT U3]/\yeX[x3U i]/\
   (∀a b,FY[du U3 xRz]<->FY[xGY a b]\/(b<i/\c/2^(s-b)=a))/\∀x o,lj x->x≠e->xKC x] (none,QN,rfl,he,(Fv Re xHE),λ a b=>(.inl,SZ[z.elim id[Wg u6 x5z]]),λ x o e _=>e) ?_ ?_]
 ·rintro i σ H2 hi ⟨v,U3,rfl,YX,Q0,hv,Ts⟩;have ei:FX+wy=wy:=(xJ9[Fv kM Re] Re kM)
  try dsimp only
  show([ei],Vk Q1[Ts _ _ hp npe] (_,rfl,p,C,dx,_,_,rfl,Q1,T.cl,T.nB,xi2 _ _,?_) (_,rfl,_,rfl,_,rfl,_,_,rfl,rfl,_,_,rfl,rfl,(by show FX≤ST s-wy;lia),_,rfl,ye,UF t nt),VT[ST c/2^xa[ST s] wy=ST[c/2^(s-i)]][Di[show xa[ST s] wy=s-i by lia]])
  try dsimp only
  show(dG,(net:e≠t)=ai YX nt,ω[yW e[DPut.t (b:=t) (k:=kk[c/2^(s-i)] i) (Δ net YX) ad[sk[um _ 6000[G6 [_,_,_,_][Ξ[Aw[ZH Re]]][BZ 5000[xYa[Aw WO]]][.n 6000] hl hs[IP hi Q0]]]]] ?_] (_,_,rfl,ad,IY[f8 _ _ _][EZ Re Φ SB yp Q0],UF a b,λ x o ex hx=>?_))
  ·rw [xr2];by_cases c1:xRz=kk[c/2^(s-i)] i
   ·show(w6 c1,zN[xzl.mp c1],AU[x20[Gs[cb]]] QO)
   ·show Wf c1 hv;constructor
    ·rintro(z|⟨z1,z2⟩)
     ·show DZ z
     ·show DM ((Dh SB SL SB Β z1),z2)
    ·rintro(z|⟨z1,z2⟩)
     ·show DZ z
     ·show(x4 ?_ z2,iq b i h h)
      ·show j8
      ·show(xQ[b=i][xCH[xX SB Β Re z1] h],E9[xzl.mpr[Gs z2.symm]] c1)
  ·show(eK[Ts x o ex hx],XV[aj hx][xIo h1 nt] h1)
 ·rintro σ H2 ⟨v,U3,rfl,YX,Q0,hv,Ts⟩;exact Ww _ YX Q0 hv Ts
def xb7 (L):xDm 0 []:=ka ρ a b (rV q hq hq x5z,QO)
def xcp (L):xDn 0 []:=by
 show(ZU B1[λ a b=>(Hy h,λ z9=>by show((q,s,hq,_)=z9,E9 hq x5z))],xy)
def xbW (h:xDm n QN)(h0:∀s,xv n s->¬qV):xDm[n+1] QN:=by
 show(ZU[IY EO bG][λ a b=>(λ q hq hb h1 hc=>?_,λ hn=>(bw a b).2 λ q hq=>hn q[Dh SB SL SB Β hq])],yB q n)
 ·exact(bw a b).1 q z hb h1 hc
 ·show(xQ[q=n][xCH[xX SB Β Re hq] z],E9 h1[h0 b hb])
def xb2 (h:xDn n QN)(h0:∀s,xv n s->¬qV):xDn[n+1] QN:=by
 show(ZU[IY EO[Fv[x9 12][xC2 12]]][λ a b=>x6 h a b (λ z9=>C5 q s hq r z9 (q,s,(Dh SB SL SB Β hq),r),Hy z9)],(q,s,hq,h1,h2,h3)=z9,yB q n)
 ·show Z0 q s z h1 h2 h3
 ·show(xQ[q=n][xCH[xX SB Β Re hq] z],E9 Z4[h0 s h1])
def xdk (h:xDm n QN)(hs:xv n s)(h1:qV):xDm[n+1][putK QN[kk[zC n s] s] F6]:=by
 show ZU[IY[f8 _ _ _][by have:=EO;show Ay [_,_] Re SL SB Β this]][λ a b=>(λ q hq hb Rl hc=>?_,Hy hn)]
 ·rw [xr2];by_cases c:xRz=kk[zC n s] s
  ·show(zN[xzl.mp c],[CD,xjy hb hs hc])
  ·show(w8 c,yB q n)
   ·exact(bw a b).1 q z hb Rl hc
   ·have:q=n:=xCH[xX SB Β Re hq] z;show(FD this hs hb hb,E9[xzl.mpr[Gs hc.symm]] c)
 ·rw [xr2,Jk]
  ·exact(bw a b).2 λ q hq=>hn q[Dh SB SL SB Β hq]
  ·intro c;show j6[xzl.mp c][hn n cb hs h1 rfl]
def xds (h:xDn n QN)(hs:xv n s)(hs12:ua s)(hl:yeX[x3U s])
  (hv:∀a b:Nat,FY[du U3 xRz]<->FY[xGY a b]\/(b<s/\zC n s/2^(s-b)=a)):xDn[n+1] U3:=by
 show(ZU[by have:=EO;show DE [_,_,_,_] gs[xYa[xIf[Zv 12]]] Re[.m 12 Β] hs12 hl this][λ a b=>(hv a b).trans ?_],[bw a b]);constructor
 ·rintro(⟨q,r,hq,z⟩|⟨z1,z2⟩)
  ·show E3 q r[Dh SB SL SB Β hq] z
  ·show Z0 n s[cb] hs z1 z2
 ·rintro⟨q,r,hq,z1,z2,z3⟩;show yB q n
  ·show DZ (q,r,z,z1,z2,z3)
  ·have:q=n:=xCH[xX SB Β Re hq] z;show(FD this hs z1 z1,DM (z2,z3))
inductive spCInit (C:Qq) (vs:Sy) (H:Hp) (Q:VK) (QL:XK):Prop
 |mk (p dx a:Qq) (L:LE) (h0:vs=Tr) (h1:xO2) (h2:Υ=xO) (h3:gn) (h4:∀(d e:Qq) (H':Hp),B7 d->B7 e->uF H'->qC b[zc->jR->rq]):x2s vs H Q QL
def scCInit:XL ["self","lengths","place","pair"] yaA sCInit:=Tm
structure Mks (K:Frag)(mg:Ι)(C:Qq):Prop where
 X:Df
 Y:Lns K mg
 need:ykU xym
 cof:Ν "codes_of" xtM Jah
def bt (R:LE):Au:=BP.dig xAP C8
def xxM (R):BD xEG C8:=BP.QS _ _
theorem xpu (n):∀m i,i<m->AD[BP.dig n m][CG[n/2^(m-1-i)%2] 1]
 |m+1,0,_=>by
  show xWL _ _;rfl
 |m+1,i+1,h=>by
  show(BP.dig n m)[i]?=_;rw [xpu n m i[xX PL Β SB h],show m+1-1-(i+1)=m-1-i by show BW[G6 [_,_,_,_,_,_][Vv[BE[xJx xMX]]][kx Φ 5[ZH Rn]] SL W1 W1[xVx[NL.J'[Y6 AM]][CM [_,_,_][.a PL Β][gK xi] SB Uf h W1]]][Bx [_,_,_,_,_,_][Gh[ZH[xEA 5 Φ]]][kx xMX 4[BE nV]] SL Re W1 W1[xVx[DI [_,_] PL Β AM SL h][Dg [_,_,_][IM PL][gK xi] Uf h W1]]]]
def xcu (h:t+s<C8):∃b,x25[s+1]=xCx++Wz/\xAP/2^(C8-(t+s+1))%2^1=b.toNat:=by
 show yI[CG[xAP/2^(C8-1-(t+s))%2] 1] ?_
 ·show([Kj,L6],xG6 bt[xpu _ _ _ h])
 ·show([show C8-(t+s+1)=C8-1-(t+s) by show BW[G6 [_,_,_,_,_,_][Vv[xPk[Ρ x5r]]][kx xBt 5[HD Rn]] SL W1 W1[DI [_,_,_] rS EG rS EG h]][Bx [_,_,_,_,_,_][xPk[xEA 5 xBt]][xHq x5r[xPk nV]] SL Re W1[DI [_,_,_] rS EG AM EG h][NL.J'[CM [_,_,_,_][.a rS EG][xo dQ] WF Cv h W1]]],Nat.pow_one],h2=KB[xAP/2^(C8-1-(t+s))][Eo 0 2 Z9]);by_cases c:xAP/2^(C8-1-(t+s))%2=1
  ·show Ai[IZ c] c
  ·show EF[Kh c][_=0];lia
def xd7:¬(x1P="held"):=Z8
def xy4.keep (h:uF H)(s:∀c o,Ψ->(c=p\/c=d\/c=e)->Cf):uF H':=by
 show(((dx,h1),(k1,h2,W2),(k2,h3,h3'))=h,Dj[o3[xXt bK]] (k1,x8k h2 bK,W2) (k2,x8k h3 xFP,h3'))
def xy4.same (h:uF H)(s:Χ):uF H':=h.keep λ c o e _=>xPE
def xbG (h:xDn L.length QN)(u):FY[yd2 ycU]<->xYM u:=by
 rw [bw];constructor
 ·rintro⟨q,s,_,h1,h2,h3⟩;show xJ8 q s h1 h2 h3
 ·rintro⟨q,s,h1,h2,h3⟩;show Z0 q s x8c h1 h2 h3
def xcf (h:xDm L.length QN)(u):EN q[Q3 u q->TD[yd2 ycU][vN q]]/\(EN q[¬Q3 u q]->Θ[yd2 ycU]):=ZU[λ q ⟨h1,h2,h3⟩=>(bw _ _).1 q x8c h1 h2 h3][λ hn=>(bw _ _).2 λ q _ h1 h2 h3=>hn q (h1,h2,h3)]
def xy9:XL ["self","reader","begin","code","size"] yaO xvR:=Tm
universe K27.C
namespace K27
open PySem L2 QQ W17 W16 BP
def th:Rp Pc
 | .sg s=>s
 | .cp _ z=>xPH
def cP (L:LE):Pc->B4
 | .sg s=>[((xEP s dX,dX))]
 | .cp b z=>[((xEP xPH xZY,xZY)),((b,8))]
def hP (L:LE)(P:M'):B4:=P.flatMap xBR
def cn (Q:LE):LE:=xFR[EA xLO]
def xhJ (L)(P Q:M'):U9[P++Q]=U9 P++U9 Q:=by simp [hP]
def xqA (L)(x)(P):U9[x::P]=xBR x++U9 P:=by simp [hP]
def xcQ (L)(x:Pc):U9 Dt=xBR x:=by simp [hP]
def xxq (Q:LE):BD Ub 272:=by simp [cn]
theorem GR.all:cj P B[GR B P][Ic P[∃B',gz B' x]]
 |y::P,B,h,x,hx=>by
  show rg hx hx
  ·show AU B EO
  ·exact GR.all bw x hx
def xoh (h:gz B x):th x<272:=by
 cases x with
 |sg s=>have:By s:=h;show dC[s<272][sk[Jy this]]
 |cp b z=>
  obtain⟨_,_,_,_,h5⟩:Hh/\xDJ/\sC b/\aP/\SY:=h;show xPH<272;show yr 18[AS xMt] xV h5
structure TOk (L:LE)(Pp:M'):Prop where
 good:xAF
 len:Gq
 six:E5 L[b≤6]
 has:Ic Pp[AL[eJ x]]
def TOk.at (h:xC7)(hx:x∈Pp)(g:gz B x):xv[th x][eJ x]/\AL[eJ x]/\eJ x≤6:=by
 show(Sc hl[pB[th x]][LT h.len[xoh g]] e[xv[th x][eJ x]][Yy[IW hl]],Dj e[h.has x hx][h.six _ xIn])
def xco (h:xC7)(g:GR W Pp):Good xFV:=λ q hq=>by
 show((x,hx,hq)=P8.mp hq,(B',gx)=g.all x hx,(e1,e2,e3)=h.at hx gx,cl=C10.cd_lt h.good e1 e2);cases x with
 |sg s=>
  show LT[JC.mp[Dx q [((xEP s dX,dX))] hq]] cl
 |cp b z=>
  show rg[Dx q [((xEP xPH xZY,xZY)),((b,8))] hq] hq
  ·exact cl
  ·rw [yel];obtain⟨_,h2,_,_,_⟩:Hh/\xDJ/\b≤B'.length/\aP/\SY:=gx;show dC[b<2^8][Lf h2]
def xbu (six:E5 L[b≤6])(x):xVm x≤14:=by
 have six:∀n,xzM n≤6:=λ n=>by
  rw [Jm];cases e:L[n]? with
  |none=>exact B1
  |some y=>exact six y xIn
 cases x with
 |sg s=>have:=six s;show dC[dX+0≤14][uJ this]
 |cp b z=>have:=six xPH;show dC[xZY+(8+0)≤14][Nat.add_le_of_le_sub Z9 this]
theorem xqJ (six:E5 L[b≤6]):∀P:M',tots[U9 P]≤14*P.length
 | []=>ρ
 |x::P=>by
  rw [xqA,aU,Jn];have:=xqJ six P;show kG[xbu six x]
theorem xtE:∀{It:xAi} (a:Nat),(Ic It x2l)->xw2≤3*ycK
 | [],_,_=>ρ
 |x::It,a,h=>by
  show(υ hx[h x Z6] e[W13.puts[x::It]=x.puts++sU] ya4,[e,aU]);cases x with
  |one y=>
   show ZR[xtE (It:=It) y λ z hz=>h z[by simp [hz]]]
   show(3+0)+xw2≤3*(iT[gG y] 1);show Ay [_,_] Re xNX[m8[Y9 DH]] x8z ih
  |rep r=>
   show υ ih[xtE (It:=It) a λ z hz=>h z[by simp [hz]]] hr[zS r/\r≤66] hx;show(3+(6+0))+xw2≤3*DV[xE2 r][gG a];show(iB JQ,Bj [_,_,_][Ρ[.m 3 DH]][ZY 3 xNX][m8[BI[Y9 xN0]]][.m 3 Φ] ih[IV 3 hr.1])
def xpF (hl:Gq){It:xAi}(h:xLv 0 0 It 272 b):gG 0=L:=by
 have:=W13.xty h;rw [MK,Kd,<-hl,Ki] at this;exact this.symm
theorem xpe:∀{P P':xAi} {p a b b':Nat},xLv p a P L.length b->xLv p a P' L.length b'->P=P'
 | [],[],_,_,_,_,_,_=>rfl
 | [],x::P',p,a,b,b',h,h'=>by have:=EO;show kG h'.1
 |x::P,[],p,a,b,b',h,h'=>by show(xOa h',kG EO)
 |x::P,x'::P',p,a,b,b',h,h'=>by
  show((_,e,h)=h,(_,e',h')=h',DD);subst e';rw [xpe h h']
theorem xnU (a)(Q):∀n,(xJi[EA[dS[a::Q]]]).sum=(xJi[EA xLO]).sum+d7[a<n] 0
 |0=>rfl
 |n+1=>by
  rw [NN,Ji,Mw,Ji,Mw,xnU a Q n];simp only [KH,PH,MZ,List.sum_nil,NI];by_cases e:a=n
  ·show(DD,nQ[Jk xFG][Ju QI],qL Dw rS rS Dw)
  ·show xI8[X0[a==n]] x7A;by_cases l:a<n
   ·show((l2:a<n+1)=NX l,nQ[Ju l][Ju l2],qL gc rS rS gc)
   ·show((l2:¬a<n+1)=SZ[e[IT[KC z][PU.mp l]]],nQ[Jk l][Jk l2])
def xc9 (Q){q:Nat}(h:q<272):xLO∈Ub:=by
 unfold cn;exact LI.mpr[ni q[ND.mpr h]]
def xhH (h:b∈Ub):∃q,b=xLO:=by
 show(XO cn,x1n q e h,AU q e.symm)
theorem xjt:∀Q:LE,(Ub).sum≤Q.length
 | []=>by
  have:∀n,(xJi[EA[dS ([]:LE)]]).sum=0:=λ n=>by
   induction n with
   |zero=>rfl
   |succ n ih=>show kh NN Ji Mw ih
  show(xFR[EA[dS ([]:LE)]]).sum≤0;show xZv ρ
 |a::Q=>by
  show(Tl ih[xjt Q] e[xnU a Q 272],(ih':(xFR[EA xLO]).sum≤Q.length)=ih,lP[(xFR[EA[dS[a::Q]]]).sum≤Q.length+1] e)
  split<;>omega
theorem xmK:∀C:LE,EI[yeQ b b] C.sum
 | []=>ρ
 |a::C=>by
  show(ZR[xmK C],[P4,MZ]);by_cases h:0<a
  ·show([Ju[IZ h],Jn],yE [_,_,_][Ρ Fp] DG Φ ih h)
  ·show Zz Rj[OO ih]
def xar (C):yeQ b b=(S.pos C).map[S.xx9 C]:=by
 show C7[C=x82[S.xx9 C]][by
  show(Xv i,[Jw]);by_cases h:xVH i
  ·rw [Mp h,IW h];simp [S.xx9,Jm,h]
  ·show Ai[J6[JX h]][J6[yu[JX h]]]]
 conv=>lhs;rw [e]
 show Ar Ph
def xub (Q){q:Nat}(h:q<272):x37 q=xLO:=by
 simp [S.xx9,cn,Jm,h]
seal cn
def xdC {Q:LE}(hq:ZA Q[q<272])(h1:AL Q.length)(QY:US Q.length):(E5 Ub[x3N b])/\yeK Ub/\xOD Ub/\(∃b∈Ub,0<b)/\AL 6/\ua 6/\EI[xGh Ub b b][2^6]/\xOD xwD/\yeK xwD/\EI xwD[2^6]:=by
 show(Tl hf[xmK Ub] hs[xjt Q],A3 hp[BD xwD (xGh Ub b b).length][by rw [xar,IS]] h0[∃b∈Ub,0<b][Ib a ha[OZ h1][CS[xc9 Q[hq a ha]][Oi.mpr ha]]] (qE,Hd xxq,Hd xxq,h0,Z9,Z9,Z4,(G6 [_,_,_,_] x6s[bE xV1] xGt QY hf[aM hs hp]),?_,Z4))
 ·show Ik q[xhH hb];have:=ygS q (l:=Q);show ED [_,_] Ω[EL 64] SW QY this
 ·show([hp],Ie b hb hb0 h0[List.length_pos_iff.mpr[List.ne_nil_of_mem[LZ.mpr (hb,IZ hb0)]]])
def ShL (Q:LE)(L:LE):Prop:=∃ln:ET,S.LnOf Ub 6 ln/\L=xWO/\PM.xxE xwD x37 6 ln
theorem ShL.uniq {Q L L':LE}(h:xCV Q)(h':ShL Q L'):L=L':=by
 show((ln,h1,rfl,_)=h,(ln',h2,rfl,_)=h',[h1.uniq h2])
def xmb:q∈xwD<->q<272/\q∈Q:=by
 show Up S.pos LZ ND xxq;constructor
 ·rintro⟨h1,h2⟩;show Ε[xub Q h1] h2 (h1,Oi.mp[Jd h2])
 ·rintro⟨h1,h2⟩;show(ZU h1[IZ ?_],LT[xub Q h1][Oi.mpr h2])
def ShL.ok (hq:ZA Q[q<272])(h1:AL Q.length)(h:xCV Q):xAF/\Gq/\(E5 L[b≤6])/\ZA Q xIa:=by
 show((ln,_,rfl,b1,b2,b3)=h,Sc get[∀q,q<272->iC xWO q=ln q][λ q hq=>by simp [Jm,hq]] le6[∀q,ln q≤6][EA[by
  by_cases m:q∈xwD
  ·exact(b1 q m).2
  ·show Hd[b2 q m]]],Sc six[E5 xWO[b≤6]][Bm[by
  show(x1n q rfl hb,le6 q)]] SF[ZA Q[AL[ln q]]][λ q m=>(b1 q[xmb.mpr (hq q m,m)]).1],SC ek[C9.krf 6 xWO=(XW xwD p[2^(6-xIT)]).sum][by
  unfold C9.krf S.pos;rw [Ph,K1,xxq];have:xv5 272[(xBl l l)∘ln]=xv5 272[xBl p[x37 p]]:=by
   show(List.filter_congr[UF q hq'],VX=ND.mp hq',lP[HY 0[ln q]=HY 0[x37 q]][xub Q VX]);by_cases m:q∈Q
   ·rw [IZ[Eo 0[ln q][SF q m]],IZ[Oi.mpr m]]
   ·show(YE[b2 q[SZ[m (xmb.mp z).2]]],[z,List.count_eq_zero.mpr m])
  show Ar this] (TX Z6 Z6[λ l hl=>uJ[six l hl]] ?_,Z6,six,λ q m=>LT[get q[hq q m]][SF q m]))
 ·show Ib a ha[OZ h1] (ln a,LI.mpr[ni a[ND.mpr[hq a ha]]],SF a ha)
 ·rw [C9.krf_up (m:=6) Z9 _ six,ek];have:2^(12-6)*(XW xwD p[2^(6-xIT)]).sum≤2^(12-6)*2^6:=IV _ b3;show xMu
def ShL.tok (g:GR W Pp)(h1:xTB)(h:xCV xUi):xC7:=by
 show((hq:ZA xUi[q<272])=λ q hq=>by
  show(xNC x hx hq,(_,gx)=g.all x hx,xoh gx),C5 a b c d[h.ok hq[Gk h1]] (a,b,c,DX[d _[LI.mpr[ni x hx]]]))
universe K27
namespace K27
open PySem L2 QQ W17 W16 BP
seal PE PA PS PSs PT PW PG PI
def xol {pos:Pos}(h:X6[TD yF[Ud c]])(hg:uj)(hd:t8):AN xBe[vz c]:=Ib t h h[xtp hg h[Gs t] hd]
structure Shs (K:Frag)(mg:Ι):Prop where
 X:Df
 whole:xZF
 arewhole:ydp cY Jaa
 things:Ν "are_of_things" xxd xAr
 need:Ν "need_shares" xs3 Jan
 weight:Ν "weight_of" xye xFx
 pairs:Ν "in_pairs" xyV xLj
 light:Ν "lightest_bundles" xsU xTs
 lengths:IG[S.FnL K mg "lengths_of" xqy Jan f fd]
inductive xsq (vs:Sy) (H:Hp) (Q:VK) (QL:XK):Prop
 |mk (t:Qq) (x:Pc) (h0:vs=[Z1]) (h1:Y8[itm x]) (h2:i9[th x]):xsq vs H Q QL
def xhX:XL xFO xFO xqV:=Tm
def xgO (F:Ο "thing_of" xqV xFO)(T:Df):eg xFO xsq:=by
 show(D1 xhX[λ QE A outer s H vs Q E hr h=>?_],yV t x ht k,D9[yj[rh[qo x5B xx7] x5B][y4[Gi[xol T.first Z7] x5B][xol T.least Z7]]])
 cases x with
 |sg s=>
  show HU (_,rfl,t,_,_,_,rfl,rfl,rR,tZ,rfl,_,rfl,xIF gU h) (_,rfl,t,_,_,_,rfl,rfl,rR,xp,k)
 |cp b z=>
  show(ω (_,rfl,t,_,_,_,rfl,rfl,rR,tZ,rfl,_,rfl,xR9 xuf) (_,rfl,t,_,_,_,rfl,rfl,rR,xQN,_,_,rfl,rfl,_,_,rfl,rfl,?_),C7[A6 256+ST z-3=ST xPH] Z5)
  try dsimp only
  show WQ k
inductive xk3 (vs:Sy) (H:Hp) (Q:VK) (QL:XK):Prop
 |mk (a:Qq) (Qs:LE) (h0:vs=F5) (h1:Υ=Az[Qs.map vN]) (h2:(ZA Qs[q<272])) (h3:AL Qs.length) (h4:US Qs.length) (h5:Xx l Qq L LE[Bv->Χ->B0=xO->xCV Qs->B8]):xk3 vs H Q QL
def xsr:XL ["things","counts","thing"] x2m xrM:=Tm
def xdc {Qs:LE}(h:AD Qs q)(hq:q<272):(A5[xT7 i]).set q[vN[xQY q+1]]=A5[xT7[i+1]]:=by
 show(VT[∀A,A5[cn A]=xFR[λ p=>vN[A.count p]]][λ A=>xG6 cn K1],rK e1 e1[S.set_range (f:=λ p=>xQY p) (f':=λ p=>x83[i+1] p) (Hy p)])
 show x83[i+1] p=xQY p+ EC [q];rw [xyQ h,Nd]
def xcW:BC 272 jw=A5[cn []]:=by
 show(VT[A5[cn []]=xFR[λ _=>ie]][xG6 cn K1],[e1,Pg,LA]);generalize 272=n
 induction n with
 |zero=>rfl
 |succ n ih=>show kh KG Ky ih KG
inductive xkp (a:Qq) (Qs:LE) (l5:Qq) (H5:Hp) (i:Nat) (σ:St) (H7:Hp):Prop
 |mk (v:EY) (h0:σ=[BL,xH1,v]) (h1:H7 l5=BA[xT7 i]) (h2:∀c o,FL l5->Uz[xNG c][H7 c]):xkp a Qs l5 H5 i σ H7
def xgq (F:Ο "shares_of" xrM x2m)(Y:Shs K mg):Cc 34 x2m xk3:=by
 show((T,(_,_,Wh),(_,_,AW),(_,_,Th),(_,_,Ne),(_,_,We),(_,_,Pa),(_,_,Li),(_,_,Le))=Y,Zq t6 B6 Le.d xsr[λ QE A outer st H vs Q E hr h=>?_] _,Fw a Qs rfl ha hq h1 QY k,Fx[DP 1 xsr.nd[xOu wI[xol T.many Z7]][xf Η 2 xsr.nd[ae[xyU[xS[V9 τ Ζ]][o0 τ Ζ xtG]]]][xxw[S.xfa Le Ne Th AW Wh Li Pa We T] hr Z7 Le.m Le.kp B6[xMf (a:=V.int 6) CQ] bA oF]] Zk,Bu[nU TY l4 n4],fw s4 xQ9 n4 Yo[kS H l4 xQ9 l4=Az jw],Cz[oX l4 xQ9] H4 (l4,_,_,rfl,rfl,Yo,Z9,Z9,(xj[1*272]),λ l5 n5=>A1),Aj,DF s5[Dn[BC 272 jw] n5] h55[xEq l5[xVO xVJ jw] l5=BA[xT7 0]][LT ad[congrArg[SZ[some[HO.lst z]]] xcW]] n05[B7 l5][x29 s4],(s05:gk[Fj H4 l5[xVO xVJ jw]])=x1N,az H4 l5[xVO xVJ jw] H5);clear s5 s4 Yo;show SC WX[a≠l5][ai ha n05][yD[m9 a[s05 _ _ ha][i' Ws K a[Qs.map vN][xkp a Qs l5 H5][VC none h55 x8t][λ i σ H7 _ z9=>xzV kp z9[QK.of[Bo WX[s05 _ _ ha]]]] ?_ ?_]]]
 ·show Aj;rintro i y σ H7 hi ⟨v,rfl,h7,kp⟩;show(Dr q hqi[dZ hi],υ hqn[hq q[J7 hqi]] hg[Cs[A5[xT7 i]] q[vN[xQY q]]][by
   unfold cn;show gA Jw Jw[Mp hqn]],SC e2[ST[xQY q]+1=qU[xQY q]][OR _] (_,rfl,_,rfl,l5,_,_,_,rfl,rfl,QK.of h7,aA hg,_,_,rfl,rfl,?_))
  try dsimp only
  show Γ e2 (_,rfl,_,rfl,l5,_,_,q,rfl,rfl,h7,S.ixN_nat[zD xxq hqn],Α q,rfl,?_,λ c o n e=>?_)
  ·rw [ad,xdc hqi hqn]
  ·show Xz[Bo n e]
 ·show(xGO H7 v rfl h7 kp,Ua Ki h7,VB A1,(s07:gk H7)=λ c o e=>Bo[Af n05][s05 _ _ e],(q1,q2,q3,q4,q5,q6,q7,q8,q9,q10)=xdC hq h1 QY,ω (_,rfl,l5,cn Qs,6,rfl,h7,q1,q2,q3,q4,q5,q6,q7,q8,q9,q10,λ l ln H8 nl s8 hl hb hln=>?_)[Wb xWO H8[Fd s07][s07.trans s8] ?_[sV ln hln hb]],gA hl xxq K1)
structure Cds (K:Frag)(mg:Ι)(D C:Qq):Prop where
 M:ybB mg C
def xgT:XL rj rj xr3:=Tm
def xhK:XL xVc xVc xqT:=Tm
structure Shw (K:Frag)(mg:Ι)(B D C:Qq):Prop where
 Y:Wys K mg
 Zb:xPp B
 Sh:Shs K mg
 Cd:Cds K mg D C
 thingof:Ν "thing_of" xqV xFO
 sharesof:Ν "shares_of" xrM x2m
 needtab:Ν "need_table" xtW Jah
 again:Ν "again_from" xsZ xVi
 puttab:Ν "put_table" xrO x3z
inductive xk1 (B:Qq) (vs:Sy) (H:Hp) (Q:VK) (QL:XK):Prop
 |mk (o p d a:Qq) (x:V) (T W:LE) (Pp:M') (N T0:Nat) (h0:vs=[Gv,FR,AO,x]) (h1:xPj B T0) (h2:xOH) (h3:Υ=Hj) (h4:xRc) (h5:xTX) (h6:jW) (h7:ZD) (h8:xJr) (h9:sr) (h10:xRZ[W++T]) (Ug:∀(L:LE) (It:xAi) (b:Nat) (H':Hp),xCV xUi->xLv 0 0 It 272 b->Dy B[uL[sU++xFV]][T0+tots[sU++xFV]]->lN[Ψ->CY->zY->Cf]):xk1 B vs H Q QL
def xy6:XL ["self","bits","text","before","pieces","lengths","codes","piece","pair"] Jac xqD:=Tm
def xd9:HJ xFO:=Z8
def xi8:TE:=xR6 xsq x6l
def xq4 (h:xDD Pp q)(hpq:p<q):xTB:=by
 cases Pp with
 |nil=>have:p=q:=h;show Bj [_,_,_] x5s DG AM Re hpq x8
 |cons x Pp=>simp
def xis (F:x7K "ShareWay.tell" xqD)(A0:xSo C):Cc 35 Jac[xk1 B]:=by
 show(((Vi,(_,_,Po),(_,_,Na),(_,_,Ns)),Z,Sh,Cd,(_,_,To),(_,_,So),(_,_,Nt),(_,_,xzz),(_,_,Pt))=A0,C6 Nr Vi.needrow Nw Vi.needwin,Tl X Vi.R.X GTh[xgO (P:=P) (w:=w) (base:=base) To X],C6 Nl Cd.M.need Co Cd.M.cof,GC=K27.C.xkX (P:=P) (w:=w) (base:=base) Co Nl Cd.M.Y,x4X Wh Sz,xm O Z.ones Pu Z.put M Z.move,Tl TB Z.T GP[xZ4 P w Sz Wh O M TB X],D2 xy6[λ QE A outer st H vs Q E hr h=>?_],(o,p,d,a,x,T,W,Pp,N,T0,rfl,hB,VY,ha,Ux,h1,QY,hx,hWb,hWl,hwk,k)=h,tP QW F9 S4 3,tP hr7[Dk 7] hr32 32,xDe Yt 33,xJ1[Fm[aE[xte Ns Na Nw Nr Vi.R] hr7 Ns xEc][ID 4 xy6.nd[dz[xl4 Po Vi] hr32 Po.m Po.kp Po.b bA xEc] 5 xy6.nd[Iw[xgq So Sh] So[BO[xt4 (N:=xFO) (g:=IF) (te:=xi8) rfl rfl Z8 Z8 Z8[xxC Bb][λ fp s H=>VG xd9][λ fp s H=>yU GTh To 0]]]][Gn 6 xy6.nd[Ih GC Yt Co 5][aB[aE[Tb.xeB Pt Nt xzz Z] hr32 Pt[jA 1 5]]][ae[xf Bb 7 xy6.nd[Gn 8 xy6.nd[V9 jy[yU GTh To 7]][aB[xMp[zM[zU xNT][zU xNT]]]][ae[qk[qo[zU xHB] xx7][aB[xYR[zU xHB]]]]]]]]]]] (_,rfl,_,rfl,a,x,T,W,rfl,ha,Ux,h1,QY,hx,hWb,hWl,λ l0 H0 s0 n0 Y2=>A1),Aj,Bu (_,rfl,_,rfl,a,x,W,T,rfl,x7Q,ycm,hWb,Ux,uJ hWl,uJ QY,λ l P' H1 s01 YQ⟨ts,hl,Tu⟩hwk'=>A1),Aj,(eP:P'=Pp)=xyj hwk' hwk);subst eP;show(υ s1 ya5 nl Bv[Yf YQ],ak gr hrun Yl[xrq hWb Ux hwk] hP1[AL P'.length][xq4 hwk[GV[Lc h1]]]);clear s0 s01 Y2 YQ hwk';show ω[yD[m9 l hl[UF l2 nl2]]][xpC (g:=IF) (te:=xi8) (K:=K) (a:=l) (l:=l2) (xs:=E8) (n:=1) (λ i ys H2=>ys=A5[(xEM).map th]/\H2 l2=de/\xHL)
  (xBq ad[am nl2])[λ i ys H2 _ z9=>by show(xKw sm,rW[y9 hl])] ?_ ?_ ?_ ?_]
 ·show Aj;rintro i y ys σ H2 hi ⟨rfl,Xc,sm⟩ hσ;show(Dr t ht[xtB hi],vk u0 u0[σ=[u0]][match σ,hσ with| [u0],_=>Gs u0],A3 Su[i<P'.length][Bg xB4[ZZ ht]] hPi[AD P' P'[(i)]] xBX (_,rfl,t,P'[(i)],rfl,y9[Tu.2 i t _ ht hPi],Xc,bW[Iv IS IS Jc[xMJ[IY Yl[uJ QY]]]],rfl,?_,ad,fK c o))
  ·show gA[xyQ hPi] Ji Ji
  ·show Eh nl2 xHI
 rotate_left
 ·exact λ x σ H A B h z=>tM
 ·rintro σ H A B h ⟨v,e1,t,x,e2,e3,z⟩;exact(v,e1,t,x,e2,e3,tM)
 rintro ys H2 ⟨rfl,Xc,Sv⟩;show(xBQ xB4 Ki Xc,SC hq[ZA[P'.map th][q<272]][λ q hq=>by
  show(xNC x hx hq,(_,gx)=gr.all x hx,xoh gx)] (l2,P'.map th,rfl,Xc,hq,Gk hP1,Gk[IY Yl QY],λ l3 L H3 nl3 s23 h33 hsh=>A1),Aj,Tl tok[hsh.tok gr hP1] s13[Sv.trans s23],SC nl31[UQ l3][none_of Sv nl3][yD[VM _ L[VC l3 h33[Bm[uJ[tok.six b hb]]]] tok.good[λ l4 xs H4 nl4 s34 Yo hcl=>A1]]],Aj,Tl VP yjo hB4[hB.keep λ c o e _=>xJS HC],o6 h43[s34 _ _ h33] dxp rp kp' hpp hB4.ob,x4w dxd Bd rd kd hdd hB4,De nl3p l3 p[aJ h43 hpp A2] nl3d[l3≠d] (xth[(x9Q).imp[λ _ e=>HC]] nl31).symm,De nl4p l4 p[aJ Yo hpp A2] nl4d[l4≠d] (xth[(x9Q).imp[λ _ e=>s13 _ _ HC]] nl4).symm,A3 Tc xHJ x6u Ui Tn x6v[yD (_,rfl,_,rfl,p,d,l3,N,T0,L,rfl,hB4,VY,h43,tok.len,tok.six,nl3d,λ It b H5 hit hB5 VR=>A1)],Aj,Tl hit2[xpF tok.len hit] hto[xtE 0[yiu hit]]);rw [hit2,tok.len] at hto;show(Tl h5l[oh[xJS hl] Tc Ui] h54[oh Yo nl4p nl4d],(Ys:∀t ys,jB[H4 t] ys->jB[H5 t] ys)=λ t ys e=>oh e[xDl hpp A2][xDl hdd A2],Tl hcl5[hcl.keep Ys] hts5[(Tu.keep λ a xs e=>xJS e).keep Ys],(dxp5,rp5,kp5',hpp5)=hB5.ob,x4w dxd5 Bd5 rd5 kd5 hdd5 hB5,m9 l h5l[i' Ws K l E8[λ i σ H6=>∃v7 v8,σ=[xJg,u5,BL,dt,qB,xX9,π l4,v7,v8]/\xA1 B H6[dU[U9 xEM][uL sU]][T0+xw2+xYQ]/\∀c o,xNG c->CY->Uz zY[H6 c]][jE none none hB5[λ c o e _ _=>e]][λ i σ H6 _ z9=>by show(x9M z9,rW[Bo h5l Tc Ui])] ?_ ?_])
 ·rintro i y σ H6 hi ⟨v7,v8,rfl,hB6,kp⟩;show(Dr t ht[xtB hi],Sc Su[i<P'.length][Bg xB4[ZZ ht]] hPi[AD P' P'[(i)]] xBX,Tl WW[hts5.2 i t _ ht hPi] hga[gr.at hPi],Sc hmem[P'[(i)]∈P'][KZ Su] ntp[vj t][xOw hpp5 A2],(ntd:t≠d)=xOw hdd5 A2,Tl htt6[Bo WW ntp ntd] h64'[Bo h54 nl4p nl4d],(e1,e2,e3)=tok.at hmem hga,DF Uw[C10.xkm tok.good e1 e2] hlx[xEK[th P'[(i)]]][LT hcl5.1[ZZ Uw]] hxi[Cs xs[th P'[(i)]] xs[(th P'[(i)])]][IW hlx]);obtain⟨tc,etc,htc⟩:K27.C.xyF H5 xs[(th P'[(i)])][some ((xEP[th P'[(i)]][eJ P'[(i)]],eJ P'[(i)]))]:=hcl5.2 _ _ _ hxi Uw;rw [etc] at hxi;show(De ntcp tc p[aJ htc hpp5 A2] ntcd[tc≠d][aJ htc hdd5 A2],Tl htc6[Bo htc ntcp ntcd] hto2[xqJ tok.six xEM]);rw [Jc] at hto2;show(o6 hcl2[C10.cd_lt tok.good e1 e2] dx r kk hp6 hB6.ob,[xyQ hPi,xhJ,xxB,aU,xcQ],HV g2 (_,rfl,_,rfl,t,P'[(i)],rfl,htt6,l4,_,_,_,rfl,rfl,QK.of h64',aA hxi,bf),YK,HV g2 (_,rfl,p,dx,_,rfl,hp6,ZE,_,rfl,tc,_,_,_,rfl,rfl,QV.of htc6,tZ,_,rfl,tc,_,_,_,rfl,rfl,QV.of htc6,xp,p,d,_,_,_,_,rfl,hB6,(Bx [_,_,_,_,_,_][Ρ[xOJ[DT 14 Rn[Ξ[Aw[.m 14 nV]]]]]][iK[xO9[xOJ[DT 3 xV[DT 14 nV[.m 14 Rn]]]]]] xF2 xAR VY[jP QY][oM 14 Yl[IP hto[IP hto2[jP Fb]]]]),Z5,hcl2,λ H7 hB7 kp7=>bf),YK,o6 htt7[xRV htt6 ntp ntd] dx7 r7 kk7 hp7 hB7.ob);generalize P'[(i)]=xx at*;cases xx with
  |sg s=>
   show(ω (_,rfl,t,_,_,_,rfl,rfl,yco,tZ,rfl,_,rfl,xR9[SZ[xuf z.symm]])[yW _ ?_[λ c o e n1 n2=>xRV yaQ n1 n2]],(e5:T0+xw2+(xYQ+xVm V5)=T0+xw2+xYQ+eJ V5)=by
    show(RC[xVm V5=eJ V5],BW[jK [_,_,_,_,_] Cv Rn x6a x54 Yp][jK [_,_,_,_,_] Rn Cv x54 x6a x8]),LT e5 hB7)
  |cp bk z=>
   obtain⟨g1,g2,g3,g4,g5⟩:AL bk/\bk≤255/\bk≤_/\aP/\SY:=hga;show(ω (_,rfl,t,_,_,_,rfl,rfl,yco,tZ,rfl,_,rfl,xIF gU h) (_,rfl,p,dx7,_,rfl,hp7,ZE,_,rfl,t,_,_,_,rfl,rfl,yco,xp,p,d,_,_,bk,8,rfl,hB7,Z5,Z9,(dC[bk<2^8][Lf g2]),Μ H8 hB8 kp8),DK[yW _ ?_[λ c o e n1 n2=>kp8 _ _[xRV yaQ n1 n2] n1 n2]] e5[T0+xw2+(xYQ+xVm x8G)=T0+xw2+xYQ+eJ x8G+8][by
    show(RC[xVm x8G=eJ x8G+8],BW[jK [_,_,_,_,_] Cv[XN 4 8] x6a[Eg x54] Yp][jK [_,_,_,_,_][XN 4 8] Cv[Eg x54] x6a x8])],LT e5 hB8)
 ·rintro σ H6 ⟨v7,v8,rfl,hB6,kp⟩;show(xBQ xB4 Ki hB6,k L It b H6 hsh hit ?_ λ c o e n1 n2=>Bo[oh[xJS HC] n1 n2] n1 n2,[xxB,aU,-J8],hB6)
def xbP:Sp:=λ vs H Q _=>∃o,vs=yC o/\XD 3
def xbh:gQ xrU:=Tm
def xiR (F:x3I "ShareWay.number" xrU):VI xbP:=by
 show(D2 xbh[λ QE A outer st H vs Q E hr h=>?_],Ie o rfl k h[CS x5Q k])
def xxO:XL ["self","reader","count","before","signs","begin","end","codes","thing","back"] Jad xqL:=Tm
def xgg (T)(s):x0r[T++[s]]=ko++[((s,8))]:=by simp [xwx]
inductive xk0 (vs:Sy) (H:Hp) (Q:VK) (QL:XK):Prop
 |mk (a:Qq) (T:LE) (h0:vs=F5) (h1:Υ=Hj) (h2:jW) (h3:∀l ts H',Χ->Bv->B0=jX->V1 H' ts wM->B8):xk0 vs H Q QL
def xzr:XL ["signs","runs","begin","place"] xLP xyZ:=Tm
def xhz (F:Ο "runs_of" xyZ xLP)(T:Df):eg xLP xk0:=by
 show(D1 xzr[λ QE A outer st H vs Q E hr h=>?_],vP a S ha QY k,gp[DS 1 xzr.nd rE[DP 2 xzr.nd ag[nK[yeB Z7[Mk[xS iJ]]] 3 xzr.nd[xQg[zo[qo AZ iJ][HX xwO[oR AZ] xM2]][Fm[fP τ[cx[zM xM2[y4 AZ Ζ]]]][eI 2 xzr.nd AZ]]]] τ]][ka Z9 l nl A1],B9 s0 xWT bL,xGM,SC en[xBi[xa[xW8+1] 1]][pI IS] (_,rfl,a,_,rfl,BN x7Q,_,_,rfl,rfl,1,_,rfl,(Z5,Z5,pI IS,pI IS),?_),Γ en[xPI 1 S.length[λ i σ H2=>∃b rs ts v3,σ=[BL,qB,yL,v3]/\yi/\Vw=jX/\V1 H2 ts rs/\rs++rl[S.drop b]=rl S/\IA b/\IA rs.length/\(xBi i->xBi b)/\∀j,pQ b->IA j->Zh j->S[j]?=S[b]?] (0,[],[],none,rfl,s0,ad,.nil,rfl,ρ,ρ,SZ z,λ j h1 h2 _=>by rw [Nat.le_zero.mp h2]) ?_ ?_])
 ·show Aj;rintro i σ H2 hi ⟨b,rs,ts,v3,rfl,sm,Q0,WI,WB,hbi,hri,hend,WX⟩;show((hbS:Zh b)=JS hbi hi,υ WY[y9 ha] ep[Il+wy=VF][xJ9[Y6 UI] SB UI],DF Ss WI.len Sb[Cs S b S[(b)]][IW hbS] J[(jT S[i+1]? S[(b)])->∀t,Θ[H2 t]->∃b' rs ts' v3,[xT8 a,xT8 l,Α[i+1],Α[i+1]]=[xT8 a,xT8 l,Α b',v3]/\gk[IJ[GJ t [vN S[(b)],vN[i+1-b]]][xEl [t]]]/\(IJ[GJ t [vN S[(b)],vN[i+1-b]]][xEl [t]]) l=Az[ts'.map V.ref]/\V1[IJ[GJ t [vN S[(b)],vN[i+1-b]]][xEl [t]]] ts' rs/\rs++rl[S.drop b']=rl S/\b'≤i+1/\rs.length≤i+1/\(xBi[i+1]->xBi b')/\∀j,pQ b'->j≤i+1->Zh j->S[j]?=S[b']?][by
   intro RI t nt;show Iu st[xQS [vN S[(b)],vN[i+1-b]]] nlt[t≠l][sF Q0 nt] (i+1,rs++[((S[(b)],i+1-b))],ts++[t],Α[i+1],rfl,fK c o,ad,?_,?_,ρ,by show(EF IQ[rs.length+1≤i+1],Kx hri 1),SZ z,λ j h1 h2 _=>by rw [BJ j[i+1][MQ[IT h1 h2]]])
   ·show Ye[GQ xHI]
   ·refine((WI.mono st).keep[fK c xs]).app[lp ?_]
    ·show Δ[SZ[FZ x7c e e]] e
    ·show xJ0 nlt ad
   ·rw [IU,<-WB,xaV (b:=b) (e:=i+1) (a:=S[(b)]) (Lf hbi) Z3[λ j h1 h2=>by rw [WX j h1[KC h2][Ja h2 hi],Sb]] RI];rfl],Γ ep (_,rfl,_,rfl,a,_,rfl,BN WY,rfl,_,rfl,xg h h))
  ·show(SC he[xBi[i+1]][by
    show(xGL,ybY this,xKe IS[P2.mp this])][bZ (_,rfl,xq Q0,_,rfl,_,rfl,a,_,_,_,rfl,rfl,xUW,fJ hbS,_,rfl,_,rfl,_,_,rfl,rfl,ye,UF t nt)],Wv[VF-iw=ST[i+1-b]][WM[KN hbi]])
   try dsimp only at nt
   try dsimp only
   show(Γ e2 (l,_,_,rfl,rfl,xW5 _ _ Q0,bW[uO[G6 [_,_,_,_][Ξ[Fg iV]][bE xBt] Bc QY hi[aM hri Ss]]],_,rfl,?_),YE[J[XV he[J6 ρ] Ab] t nt],Ε Ji z z)
  ·show SC he[Zh[i+1]][by
    show((h':¬(Ty[CG[V.int VF][V.int xW8]]))=h,iq[i+1] S.length q q)
    ·show HL
    ·show jF[mY[BJ[i+1] S.length[xT6 q]]] h'] (_,rfl,_,rfl,a,_,_,_,rfl,rfl,xUW,fJ he,_,rfl,_,rfl,a,_,_,_,rfl,rfl,xUW,fJ hbS,rfl,_,rfl,?_);by_cases RI:S[(i+1)]=S[(b)]
   ·show(rK RI gU[bp (b,rs,ts,_,rfl,sm,Q0,WI,WB,KN hbi,(Dh Re SL Re Β hri),SZ[yd[xWc SB hbS][Bx [_,_,_][Ξ[UK xM0 cF]][bE[x1Y[wK xi]]] SL Re QY[qJ he][qJ[IR z.symm]]]],λ j h1 h2 h3=>?_)],iq i j q q)
    ·rw [show j=i+1 by show BW[Dh Re Β Re Β h2][Dh Β Re Β Re q],IW he,Sb,RI]
    ·exact WX j h1 q h3
   ·show(Γ[Kh[SZ[RI[xuE.mp z]]]][bZ (_,rfl,xq Q0,_,rfl,_,rfl,a,_,_,_,rfl,rfl,xUW,fJ hbS,_,rfl,_,rfl,_,_,rfl,rfl,ye,UF t nt)],Wv[VF-iw=ST[i+1-b]][WM[KN hbi]])
    try dsimp only at nt
    try dsimp only
    show(Γ e2 (l,_,_,rfl,rfl,xW5 _ _ Q0,bW[uO[G6 [_,_,_,_][Ξ[Fg iV]][bE xBt] Bc QY hi[aM hri Ss]]],_,rfl,?_),YE[J[LT[IW he][SZ[RI[JA z]]]] t nt],Ε Ji z z)
 ·rintro σ H2 ⟨b,rs,ts,v3,rfl,sm,Q0,WI,WB,_,_,hend,_⟩;rw [hend rfl,P7,xcG,JM] at WB;show Ε WB WI[xOh[Wb ts H2 sm nl Q0 WI]]
def Ix (u:Bool):Int:=d7 u 0
def xmF (u:Bool):Sp:=λ vs H Q _=>∃o:Qq,vs=yC o/\XD[Ix u]
def xga:gQ xrd:=Tm
def xgt:gQ xra:=Tm
def xf4 (F:x3I "RawWay.number" xrd):VI[xmF false]:=by
 show(D2 xga[λ QE A outer st H vs Q E hr h=>?_],Ie o rfl k h[CS x5Q k])
def xf3 (F:x3I "RunWay.number" xra):VI[xmF true]:=by
 show(D2 xgt[λ QE A outer st H vs Q E hr h=>?_],Ie o rfl k h[CS x5Q k])
inductive xsD (u:Bool) (B:Qq) (vs:Sy) (H:Hp) (Q:VK) (QL:XK):Prop
 |mk (o p d a:Qq) (x:V) (T W:LE) (N T0:Nat) (h0:vs=[Gv,FR,AO,x]) (h1:xPj B T0) (h2:xOH) (h3:Υ=Hj) (h4:xRc) (h5:xTX) (h6:jW) (h7:ZD) (h8:xJr) (h9:sr) (h10:vg[Dy B[uL[xwx u T]][T0+tots[xwx u T]]][lN[Ψ->CY->zY->Cf]]):xsD u B vs H Q QL
def xkC:XL ["self","bits","text","before","sign"] Jac xr4:=Tm
inductive xkV (B:Qq) (o:Qq) (p:Qq) (d:Qq) (a:Qq) (x:V) (T:LE) (N:Nat) (T0:Nat) (H1:Hp) (i:Nat) (σ:St) (H2:Hp):Prop
 |mk (v4:EY) (h0:σ=[xJg,u5,BL,dt,v4]) (h1:xA1 B H2[uL[x0r ycV]][T0+tots[x0r ycV]]) (h2:∀c o,xLD c->CY->zY->ZL):xkV B o p d a x T N T0 H1 i σ H2
def u8 (F:x7K "RawWay.tell" xr4)(Y:Wys K mg)(Z:xPp B):Cc 8 Jac[xsD false B]:=by
 show(R=Y.V.R,C6 Nr Y.V.needrow Nw Y.V.needwin,C6 Na Y.needahead Ns Y.needsigns,jf R.X,x4X W S,xm O Z.ones Pu Z.put M Z.move,Tl TB Z.T GP[xZ4 P w S W O M TB X],D2 xkC[λ QE A outer st H vs Q E hr h=>?_],(o,p,d,a,x,T,W,N,T0,rfl,hB,VY,ha,Ux,h1,QY,hx,hWb,hWl,k)=h,xDe S4 3,jJ[xf[Iw[xte Ns Na Nw Nr R] Ns xEc] 4 xkC.nd[rD[xMp[xIW 4]]]] (_,rfl,_,rfl,a,x,T,W,rfl,ha,Ux,h1,QY,hx,hWb,hWl,λ l H1 s1 nl hl=>?_),υ hB1[hB.keep λ c o e _=>HC] Tc xHJ x6u,SC Ui Tn x6v[xDu l hl[i' Ws K l rU[xkV B o p d a x T N T0 H1][VC none hB1[λ c o e _ _=>e]][λ i σ H2 _ z9=>xzV kp z9[QK.of[Bo hl Tc Ui]]] ?_ ?_]])
 ·rintro i y σ H2 hi ⟨v4,rfl,RT,kp⟩;show(Dr b hb[dZ hi],xwM Su[xMS i][ZZ hb] dx r kk Q1 RT.ob,Dd WW[xwT ycV] Jc WW,ω (_,rfl,p,dx,_,rfl,Q1,ZE,_,rfl,p,d,_,_,b,8,rfl,RT,(Bx [_,_,_,_][Ρ[xo[Ξ Hq]]][iK[xMD 8[wm EG]]] WF xAR VY[wk QY][ym WW[wk Fb]]),Z9,Ux b[J7 hb],Μ H3 VZ Q4)[xCI ?_[λ c o e n1 n2=>xPt]],[xwW hb,xgg,xxB,aU,-J8],VZ)
 ·show(xGO H2 v4 rfl RT kp,aG IS Ki RT[xJe RT λ c o e n1 n2=>Bo HC n1 n2])
def xsp:XL ["self","bits","text","before","sign","size"] Jac xr0:=Tm
inductive xkW (B:Qq) (o:Qq) (p:Qq) (d:Qq) (a:Qq) (x:V) (T:LE) (N:Nat) (T0:Nat) (H1:Hp) (i:Nat) (σ:St) (H2:Hp):Prop
 |mk (v4:EY) (v5:EY) (h0:σ=[xJg,u5,BL,dt,v4,v5]) (h1:xA1 B H2[uL[pR xXy]][T0+mv xXy]) (h2:∀c o,xLD c->CY->zY->ZL):xkW B o p d a x T N T0 H1 i σ H2
def xgK {fR:Qq}(F:x7K "RunWay.tell" xr0)(Ro:ykB xyZ xLP fR fdR)(Y:Wys K mg)(Z:xPp B):Cc 8 Jac[xsD true B]:=by
 show(R=Y.V.R,C6 Nr Y.V.needrow Nw Y.V.needwin,C6 Na Y.needahead Ns Y.needsigns,jf R.X,x4X W S,xm O Z.ones Pu Z.put M Z.move,Tl TB Z.T GP[xZ4 P w S W O M TB X],D2 xsp[λ QE A outer st H vs Q E hr h=>?_],(o,p,d,a,x,T,W,N,T0,rfl,hB,VY,ha,Ux,h1,QY,hx,hWb,hWl,k)=h,Sc S4[Dk 3] CJ QW F9 CJ,Gw[ae[x0v[xxC[Br[xhz Ro X] Ro[BO[Iw[xte Ns Na Nw Nr R] Ns xEc]]]][xNc[pN 4 xsp.nd[pN 5 xsp.nd im]]][Fm[xYR[bj qK]][rD[xMp[xIW 4]]]]]] (_,rfl,_,rfl,a,x,T,W,rfl,ha,Ux,h1,QY,hx,hWb,hWl,λ l0 H0 s0 n0 Y2=>?_) (l0,T,rfl,Y2,QY,λ l ts H1 s01 YQ hl WI=>?_),υ s1 ya5 nl Bv[Yf YQ],DF hB1[hB.keep λ c o e _=>HC] Tc xHJ x6u Ui Tn x6v,Tl Ss WI.len hok[xuh QY Ux],xwM hlen[EI wM 64][x3[xrc (rs:=wM) λ q hq=>(xvK hq).1] xsT[IY this QY]] dxp rp kp' hpp hB1.ob,x4w dxd Bd rd kd hdd hB1,xDu l hl[i' Ws K l E8[xkW B o p d a x T N T0 H1][jE none none hB1[λ c o e _ _=>e]][λ i σ H2 _ z9=>by show(x9M z9,rW[Bo hl Tc Ui])] ?_ ?_])
 ·rintro i y σ H2 hi ⟨v4,v5,rfl,RT,kp⟩;show(Dr t ht[xtB hi],ak q hq WW[WI.at ht] Su[i<(wM).length][ZZ hq],(q1,q2,q3)=hok q[J7 hq],De ntp t p[xOw hpp A2] ntd[t≠d][xOw hdd A2],o6 htt2[Bo WW ntp ntd] dx r kk Q1 RT.ob,Dd hto[xt5 xXy] Jc hto,DK (t,_,rfl,ycp,rfl,_,_,rfl,_,_,rfl,rfl,?_) e1[ST GZ-1=ST[GZ-1]][WM q1],ZT g2 (_,rfl,p,dx,_,rfl,Q1,ZE,_,rfl,_,_,rfl,rfl,?_))
  try dsimp only
  show(xEe (p,d,_,_,GZ-1,6,rfl,RT,(Bx [_,_,_,_][xIA 14[Ξ[FJ 14]]][iK[xO9[xOJ[XY 14]]]] WF xAR VY[jP hlen][ym hto[jP Fb]]),Z9,(by show GZ-1<2^6;lia),λ H3 VZ Q4=>bf),YK,(Uy,r3,kk3,RE)=VZ.ob,ω (_,rfl,p,Uy,_,rfl,RE,ZE,_,rfl,p,d,_,_,DO,8,rfl,VZ,(Bx [_,_,_,_][xIA 14[Ξ[FJ 14]]][iK[xO9[xOJ[XY 14]]]][CN WF 6] xAR VY[jP hlen][ym hto[jP Fb]]),Z9,(by show DO<2^8;assumption),Μ H4 hB4 TH)[yW _ ?_[λ c o e n1 n2=>VE xPt n1 n2]],[xyQ hq,xiz,xxB,aU],(e5:T0+(mv xXy+mv [q])=T0+mv xXy+6+8)=by
   have:mv [q]=14:=Ar xt5
   show Em Uf UR Iy[Eg[CN WF 6]] Yp[EZ UR Uf[Eg[CN WF 6]] Iy x8],LT e5 hB4)
 ·rintro σ H2 ⟨v4,v5,rfl,RT,kp⟩;show(xBQ Ss Ki RT,xJe RT λ c o e n1 n2=>Bo HC n1 n2)
def xbd:Sp:=λ vs H Q _=>∃o,vs=yC o/\XD 2
def xbr:gQ xrk:=Tm
def xaZ (F:x3I "CopyWay.number" xrk):VI xbd:=by
 show(D2 xbr[λ QE A outer st H vs Q E hr h=>?_],Ie o rfl k h[CS x5Q k])
inductive xj7 (B:Qq) (vs:Sy) (H:Hp) (Q:VK) (QL:XK):Prop
 |mk (o p d a:Qq) (x:V) (T W:LE) (Pp:M') (N T0:Nat) (h0:vs=[Gv,FR,AO,x]) (h1:xPj B T0) (h2:xOH) (h3:Υ=Hj) (h4:xRc) (h5:xTX) (h6:jW) (h7:ZD) (h8:xJr) (h9:sr) (h10:xRZ[W++T]) (Ug:vg[Dy B[uL x6Z][T0+vW]][lN[Ψ->CY->zY->Cf]]):xj7 B vs H Q QL
def xj2:XL ["self","bits","text","before","piece"] Jac xrN:=Tm
def xg6 (F:x7K "CopyWay.tell" xrN)(Y:Wys K mg)(Z:xPp B):xYj Jac[xj7 B]:=by
 show((Vi,(_,_,Po),(_,_,Na),(_,_,Ns))=Y,C6 Nr Vi.needrow Nw Vi.needwin,jf Vi.R.X,x4X W S,xm O Z.ones Pu Z.put M Z.move,Tl TB Z.T GP[xZ4 P w S W O M TB X],(tl,hle)=X.least,D2 xj2[λ QE A outer st H vs Q E hr h=>?_],(o,p,d,a,x,T,W,Pp,N,T0,rfl,hB,VY,ha,Ux,h1,QY,hx,hWb,hWl,hwk,k)=h,tP S4[Dk 3] hr7 7,gp[Fm[aE[xte Ns Na Nw Nr Vi.R] hr7 Ns xEc][ae[xf[dz[xl4 Po Vi] hr Po.m Po.kp Po.b bA xEc] 4 xj2.nd[vm[qo tD xx7][Fm[xMp bq][rD[xYR tD]]][Fm[xMp bq][Fm[xYR tD][rD[xYR[y4 tD xPm]]]]]]]]] (_,rfl,_,rfl,a,x,T,W,rfl,ha,Ux,h1,QY,hx,hWb,hWl,λ l0 H0 s0 n0 Y2=>A1),XX (_,rfl,_,rfl,a,x,W,T,rfl,x7Q,ycm,hWb,Ux,(qG[.n 192][.n 255] hWl),(qG XR[.n 500] QY),λ l P' H1 s01 YQ z9 hwk'=>?_) ts hl Tu z9,(eP:P'=Pp)=xyj hwk' hwk);subst eP;show(υ s1 ya5 nl Bv[Yf YQ],DF hB1[hB.keep λ c o e _=>HC] Tc xHJ x6u Ui Tn x6v,(gr,hrun,Yl)=xrq hWb Ux hwk,(dxp,rp,kp',hpp)=hB1.ob,x4w dxd Bd rd kd hdd hB1,xDu l hl[i' Ws K l E8[λ i σ H2=>∃v4,σ=[xJg,u5,BL,dt,v4]/\xA1 B H2[uL[pP xEM]][T0+xYp]/\∀c o,xLD c->CY->zY->ZL][VC none hB1[λ c o e _ _=>e]][λ i σ H2 _ z9=>xzV kp z9[QK.of[Bo hl Tc Ui]]] ?_ ?_])
 ·rintro i y σ H2 hi ⟨v4,rfl,RT,kp⟩;show(Dr t ht[xtB hi],Sc Su[i<P'.length][Bg xB4[ZZ ht]] hPi[AD P' P'[(i)]] xBX,Tl WW[Tu.2 i t _ ht hPi] hga[gr.at hPi],De ntp t p[xOw hpp A2] ntd[t≠d][xOw hdd A2],o6 htt2[Bo WW ntp ntd] dx r kk Q1 RT.ob,Dd hto[xq6 xEM] Jc hto,[xyQ hPi,xhu,xxB,aU,xdl]);generalize P'[(i)]=xx at*;cases xx with
  |sg s=>
   show((hs:By s)=hga,ω (_,rfl,t,_,_,_,rfl,rfl,ycp,tZ,rfl,_,rfl,xIF gU h)[xzK g2 (_,rfl,p,dx,_,rfl,Q1,ZE,p,d,_,_,0,1,rfl,RT,uJ[IP VY x6N],Z9,Z9,λ H3 VZ Q4=>bf)],YK,o6 htt3[Ga htt2 ntp ntd] Uy r3 kk3 RE VZ.ob,ω (_,rfl,p,Uy,_,rfl,RE,ZE,_,rfl,t,_,_,_,rfl,rfl,QV.of htt3,xp,p,d,_,_,s,8,rfl,VZ,uJ[Ml[IP VY x6N]],Z9,hs,Μ H4 hB4 TH)[xCI ?_[λ c o e n1 n2=>VE xPt n1 n2]],(e5:T0+(xYp+xNJ)=T0+xYp+1+8)=by
    show(RC[xNJ=9],Em Uf kO Iy xWd Yp[EZ kO Uf xWd Iy x8]),LT e5 hB4)
  |cp b z=>
   obtain⟨g1,g2,g3,g4,g5⟩:Hh/\xDJ/\b≤_/\aP/\SY:=hga;show(ω (_,rfl,t,_,_,_,rfl,rfl,ycp,tZ,rfl,_,rfl,xR9 xuf) Zk,HV q2 (_,rfl,p,dx,_,rfl,Q1,ZE,p,d,_,_,1,1,rfl,RT,uJ[IP VY x6N],Z9,Z9,λ H3 VZ Q4=>q2 _ _ ?_))
   clear q2;show(o6 htt3[Ga htt2 ntp ntd] Uy r3 kk3 RE VZ.ob,ZT q2 (_,rfl,p,Uy,_,rfl,RE,ZE,_,rfl,t,_,_,_,rfl,rfl,QV.of htt3,xp,p,d,_,_,b,8,rfl,VZ,uJ[Ml[IP VY x6N]],Z9,(dC[b<2^8][Lf g2]),λ H4 hB4 TH=>q2 _ _ ?_))
   clear q2;show(o6 htt4[VE htt3 ntp ntd] dx4 r4 kk4 YU hB4.ob,SC e1[ST z-3=ST[z-3]][WM g4] (_,rfl,p,dx4,_,rfl,YU,ZE,_,rfl,t,_,_,_,rfl,rfl,QV.of htt4,xQN,_,_,rfl,rfl,?_))
   try dsimp only
   show(dG,ω (p,d,_,_,z-3,4,rfl,hB4,(Bx [_,_,_,_,_][xIA 13[rz 13[Ξ[.m 13 Rn]]]][iK[xMD 13[ZY 13[DT 13 Rn[FJ 13]]]]] xWd xAR VY[IV 13 QY][oM 13 Yl[IP hto[IV 13 Fb]]]),Z9,(by show z-3<2^4;lia),Μ H5 hB5 VR)[xCI ?_[λ c o e n1 n2=>oh[VE xPt n1 n2] n1 n2]],(e5:T0+(xYp+xKq[x0G z])=T0+xYp+1+8+4)=by
    show(RC[xKq[x0G z]=13],Em Uf[.n 13] Iy[CN xWd 4] Yp[EZ[.n 13] Uf[CN xWd 4] Iy x8]),LT e5 hB5)
 ·show(xGO H2 v4 rfl RT kp,xBQ xB4 Ki RT,xJe RT λ c o e n1 n2=>Bo HC n1 n2)
universe K27
namespace L2
open PySem PySem.Spec PySem.Calls PyProof.Rows QQ PySem.W
def Inv.grown {σ:St}{P c':Qq}(I:Wp)(hP:pG P rZ)(k:x8Y P h')(hc:xzW c')
  (U7:p6 c' oc) (hP':p6 P[tabObj[ps++more]]):oa[jZ[zB P xXf] c' oc c'] cv:=by
 show(Sc hn[B7 c'][I.hok.fresh hc] nPc[P≠c'][ai hP hn],SC at_[cj b u xQl[b≠P->uV[(jZ[zB P xXf] c' oc c') b]]][λ {b u} e n=>XV[oQ hn] zi e][ycP [][xFH z z][λ b o _ _ _ e n=>xDK[sF hP n] e][λ b o _ _ _ e n=>xFm[xDK[sF hP n] e]][λ b o _ e n=>?_][λ b o _ e=>?_][λ b xs e=>at_ e[xDl hP A2]][λ b o u e=>at_ e[xDl hP A2]][y8 qs][UF m hm][y8 u] I.bare])
 ·show XV[aj[xXB hc]][aj[sF hP n]] n
 ·by_cases z:b=P
  ·show YI z _ hP'
  ·show AU o[xDK z e]
 ·by_cases z:b=P
  ·show(FD z hP e e,AU more[xJ0 nPc ad])
  ·show AU #[][Di[at_ e z]]
 ·show DR o es ep ho r hm (o,es,ep,Ey o[sF hP I.free] ho,r)
 ·by_cases z:b=c'
  ·show(FD z ad e e,Dj U7 oc U7)
  ·show xCv[aj z];by_cases y:b=P
   ·show(FD y ad e e,hP')
   ·show(xCv[aj y],xFu b u e[λ c v hcb q=>k c v ?_ q][λ c q=>at_ q[aJ q hP A2]][λ c xs q=>at_ q[aJ q hP A2]])
    rcases hcb with hcb|hcb
    ·show LT hcb y
    ·exact aJ hcb hP A2
def on (P:Qq)(H H':Hp):Prop:=∀c o,FL P->Ψ->Cf
def xxJ (P:Qq)(pos:Pos)(qual:Str)(H:Hp):Prop:=∃ps,pG P rZ/\(ps=#[]\/∃c' oc vs t,ps=#[yia,yiv,xAU]/\pG c'[XI oc c']/\oc.data=xSR/\xEp 1[.str qual t])
def xxJ.same (h:x8B H)(s:Χ):x8B H':=by
 show Dq ps e h h[Cm ps xPE];rcases h with h|⟨c',oc,vs,t,a,b,r⟩
 ·show DZ h
 ·show DM (c',oc,vs,t,a,FV b,r)
def xfO (pos)(v):xCA[codeAmong pos [yia,yiv,v]]:=by
 have:=codeAmong_snoc (c:=v) (pos:=pos) [] trivial rfl;show pK
def xba {QD:Κ}{σ:St}(I:Wp)(T:yfn o9 H)
  (Y5:X.env.code=rX) (C:x5C X.base P) (hbm:∃bm o,ygT=π bm/\ycW bm/\yb2 bm/\x0l bm/\ui yap/\ydB/\yds)
  (hdef:yhk X.env=(([],[]))) (hcl:yev=pure clos)
  (h:∀(f c':Qq) (pm ctv:Qr) (H':Hp) (s':Qu),mn->lQ f->xv9 f[x8y o9 clos pm c' ctv]->s'.heap.CodeRec xAU o9->
   (∃oc vs t,TD[H' c'][XI oc c']/\oc.data=xSR/\xEp 1[.str o9 t])->yfn o9 H'->on P H H'->Q HW s'):
  Av[xE[yiw body scope pos]] Q E s:=by
 show(XX[kla_eval hdef ?_] ps hP T T,(hPo:Ii P[tabObj ps])=F8 P hP,DF M I.ok.mod hg[s.heap.Ns mainGlobals X.mg][M.glob.keeps I.bk] hgP[mainGlobals≠P][SZ[by
  show(x75 es ep e hd hg,FZ hPo e e);cases hd]],(hb:s.heap.BuiltinsAt X.mg P)=by
  show((bm,o,b1,b2,b3,b4,b5,b6,b7)=hbm,pY (bm,o,b1,b2,b3,A4,I.bk _ _ b4,b5,b6,b7)[I.bk _ _ b4],Tg hPo);cases b5)
 rcases T with rfl|⟨c',oc,vs,t,rfl,hc',d1,d2⟩
 ·show(kla_makeFunction hcl I.ok.glob hg Y5 yix hPo trivial rfl hgP hb λ c' ctv h' tk hx SD QF hrec htb=>?_,(c2,oc,vs,t,e2,U7,d1,d2)=hrec);cases e2;show(DF I1[I.grown (t':=tk) hP hx SD U7 htb] hn[B7 c'][I.hok.fresh SD] nPc[P≠c'][ai hP hn],Iu I2[x0H tk (h':=h'.push[x8y o9 clos[ydL x9X] c' ctv]) (λ b u e=>qH)] hoc2[VA[h'.push[x8y o9 clos[ydL x9X] c' ctv]] c' oc][Ze U7][yiy c' _ ctv _ _ I2 x6n BH[Hx c' oc vs t hoc2 d1 d2] (oc,vs,t,ad,d1,d2)[CS[xJ0 nPc ad][.inr (c',oc,vs,t,Z6,ad,d1,d2)]] λ b o n e=>?_],XV[oQ hn] zi e)
 ·show(SC U7[Ii c' oc] (F8 _ hc').1[kla_makeFunctionHit hcl I.ok.glob hg Y5 yix hPo[by simp [TriplesOk,rawInt]][xfO pos _] hb λ ctv h' tk hk hsz=>?_],χ I2[x9k tk (h':=h'.push[xEx "function"[.func[x9R o9 params body scope clos[ydL x9X] xAU ctv]]]) (λ b u e=>Ze[hk b u e])][yiy c' _ ctv _ _ I2[x0T hsz hsz] BH[Hx c' oc vs t[Ze[hk _ _ U7]] d1 d2] (oc,vs,t,hc',d1,d2)[CS hP[.inr[Hx c' oc vs t hc' d1 d2]]] λ b o n e=>e])
def xyK (X:Cx) (N:CI) (qual:Str) (scope:Scope) (cl:jx) (f:Qq) (cd:Qr) (A:Qy) (s:Qu) (H:Hp):Cx where
 prog:=X.prog
 w:=X.w
 K:=X.K
 mg:=X.mg
 base:=X.base
 A:=A.deeper[x5T f cd cl]
 N:=N
 s₀:=s
 H₀:=H
 env:=x5T f cd cl
 outer:=X.stack
 stack:=x5T f cd cl::X.stack
 ex:=[]
 calm:=true
 fn:=ybl
 pn:=[]
 xe:=si
structure LCaps (X:Cx)(y:Str)(Nc:CI)(scope:Scope)(cl:jx)(js:LE):Prop where
 kind:xLl
 co:AG scope.isCoroutine
 gen:AG scope.isGenerator
 nocell:xPc
 par:x0R y
 clos:yev=pure cl
 sub:∀x c,xLe x c->X2
 has:∀x,(x5n x\/xSu x .free)->∃c,xLe x c
 len:js.length=Nc.length
 slot:xP3 i x Str j Nat[zv Nc->AD js j->u9 X.N x/\x8R x .cell/\xSu x .free/\∀c,X2->xLe x c]
def xuO (js:LE) (σ:St) (v:V):St:=Ha::yew[xLN[σ[j]?]]
def Da {σ:St}(I:Wp)(C:yeY y Nc scope cl js)(r:eh)
  (hn:ygx[SZ[([((y,u))]:xEH Qr).reverse.lookup z]]) (hk:∀b o,DA->Et):
  xBV[xyK X[y::Nc] qual scope cl f cd X.A.in1 s H][xuO js σ v] H cv:=by
 show(υ e0 I.env0.in1 noA[∀b,b∉(xyK X[y::Nc] qual scope cl f cd X.A.in1 s H).ex][rV b z[Dx b ([]:AH) z] Z6],SC sub[cj x c[TD[yin[xyK X[y::Nc] qual scope cl f cd X.A.in1 s H]] c] X2][λ {x c} e=>C.sub x c e] ((I.ok.mod,C.kind,rfl,rfl,ρ,λ x z c e1 e2=>I.ok.inj x z c[sub e1][sub e2],DX[C.has x hx],λ x c e _=>xCN,e0.qt,yfW,fV,
  rV b z z xNm,I.bs,e0.bsz,λ b _ _=>xNm,rV b z z xNm,e0.funs,e0.frf),
  rfl,I.bare,ycg,CS hn[λ i x v' h1 h2 h3=>?_],fK x c,Am,λ x c e=>xVP xVV,rV p hp[Dx p ([]:Κ) hp] Z6,yi8,?_))
 ·cases i with
  |zero=>
   have Ul:xWL y x:=h1;cases Ul;have W2:xWL Ha ydR:=h2;cases W2;show pJ u r[.inl[FQ C.par]];show uV[([((y,u))]:xEH Qr).reverse.lookup y];simp [List.lookup]
  |succ i=>
   show(Sc Ul[zv Nc] h1 W2[AD[yew[xLN[σ[j]?]]] ydR] h2,kH W2);cases ej:js[i]? with
   |none=>show AQ ej W2 W2
   |some j=>
    show(xU ej W2 h3'[TD[xLN[σ[j]?]] v'][JA W2],Zl hj1 hk1 Uk hc[C.slot i x j Ul ej] VN[u9 σ ydR][by
     cases e:σ[j]? with
     |none=>show tO h3' h3'
     |some w'=>show lG h3'[aS h3']],(mo,hno,hl)=I.loc,Dq u' r' l[hl j x v' hj1 VN[.inr[.inl hk1]]][Cm u' r']);rcases l with⟨q,_⟩|⟨_,c,ec,o,ho,hd⟩
    ·show(vO xQ8 q,AQ hk1 q' q')
    ·show DM (.inr Uk,c,hc c ec,o,hk c o ho,hd)
 ·show C5 v' o ho hd[xVQ xVV] (v',o,hk c o ho,hd)
 ·show BD[Ha::yew[xLN[σ[j]?]]] (y::Nc).length;rw [Jn,IS,C.len,Jn]
def xa1 {X:Cx}{QD:Κ}{σ:St}{H:Hp}{s:Qu}{y:Str}{Nc:CI}{qual:Str}{params:Arguments}{body:QA}{scope:Scope}{cl:jx}{js:LE}{f c':Qq}{pm ctv:Qr}{te:TE}{k:Nat}{v:V}{u:Qr}{Q:VK}{E:Ak}
  (I:Wp) (C:yeY y Nc scope cl js) (hr:xE6[k+2]) (hf:Ii f[x8y qual cl pm c' ctv]) (Ue:s.heap.CodeRec xAU qual)
  (Xt:∀u,yeL[x9R qual params body scope cl pm xAU ctv] YG=pure [((y,u))]) (r:eh)
  (he:PE[xyK X[y::Nc] qual scope cl f xAU X.A.in1 s H] body te) (hq:te[xuO js σ v] H Q):
  ycx xXc oN E s:=by
 show(SC hd[yby X.A.in1.depth] (show QJ[k+1] X.A.in1 from hr.in1).depth[OJ[kla_callFunE hd hf rfl C.co C.gen rfl Ue ?_]],Γ Xt[Jr[wpAny_newFunctionEnv C.nocell[UF z hz][λ h₁ hns hsb=>FQ[(I.ok.mod.nolimit.keeps I.bk).fresh _ hsb]] C.kind]])
 ·show LT[JC.mp hz] C.par
 show codeAny _ _[.expr body[x5T f xAU cl]] _ _;show(SC hk₁[∀b o,Uz DA[h₁.get? b]][λ b o e=>yjZ o xWb qH][kla_codeExpr[ZW[he [] _[xuO js σ v] H Q[Da I C r hns hk₁] hq][xEr w' hs] z xKL]],DR v' H' J r' q hs[I.after (v',H',J.os,J.bare,J.base,J.hok,r',q)])
def xsz.at (f:jM b)(n:xAX):lQ b:=(n,f.2)
def xhG {X:Cx}{QD:Κ}{σ:St}{H:Hp}{l f I S:Qq}{xs:Sy}{of:QB}{Q:VK}{E:Ak}(kf:DQ Int)(hh:bu)(hq:xFz l xs)(hf:∀v,of.data≠ xGx)
  (step:∀(Rq:Κ) (s':Qu) (H':Hp) (i:Nat) (v:V) (u:Qr),xJM H' s'->xv9 f of->Χ->xDv->eh->
   ycx xXc[xuL X Rq σ λ r H''=>r=xKs i/\K' H' H''] si s')
  (fin:Xx i Nat v V[xDv->rL[xQf->T9≤xQB/\(j<i->T9<xQB)]->Χ->xJk]) (hSI:S≠I):
  ∀(r j i:Nat) (s':Qu) (H':Hp) (vb:V) (ub:Qr) (tb:Tok) (c:Nat),p9[j+1]=r->xEI[j+1]->mn->Χ->lQ I->lQ S->lQ f->f≠I->f≠S->
   xv9 f of->xv9 S[xvV #[ub,xKs i tb] c]->s'.heap.IsListIter I l[j+1]->AD xs vb->RelV vb ub->xDP->EN j'[pQ j'->T9≤kf j'/\(j'<i->T9<kf j')]->
   x2q X.A[.builtin "min.loop"[sG [.ref I,HW,.ref S]]][λ r Uh=>match r with| .ok[.ret v]=>oN v Uh| .ok _=>False| .error e=>E e Uh] s':=by
 have Xr:(yiz++yhK:String)="min.loop":=Z9;intro r
 induction r with
 |zero=>
  intro j i s' H' vb ub tb c hr hj J sm fI fS ff nfI nfS hfo hSo hit hvb rb hij V3;show((hin:x0L[j+1])=IT hj[xKi hr],xzN rv pl hz[J.list[sm.seq hq]],υ Su rv.length hlI[XB I][SZ[by
   show((o,e,hc,n,hd)=pl.isList,(o2,e2,ec,ed)=hit,gH e2 e,e'=JA e);rw [<-e',ed] at hd;cases hd]],Iu W[ydx (w:=X.w) (A:=X.A.in1) hh I l hlI its.toArray] hsz yaj[Jj ..][Ox OF ?_],[O8 LK _],xEm[xLF[.ref S] _][N5 hSo rfl ?_],xEm[xLQ[yb5 I]>>= _][N6[W.done _ _ _ (by show([hsz,-Su,-hin],hit),pl.isList)[qr tk' hk']]],eN J1[F7 {s' with heap:=h',toks:=tk'}][J.turned (it:=I) (λ b o n e=>hk' b o ydf e) fI.1[AV fI][eA fI][Fn fI][xBP fI]] hS'[hk' S _ ybC hSo],x7M[updateSeq S[λ _=>#[]]>>= _],xz4 ?_[x9Y hS'[IX[Pm yG]]],xJ8 vb H'[J1.turn fS] rb[fin i vb H' hvb[λ j' hj'=>V3 j'[uW [_,_,_] tF x5s[IR hin.symm] hj']] sm])
 |succ r ih=>
  intro j i s' H' vb ub tb c hr hj J sm fI fS ff nfI nfS hfo hSo hit hvb rb hij V3;show((QF:xEK[j+1])=OU hr,xzN rv pl hz[J.list[sm.seq hq]],υ Su rv.length hlI[XB I][SZ[by
   show((o,e,hc,n,hd)=pl.isList,(o2,e2,ec,ed)=hit,gH e2 e,e'=JA e);rw [<-e',ed] at hd;cases hd]],Iu W[ydx (w:=X.w) (A:=X.A.in1) hh I l hlI its.toArray] hsz yaj[Jj ..][Ox OF ?_],[O8 LK _],xEm[xLF[.ref S] _][N5 hSo rfl ?_],xEm[xLQ[yb5 I]>>= _][N6[W.item[j+1] _ _ _[LT hsz[Jq QF Su]] (hit,pl.isList) λ u h' tk' hP VV hk'=>?_]],xwM hu[Cs its[j+1] u] xTS oI' hoI' U7 hod[id VV.1],aD v hv rvu v[Cs xs[j+1] v/\eh][by
   show((u',e3,r3)=xH9[j+1] xs[(j+1)][IW QF],AQ hu e3 e3,iu[IW QF] r3)],(J1:F7 {s' with heap:=h',toks:=tk'})=J.turned (it:=I) (λ b o n e=>hk' b o ydf e) fI.1[AV fI][eA fI][Fn fI][xBP fI],XF hS'[hk' S _ ybC hSo] hf'[hk' f _[by simpa using nfI] hfo] Jp[J1.pinned (fp:=[I,S,f]) (Bm[by
   show qT
   ·exact fI
   ·show qT
    ·exact fS
    ·show xEg ff])[Bm[by
   show qT
   ·show iu hoI'[λ v z=>qX hod]
   ·show qT
    ·show iu hS' xtZ
    ·show xEg[CS hf' hf]]]],xEm[xLQ[xVe u xXc]>>= _][N6[KW[ZW[step _ _ H'[j+1] v u Jp hf' sm hv rvu][Μ x Uh he] hF hF.elim]]],(rv',H2,J2p,rr,re,sm2)=he);subst re;show(vk t2 t[x=Ud[kf[j+1]]] rr,(pin:∀{b:Qq} {o:QB},b∈ [I,S,f]->Et->Gr yiA/\Θ[H2 b])=λ {b o} hb e=>xCM[J2p.pin ((b,o)) xC4] xVp ydT,DW gI nI[xNd hoI'] gS nS[xNd hS'],(gf,nf)=xNd hf',Tl J2 J2p.unpinned sm02[sm.trans sm2],(hit2:Uh.heap.IsListIter I l[j+1+1])=(oI',gI,U7,hod),x7M[xLQ[holding [u,fG[j+1]][richCompare .Lt[fG[j+1]][xKs i tb]>>= _]]>>= _],qc[N6[KW[IX[CmpOf.ints_lt (prog:=X.prog) (w:=X.w) (A:=X.A.in1) (P:=λ i v=>X6[v=Ud T9]) kf[λ i v h=>h][j+1] i _ _ _ _ _[Gs t2][Gs tb] ?_]]]][KW x72],Gp[Pm yG]);by_cases RJ:kf[j+1]<T9
  ·show xEC c2 hc2 c2[TD[xEO S[x0f #[u,fG[j+1]]] S][xvV #[u,fG[j+1]] c2]][EX[Ot gS λ _=>#[u,fG[j+1]]]];simp only [RJ,decide_true,if_true];show(xz4 ?_[x9Y gS[IX x5d]],[Xr],χ fS2 ydM[Jr (x0V _,ih[j+1][j+1] _ H2 v u t2 c2[yhl hr] QF yjp sm02 ycX fS2 ycY nfI nfS ?_ hc2 (oI',?_,U7,hod) hv rvu ρ[UF j' hj'])])
   ·show xEO S _ f=_;show xD6 nfS gf
   ·show xEO S _ I=_;show xD6 hSI.symm gI
   ·by_cases e:j'=j+1
    ·show(DD,AU yjq[A9 h xFG])
    ·show xCM[V3 j' Z5][Int.le_trans[Qm RJ] xVp][λ _=>Int.lt_of_lt_of_le RJ xVp]
  ·simp only [RJ,decide_false,LH,Og];show(Gp x5d,Γ Xr[Jr (x0V _,ih[j+1] i _ H2 vb ub tb c[yhl hr] QF J2 sm02 ycX ydM ycY nfI nfS gf gS hit2 hvb rb[KN hij][UF j' hj'])]);by_cases e:j'=j+1
   ·show(DD,AU[Int.not_lt.mp RJ][λ _=>Z5])
   ·exact V3 j' Z4
def xbg {X:Cx}{QD:Κ}{σ:St}{H:Hp}{s:Qu}{l f:Qq}{xs:Sy}{of:QB}{Q:VK}{E:Ak}(I:Wp)(kf:DQ Int)(hh:bu)(hq:xFz l xs)(RI:xEK 0)(hf:∀v,of.data≠ xGx)(ff:jM f)(hfo:Ii f of)
  (step:∀(Rq:Κ) (s':Qu) (H':Hp) (i:Nat) (v:V) (u:Qr),xJM H' s'->xv9 f of->Χ->xDv->eh->
   ycx xXc[xuL X Rq σ λ r H''=>r=xKs i/\K' H' H''] si s')
  (fin:Xx i Nat v V[xDv->rL[xQf->T9≤xQB/\(j<i->T9<xQB)]->Χ->xJk]):
  Av[xz8 "min" [Ct] xEb] oN E s:=by
 show((Xr:(yiz++yhK:String)="min.loop")=Z9,xEk rv,Iu Su rv.length hll[xv4 l][xK2 o e pl.isList FU][kmk_tree PySem.F.kind_min PySem.F.plain_min PySem.F.entry_min[kmk_min_key _ _] ?_],V' X.A.in1[yfS ["key","default"] 0 ([],xEb)>>= _] s,qc[ybj[CA[yfS ["key","default"] 0 ([],xEb)][pure [kZ,none]]]] yG,qc yiS[x0Q B1],[Xr],Sc hS[xND=Hl][size_push' ..] hlI[xEV l][Kf hll],SC hSI[xEV xND][LT hS[K4 QI]][Jr[FQ[x0V _]]],Sc Uv[∀b o,DA->xMo xOR b][λ b o e=>Ze qH] gI[VA xOR s.heap.objs.size[x0t "list_iterator" ybO]][Ze BH],Sc gS[VA xOR xND[xvV #[] 0]] BH fI[jM s.heap.objs.size][I.fpOk ρ Am],Sc fS[jM xND][x0T[LT hS xN4][LT hS xN4]] nfI[xEV f][Kf[JE hfo]],De nfS f xND[LT hS[Kf[NX[JE hfo]]]] J0[xYr xOR][x2X Uv],eN hl0[(xOR).IsList l its.toArray][Ie o e r pl.isList[kc[Uv _ _ e] r]] hf0[Uv _ _ hfo],xEF xND S xOR h0);generalize s.heap.objs.size=Ia at*;show(Iu W[ydx (w:=X.w) (A:=X.A.in1) hh Ia l hlI its.toArray] hsz yaj[Jj ..][Ox OF ?_],[O8 LK _],xEm[xLF[.ref _] _][N5 gS rfl ?_],xEm[xLQ[yb5 Ia]>>= _][N6[W.item 0 _ _ _[LT hsz[Jq RI Su]] (xAY _ gI,hl0) λ u h' tk' hP VV hk'=>?_]],xwM hu[Cs its 0 u] xTS oI' hoI' U7 hod[id VV.1],aD v hv rvu v[Cs xs 0 v/\eh][by
  show((u',e3,r3)=xH9 0 xs[(0)][IW RI],AQ hu e3 e3,iu[IW RI] r3)],(J1:Zu[mI h' tk'])=Inv.turned (s:=mX h0) (it:=Ia) J0[λ b o n e=>hk' b o ydf e] fI.1[AV fI][eA fI][Fn fI][xBP fI],XF hS'[hk' S _ ybC gS] hf'[hk' f _[by simpa using nfI] hf0] Jp[J1.pinned (fp:=[Ia,S,f]) (Bm[by
  show qT
  ·exact fI
  ·show qT
   ·exact fS
   ·show xEg ff])[Bm[by
  show qT
  ·show iu hoI'[λ v z=>qX hod]
  ·show qT
   ·show iu hS' xtZ
   ·show xEg[CS hf' hf]]]],xEm[xLQ[xVe u xXc]>>= _][N6[KW[ZW[step _ _ H 0 v u Jp hf' xZ hv rvu][Μ x Uh he] hF hF.elim]]],(rv',H2,J2p,rr,re,sm2)=he);subst re;show(vk t2 t[x=Ud[kf 0]] rr,(pin:∀{b:Qq} {o:QB},b∈ [Ia,S,f]->Et->Gr yiA/\Θ[H2 b])=λ {b o} hb e=>xCM[J2p.pin ((b,o)) xC4] xVp ydT,DW gI2 nI[xNd hoI'] gS2 nS[xNd hS'],(gf2,nf)=xNd hf',J2=J2p.unpinned,xEC c2 hc2 c2[TD[xEO S[x0f #[u,fG 0]] S][xvV #[u,fG 0] c2]][EX[Ot gS2 λ _=>#[u,fG 0]]],x7M[updateSeq S[λ _=>#[u,fG 0]]>>= _],xz4 ?_[x9Y gS2 ?_],[Xr],χ fS2 ydM[Jr (x0V _,xhG kf hh hq hf step fin hSI _ 0 0 _ H2 v u t2 c2 rfl RI yjp sm2 ycX fS2 ycY nfI nfS ?_ hc2 (oI',?_,U7,hod) hv rvu ρ[UF j' hj'])])
 ·show xEO S _ f=_;show xD6 nfS gf2
 ·show xEO S _ Ia=_;show xD6 hSI.symm gI2
 ·show(C7[j'=0][xRp[qG Hc Hc hj']],DD,AU yjq[A9 h xFG])
inductive xly (K:Frag) (P:Qq) (pos:Pos) (qual:Str) (js:LE) (te:TE) (σ:St) (Q:VK) (zs:Sy) (H1:Hp):Prop
 |mk (p:Qq) (xs:Sy) (kf:DQ Int) (h0:zs=Cg) (h1:xY1 p xs) (h2:xEK 0) (h3:x8B H1) (h4:(∀c xs,xY1 c xs->FL P)) (h5:∀H2,on P H1 H2->x8B H2->(Xx i Nat v V[xDv->xEz H2->te[xuO js σ v] H' λ r H''=>r=xKs i/\K' H' H''])/\Xx i Nat v V[xDv->rL[xQf->T9≤xQB/\(j<i->T9<xQB)]->xEz H2->xJk]):xly K P pos qual js te σ Q zs H1
def xdM (K:Frag)(P:Qq)(pos:Pos)(qual:Str)(js:LE)(te:TE)(t:TA):TE:=λ σ H Q=>ku zs[xly K P pos qual js te σ Q zs H1]
def xcn {X:Cx}{k:Nat}{e:QA}{body:QA}{te:TE}{p:Pos}{kp:Pos}{pos:Pos}{lpos:Pos}{y:Str}{Nc:CI}{scope:Scope}{params:Arguments}{cl:jx}{js:LE}{P:Qq}{c:Qq}{t:TA}(hn:bu)(hr:xE6[k+2])(hg:xFp "min")(hm:xLz "min")(C:yeY y Nc scope cl js)(Y5:X.env.code=rX)(hC:x5C X.base P)
  (hbm:∃bm o,ygT=π bm/\ycW bm/\yb2 bm/\x0l bm/\ui yap/\ydB/\yds)
  (hdef:yhk X.env=(([],[]))) (Xt:∀(pm cd ct u:Qr),yeL[x9R o9 params body scope cl pm cd ct] YG=pure [((y,u))])
  (he:∀f c' s H,PE[xyK X[y::Nc] o9 scope cl f xAU X.A.in1 s H] body te) (ha:Gu [e] t)
  (hee:AJ[xLn[e:: []]=yg::xW0]) (Tp:yfC)
  (QZ:AJ ((backToKw pos[keywordEach [(some "key",.Lambda params body scope lpos,kp)] X.env]).all (·.1.isSome)=true))
  (hkw:AJ ((backToKw pos[keywordEach [(some "key",.Lambda params body scope lpos,kp)] X.env]).any (·.1.isNone)=false))
  (hfm:AJ ((backToKw pos[keywordEach [(some "key",.Lambda params body scope lpos,kp)] X.env]).filterMap (·.1)=[("key":Str)])):
  AN[xSB "min" p [e] [(some "key",yiw body scope lpos,kp)] pos][xdM X.K P lpos o9 js te t]:=by
 intro QD s σ H Q I h;show(ω[Lk[xRO[show xKJ "min"[.builtin "min"] from Z8] ?_]][ygq e (rest:=[]) xQZ hee Tp QZ hkw],xKc vs H1 I1 r1 q1,(l,xs,kf,rfl,hq,RI,hT,hnP,q)=q1,lE u ru r1,Hu[u=Value.ref l] ru,tI[kws_cons[xba I1 hT Y5 hC hbm hdef C.clos λ f c' pm ctv H2 s2 I2 ff hfo Ue hrec hT2 sT=>kws_nil ?_]] hfm,(qs,qf)=q H2 sT hT2,V' _[xz8 "min" [Ct] xEb] s2,SC VX[QK X.K H2 l xs][by
  rcases hq with hq|hq
  ·show x2Z hq o z
   ·show xV2[qz[hnP l xs[.inl[.inl z]]] z]
   ·show DZ[x4 o[qz[hnP l xs[.inl[x4 o z]]] z]]
  ·show DM hq][xbg I2 kf hn VX RI[λ v z=>xCO] ff hfo[λ Rq s' H' i v u J hfo' sm hv ru=>?_] qf],(oc,vs',t,hc,d1,d2)=hrec,DC U7[xv9 c' oc] (J.hok _ _[y9 hc]).1[xa1 J C hr hfo'[Hx c' oc vs' t U7 d1 d2][λ u=>Xt _ _ _ u] ru[he f c' s' H'][qs i v H' hv sm]])
def xxP.weak {K:Frag}(F:uM P w K CX k f fd ps sp)(h:∀vs H Q E,sp' vs H Q E->qA):uM P w K CX k f fd ps sp':=
 (λ vs H Q E z=>F.len vs H Q E[wF _ _ z],λ A outer s H args us vs Q E hr e0 hb r z=>xUn A s H args us vs Q E hr e0 hb r[wF _ _ z])
inductive xmy (P:Qv) (w:Qw) (K:Frag) (mg:Ι) (base:Qz) (k:Nat) (m:Str) (t:TA) (σ:St) (Q:VK) (x:V) (H1:Hp):Prop
 |mk (a C dx:Qq) (fs:ug) (f:Qq) (fd:Qx) (ps:CI) (sp:Sp) (h0:x=AO) (h1:kF[H1 a] fs) (h2:ybn m) (h3:Es) (h4:xRo m f) (h5:xI3 k) (h6:vc) (h7:xYx[jh vs[sp[x::(vs++[])] H2 Q E0]]):xmy P w K mg base k m t σ Q x H1
def xp2 (P:Qv)(w:Qw)(K:Frag)(mg:Ι)(base:Qz)(k:Nat)(m:Str)(ta:TE)(t:TA):TE:=λ σ H Q=>S7[xmy P w K mg base k m t σ Q x H1]
def xmC {X:Cx}{o:QA}{e:QA}{es:EB}{m:Str}{apos:Pos}{pos:Pos}{k:Nat}{ta:TE}{t:TA}{P:Qv}{w:Qw}{K:Frag}{mg:Ι}{base:Qz}{pl:xF6}(hP:X.prog=P)(hw:X.w=w)(hK:X.K=K)(hmg:X.mg=mg)(hb0:X.base=base)(he:xDz)(hr:oq)(ha:wO)
    (RQ:AJ[ml=yg::mz]) (Rv:vH)
    (ht:AJ[xE xC3=(do
      let ov<-jn
      xER
      let((f,first))<-xE0 xJb ov m pl
      xJI x5X)]):
    AN xC3[xp2 P w K mg base k m ta t]:=by
  subst hP hw hK hmg hb0
  intro QD s σ H Q I h
  show(x46 pl xOk ht,(x,H1,I1,rx,a,C,dx,fs,f,fd,ps,sp,ex,ea,l,c,hm,F,hb,q)=z9,WR[u=aI],WC[xZg c hm l ?_][M4 (first:=F5) (h₀:=X.base) I.ok.mod.kin hm.kp[thn[x1k s1 H1 _ I1 q][x90 s2 ydk]] RQ Rv][xVU[AO::us] (vs:=AO::vs) F hr hb .nil bA I2[x2T r] q2])
abbrev xu0 (mg:Ι)(h:Qz):Prop:=∃bm o,mg "__builtins__"=π bm/\ycW bm/\yb2 bm/\jI bm o/\ui yap/\ydB/\yds
def xhW {K:Frag}
  (KX:K.In s₁.heap) (hns:s₁.heap.Ns mainGlobals mg) (hb:s₁.heap.Ns builtinsNs mb) (hbb:∀x:Str,xPF->mb x=yiO) (hlim:s₁.heap.NoLimit) (hg:s₁.gens=#[])
  (ha:yaq a xWj) (hi:xOV) (hl:ykv) (hr:mr callerA)
  (hT:yaq Tb[tabObj #[]]) (hC:x5C s₁.heap Tb) (hKT:yX) (hbm:xu0 mg s₁.heap)
  (F:∀base:Qz,yc8->xYu->Vn->jQ->uM P w K QM k fa fd Dt sp) (Xt:∀(s:Qu) (u:Qr),xIC s YG [((x,u))])
  (Vd:∀H:Hp,xQ5 a->pG Tb xLG->a≠Tb->sp F5 H[λ v _=>v=x5] x0W):
  xAk[ye8 w] callerA ydQ x5L[λ r s'=>r=.ok ydY/\ycH/\yeT/\xKG] s₁:=by
 show(Tl rv[xhY hi] lenV hi.length,De naT a Tb[SZ[FZ hT ha ha]] core[∀H,EN b[b≠Tb->Hg\/∃ob xs,wj[.frz ob xMh]]->pG Tb xLG->xQ5 a->xA5 H s₁.heap->EN b[uC≠none->b=a\/b=Tb]->(Υ≠none->Θ[K.lookup a])->
   xAk[ye8 w] callerA ydQ x5L[λ r s'=>r=.ok ydY/\ycH/\yeT/\xKG] s₁][by
  intro H hO hHT hS hok hA hK;show(Sc base_of[cj b o[xS3 b][Hg->xMo xHH b]][λ e n=>xaz e n] noH[cj b o[xS3 b][(b=a->False)->(b=Tb->False)->Hg]][λ {b o} e n1 n2=>by
   cases q:uC with
   |none=>rfl
   |some u=>
    show II[hA b[Di q]]
    ·show rT[n1 z]
    ·show rT[n2 z]],Sc noA[∀{b} {o} {es:Array DictEntry} {ep:Nat},xS3 b->fQ[x43 es]->Hg][λ {b o es ep} e d=>noH e[SZ[by
   show(FD z ha e e,(d':x9D _=yj5 ep)=d);cases d']][SZ[by
   show(FD z hT e e,(d':xU3 #[][yj5 ep])=d);cases d']]] nsK[cj b m[s₁.heap.Ns b m][(xHH).Ns b m]][λ {b m} ⟨o,es,ep,e,d,r⟩=>(o,es,ep,base_of e[noA e d],d,r)],Sc hKb[K.In xHH][λ b o e=>base_of[KX b o e][by
   cases q:uC with
   |none=>rfl
   |some u=>
    show II[hA b[Di q]]
    ·show FD z[hK[Di q]] e e
    ·show FD z hKT e e]] hM[Mod K mg xHH] (hKb,nsK hns,(mb,nsK hb,hbb),let(mc,h1,h2):=hlim;(mc,nsK h1,h2)),Sc hCb[x5C xHH Tb][by
   show((o,vs',file,tf,flags,tg,inF,text,tt,e1,r1,r2,r3,r4,r5,r6,r7,r8,RI)=hC,(o,vs',file,tf,flags,tg,inF,text,tt,base_of e1[noH e1[SZ[by
    show(FD z ha e1 e1,(r2':x9D _=Data.fields vs')=r2);cases r2']] RI],r1,r2,r3,r4,r5,r6,r7,r8,RI))] hBb[xu0 mg xHH][by
   show((bm,o,b1,b2,b3,b4,b5,b6,b7)=hbm,(bm,o,b1,b2,b3,base_of b4[noH b4[SZ[by
    show(FD z ha b4 b4,(b7':x9D _=Data.plain)=b7);cases b7']][SZ[by
    show(FD z hT b4 b4,(b7':xU3 #[] Data.plain)=b7);cases b7']]],b5,b6,b7))],SC e0[xzm P w K mg xHH callerA [] s₁ H] (rfl,hM,λ b o e=>xbB e,IR[xhx _ _],trivial,rV b hb[Dx b ([]:AH) hb] Z6,hok,.of_eq hg,bK)[Oc[(F _ hKb[nsK hns] hCb hBb).run callerA [] s₁ H x5L F5 F5 _ _ hr e0[Xt s₁ AO][lp rfl][Vd H hS hHT naT]][xEr r h]])
  cases r with
  |error e=>show XZ h
  |ok fl=>
   cases fl with
   |next=>show XZ h
   |brk=>show XZ h
   |cont=>show XZ h
   |ret u=>
    show(Fw v H' os bare un hok' r' q,vO[v=x5] q);subst q';show(Hu[u=Value.bool true] r',xMv keep[∀b o,b≠Tb->Uz[xS3 b][s'.heap.get? b]][λ b o n e=>by
     cases q:uC with
     |none=>exact un.keep b o e q[by show(Sf,E9[Dx b ([]:AH) z] Z6)] Z6
     |some u=>
      rcases hO b n with z|⟨ob,xs,z⟩
      ·show qX q
      ·show(z2=un.frzs b ob _ z,ycq[hok b _ z],(e2,_)=hok' b _ z2,tO e1 e1,e2)] more hm[un.tbls Tb #[] hHT],SC hTo[xv9 Tb[tabObj[#[]++more]]][hok' Tb _ hm][xPS (y8 o,y8 o) os bare])
    ·by_cases z:b=Tb
     ·show(FD z hT e e,DM[.inl[mO (hC.tab hT).isCodeTable #[] more rfl hTo]])
     ·show DZ[xM8 o z e]
    ·by_cases z:b=Tb
     ·show YI z _ hTo
     ·show AU o[xM8 o z e]])
 cases hk:K.lookup a with
 |some o=>
  show(Y7[KX a o hk],yb ha,core[λ b=>xH6 b Tb xLG none][λ b n=>.inl[Jk n]] CD[.inr[u7 _ vs.toArray _ hk rfl[XV Jj lenV hl][by simpa using rv]]][Μ b u z][UF b z][RO[Jk naT]])
  ·by_cases hb:b=Tb
   ·show(xLc z'[Ju hb] z,xBJ,DN hb hT)
   ·show(xLc z' xVX z,xBJ)
  ·by_cases hb:b=Tb
   ·show DM hb
   ·show E9 xVX z
 |none=>
  refine core[λ b=>xH6 b Tb xLG[xH6 b a[.frz xWj[.lst Aq]] none]][UF b n] CD[.inl[x4 xWj[by show yN[a=Tb]=_;show Wf naT CD]]][Μ b u z][UF b z] λ _=>hk
  ·by_cases hb:b=a
   ·show DM[CS _[xUz n[Ju hb]]]
   ·show DZ[xUz n xVX]
  ·by_cases hT':b=Tb
   ·show(xLc z'[Ju hT'] z,xBJ,DN hT' hT)
   ·by_cases hb:b=a
    ·show(xLc z'[xUz hT'[Ju hb]] z,xBJ,DN hb (ha,Gk hl,vs,_,rv,ha))
    ·show(xLc z'[xUz hT' xVX] z,xBJ)
  ·by_cases hT':b=Tb
   ·show DM hT'
   ·by_cases hb:b=a
    ·show DZ hb
    ·show E9[xUz hT' xVX] z
def walk_ofT {l:PySem.W.OpenLaw}{K:Params->Frag}{sp:Qw->Sp}
  (hn:x31 n) (TK:xF n) (hdf:yag []) (hr:mr callerA)
  (hY:tK w Qw h Qz[YP w h][xNf h/\jI Tb[tabObj #[]]]) (hC:∀w:Qw,Ty[codeHdIn qD c Tb]) (hKT:∀w:Qw,o4 qD Tb)
  (F:∀(w:Qw) (mg:Ι) (fa:Qq) (h:Qz),xNf h->xB8->ydb=π fa->
   ∃fd:Qx,(∀(s:Qu) (u:Qr),xIC s YG [((x,u))])/\
    ∀base:Qz,xNf base->xYu->Vn->jQ->uM l.prog w qD QM k fa fd Dt[sp w])
  (Vd:∀(w:Qw) (H:Hp) (a:Qq) (ns:Za),x1Q->QK qD H a Aq->pG Tb xLG->a≠Tb->sp w F5 H[λ v _=>v=x5] x0W):
  yib loose XP YP l.row.toRowW d [][λ f vs=>ya0 vs]:=by
 show(zJ[Att.xfb hn hdf λ w s₀ s₁ mg mb fa o pm cd doc a vs ns G Y ho hd Ue hmg hobj hints hlen hg=>?_] KX hT[hY w _ Y],(fd,hb,hF)=F w mg fa _ KX G.T.g hmg,DC hbm[xu0 mg s₁.heap][by
  show((bm,ob,b1,b2,b3,b4,b5,b6)=G.T.bmain,(bm,ob,b1,b2,A4,b3,b4,b5,b6),x75 es ep e hd G.T.g,FZ e b3 b3,AQ hd b6 b6)][xhW KX G.T.g G.T.b G.T.builtins G.T.nolimit hg hobj hints[IY hlen TK] hr hT[codeHd_of_K KX[hC w]][hKT w] hbm hF hb λ H hS hHT na=>Vd w H a ns hlen hS hHT na])
universe L2
namespace L2
open PySem
def xfS {a b x:Str}{i j k:Nat}(h1: zv [a,b])(h2: AD [none,some k][some j]):x=b/\j=k:=by
 rcases i with _|_|i
 ·cases h2
 ·show xJj qg
 ·show xAJ
def slots3 {a b c x:Str}{i j k l:Nat}(h1: zv [a,b,c])(h2: AD [none,some k,some l][some j]):(x=b/\j=k)\/(x=c/\j=l):=by
 rcases i with _|_|_|i
 ·cases h2
 ·show xJj x3A
 ·show xJj fV
 ·show xAJ
def slotsL {b c x:Str}{i j k l:Nat}(h1: zv [b,c])(h2: AD [k,l] j):(x=b/\j=k)\/(x=c/\j=l):=by
 rcases i with _|_|i
 ·show xJj x3A
 ·show xJj fV
 ·show xAJ
universe L2
namespace K27
open PySem L2 QQ W17 W16 BP
seal PE PA PS PSs PT PW PG PI
def SI (u:Nat)(W T:LE)(ps:B4):Prop:=
 match u with
 |0=>ps=ko
 |1=>ps=yeZ T
 |2=>∃Pp,xRZ[W++T]/\ps=x6Z
 |3=>∃(Pp:M') (L:LE) (It:xAi) (b:Nat),xRZ[W++T]/\xCV xUi/\xLv 0 0 It 272 b/\ps=sU++xFV
 |_=>False
structure TW (T W:LE):Prop where
 tb:xRd
 one:xTX
 le:jW
 wb:Zo W
 wl:sr
def ShL.len (h:xCV Q):Gq:=by
 obtain⟨ln,_,rfl,_⟩:=h;simp
theorem SI.uniq {u:Nat}(h:CV)(h':SI u W T ps'):ps=ps':=by
 show xKx u
 ·exact Qp h[MQ h']
 ·exact Qp h[MQ h']
 ·show(XH P w e h P' w' e' h',[e,e',xyj w w'])
 ·show(Fw P L It b w sl wi e,(P',L',It',b',w',sl',wi',e')=h',eP=xyj w w');subst eP;have eL:=sl.uniq sl';subst eL;have hl:=sl.len;rw [<-hl] at wi wi';rw [e,e',xpe wi wi']
 ·show XZ h
def xn1 (t:oi){It:xAi}(w:xRZ[W++T])(sl:xCV xUi)(wi:xLv 0 0 It 272 b):
  GR W Pp/\xGP W=W++T/\xLZ Pp.length/\xTB/\xC7/\(Ic It x2l)/\gG 0=L:=by
 show((gr,hrun,Yl)=xQo,Tl h1 t.one hP1[xq4 w[GV[Lc h1]]],aH tok[sl.tok gr hP1] (gr,hrun,Yl,hP1,tok,yiu wi,xpF tok.len wi))
def SI.good {u:Nat}(h:CV)(t:oi):x4p/\Gj≤1712:=by
 show(hl=t.le,xKx u)
 ·have h:ps=ko:=h;have:=wp false T;show LT h (xql false hl t.tb,(Dg [_,_][zx 14 Re][xO9[Zv 14]] x3c[jP hl] this))
 ·have h:ps=yeZ T:=h;have:=wp true T;show LT h (xql true hl t.tb,(Dg [_,_][zx 14 Re][xO9[Zv 14]] x3c[jP hl] this))
 ·show XH P w e h gr hrun Yl xQo;have:=xq6 P;show WQ (xpn gr,(G6 [_,_,_][zx 13[ZY 13 Re]][xMD 13[zx 13[XY 13]]] x3c[IV 13 hl][IV 13 Yl] this))
 ·show(Fw P L It b w sl wi e,(gr,hrun,Yl,hP1,tok,hIt,hdec)=xn1 t w sl wi,yY[xqJ tok.six P][xtE 0 hIt]);rw [hdec,tok.len] at h2;show(Γ e (UF q hq,LT aU[Bx [_,_,_,_][ZY 14[xOJ Ω]][xO9[ZY 14[xOJ[.m 3 xV]]]] WF x3c[jP hl][jP Yl][xOT h2]]),Zd hq)
  ·exact W13.puts_good hIt q z
  ·exact xco tok gr q z
 ·show XZ h
def xbA (S):∀n p,eE p=n->z8 p->∃Pp,xDD Pp S.length:=by
 show xCL
 induction n using Nat.strongRecOn with
 |ind n ih=>
  intro p hn hp;by_cases e:xBi p
  ·show AU [] e
  ·show(eN QF xJn[Ko hp e] hz[xrR QF],Ib Pp w[ih[eE[p+xU1]] Z5[p+xU1] rfl hz.2][sV[fg::Pp] QF w])
def xlB (W T):∃Pp,xRZ[W++T]:=xbA _ _ _ rfl[GV[Iz Re WF]]
inductive spT (u:Nat) (B:Qq) (vs:Sy) (H:Hp) (Q:VK) (QL:XK):Prop
 |mk (o p d a:Qq) (x:V) (T W:LE) (N T0:Nat) (h0:vs=[Gv,FR,AO,x]) (h1:xPj B T0) (h2:xOH) (h3:Υ=Hj) (h4:ZD) (h5:oi) (h6:tK ps B4 H' Hp CV[Dy B[ze N][T0+Gj]->lN[Ψ->CY->zY->Cf]]):xCW u vs H Q QL
inductive spC (u:Nat) (C:Qq) (vs:Sy) (H:Hp) (Q:VK) (QL:XK):Prop
 |mk (o dx a:Qq) (x:V) (T W:LE) (h0:vs=[Gv,AO,x]) (h1:xh o C []) (h2:Υ=Hj) (h3:ZD) (h4:oi) (h5:tK ps B4 H' Hp CV[Χ->xFv Gj]):spC u C vs H Q QL
def spN (u:Nat):Sp:=λ vs H Q _=>∃o,vs=yC o/\i9 u
structure xzf (P:Qv)(w:Qw)(K:Frag)(mg:Ι)(base:Qz)(B D C:Qq)(u:Nat):Prop where
 cl:Es
 num:IG[xRo "number" f/\xNl/\VI[spN u]]
 tell:IG[xRo "tell" f/\lL Jac/\Cc 35 Jac[xCW u]]
 cost:IG[xRo "cost" f/\lL xUq/\Cc 36 xUq[spC u C]]
def scCost:XL ["self","text","before","bits"] xUq xua:=Tm
def xfB (F:Bq "cost" "Way.cost" xua)(Z:xPp B)(clW:Es)(Te:xRo "tell" fT)(bT:Binds K fdT Jac [])(GT:xYE fT fdT Jac[xCW u]):
  Cc 36 xUq[spC u C]:=by
 show(jf Z.R.X,x3L,xEZ Ma Z.many TB Z.T,D2 scCost[λ QE A outer st H vs Q E hr h=>?_],(o,dx,a,x,T,W,rfl,ho,ha,hx,tw,k)=h,Sc Uj[Dk 2] CJ QW F9 CJ,Fx[DP 3 scCost.nd[Q7[xn8 FI TB] Uj Z.m bI bA][aB[xxi Η clW Te GT hr bT .nil bA[Wt 3 1 2]]][zX AZ TB.cl Ma[xaQ Ma.F TB X]]] Ei)
 intro p dp np ndp nep;show(A3 hp0[je[(qY[xw3 dp p] p B dp) p] B dp []] ad s0[gk[qY[xw3 dp p] p B dp]][λ c o e=>XV[oQ np][oQ ndp] e][jE p dp hp0[λ d H1 nd hB kp=>xYl]],Aj,Sc nd0[B7 d][Yf nd] s1 qa[λ c o e=>Bo iE gm])
 clear s0 hp0 kp;show(Bu (_,rfl,o,dx,_,rfl,IL ho,rfl,_,rfl,_,rfl,_,rfl,o,p,d,a,x,T,W,0,0,rfl,hB,Z9,ay,ybZ,tw,λ ps H2 hps RT YR=>A1),Aj,xwM s2 yi[λ c o e=>xJT HC gm[Af nd0]] Y3 r2 k2 Q1 RT.ob,Ea (_,rfl,p,Y3,_,rfl,Q1,ZE,p,d,_,_,rfl,RT,?_) Kq[k ps _ hps s2])
structure xzj (K:Frag)(mg:Ι)(C CW:Qq):Prop where
 cl:Es
 mkb:MkB K C
 cost:jV C "cost" "Way.cost" xua xUq
structure Raw (K:Frag)(mg:Ι)(C CW:Qq):Prop where
 W:xzj K mg C CW
 m:mg "RawWay"=zl
 num:x3M "RawWay.number" xrd
 tell:jV C "tell" "RawWay.tell" xr4 Jac
structure Run (K:Frag)(mg:Ι)(C CW:Qq):Prop where
 W:xzj K mg C CW
 m:mg "RunWay"=zl
 num:x3M "RunWay.number" xra
 tell:jV C "tell" "RunWay.tell" xr0 Jac
structure Cpy (K:Frag)(mg:Ι)(C CW:Qq):Prop where
 W:xzj K mg C CW
 m:mg "CopyWay"=zl
 num:x3M "CopyWay.number" xrk
 tell:jV C "tell" "CopyWay.tell" xrN Jac
structure Shr (K:Frag)(mg:Ι)(C CW:Qq):Prop where
 W:xzj K mg C CW
 m:mg "ShareWay"=zl
 num:x3M "ShareWay.number" xrU
 tell:jV C "tell" "ShareWay.tell" xqD Jac
def xs6 (F:xI3 k)
  (h:∀(o p d a:Qq) (x:V) (T W:LE) (N T0:Nat) (H:Hp) (Q:VK) (E:XK),xPj B T0->xOH->Υ=Hj->ZD->oi->
   (tK ps B4 H' Hp CV[Dy B[ze N][T0+Gj]->lN[Ψ->CY->zY->Cf]])->sp [Gv,FR,AO,x] H Q E):Cc k ps[xCW u]:=by
 show(F.weak λ vs H Q E z=>?_,(o,p,d,a,x,T,W,N,T0,rfl,hB,h0,ha,hx,t,k)=z,h o p d a x T W N T0 H Q E hB h0 ha hx t k)
def xcs (R0:Raw K mg C CW)(S0:xSo G):xzf P w K mg base B D C 0:=by
 show(xm N R0.num T R0.tell Co R0.W.cost,(GT:xYE _ _ Jac[xCW 0])=xs6[(u8 (P:=P) (w:=w) (base:=base) T.F S0.Y S0.Zb).mono (k:=35) Z9] λ o p d a x T W N T0 H Q E hB h0 ha hx t k=>
  (o,p,d,a,x,T,W,N,T0,rfl,hB,h0,ha,t.tb,t.one,t.le,hx,t.wb,t.wl,λ H'=>Ey H' rfl),E3 R0.W.cl[cm _ N.m N.b[xf4 N.F]][cm _ T.m T.b GT][cm _ Co.m Co.b x7w])
def xcm (R0:Run K mg C CW)(S0:xSo G){fR:Qq}{fdR:Qx}(Ro:ykB xyZ xLP fR fdR):xzf P w K mg base B D C 1:=by
 show(xm N R0.num T R0.tell Co R0.W.cost,(GT:xYE _ _ Jac[xCW 1])=xs6[(xgK (P:=P) (w:=w) (base:=base) T.F Ro S0.Y S0.Zb).mono (k:=35) Z9] λ o p d a x T W N T0 H Q E hB h0 ha hx t k=>
  (o,p,d,a,x,T,W,N,T0,rfl,hB,h0,ha,t.tb,t.one,t.le,hx,t.wb,t.wl,λ H'=>Ey H' rfl),E3 R0.W.cl[cm _ N.m N.b[xf3 N.F]][cm _ T.m T.b GT][cm _ Co.m Co.b x7w])
def xcU (R0:Cpy K mg C CW)(S0:xSo G):xzf P w K mg base B D C 2:=by
 show(xm N R0.num T R0.tell Co R0.W.cost,(GT:xYE _ _ Jac[xCW 2])=xs6[(xg6 (P:=P) (w:=w) (base:=base) T.F S0.Y S0.Zb).mono (k:=35) Z9] λ o p d a x T W N T0 H Q E hB h0 ha hx t k=>Ib Pp hw[xlB W T] (o,p,d,a,x,T,W,Pp,N,T0,rfl,hB,h0,ha,t.tb,t.one,t.le,hx,t.wb,t.wl,hw,λ H'=>Ey H'[ni Pp hw]),E3 R0.W.cl[cm _ N.m N.b[xaZ N.F]][cm _ T.m T.b GT][cm _ Co.m Co.b x7w])
def xdj (R0:Shr K mg C CW)(S0:xSo G):xzf P w K mg base B D C 3:=by
 show(xm N R0.num T R0.tell Co R0.W.cost,(GT:xYE _ _ Jac[xCW 3])=xs6[xis (P:=P) (w:=w) (base:=base) T.F S0] λ o p d a x T W N T0 H Q E hB h0 ha hx t k=>Ib Pp hw[xlB W T] (o,p,d,a,x,T,W,Pp,N,T0,rfl,hB,h0,ha,t.tb,t.one,t.le,hx,t.wb,t.wl,hw,λ L It b H' sl wi=>Ey H' (Pp,L,It,b,hw,sl,wi,rfl)),E3 R0.W.cl[cm _ N.m N.b[xiR N.F]][cm _ T.m T.b GT][cm _ Co.m Co.b x7w])
def cst (u:Nat) (W T:LE):Nat:=open Classical in if h:∃ps,CV then tots h.choose else 0
def xx2 (h:CV):xIu u=Gj:=by
 show(C7[∃ps,CV] (ps,h),jb cst[dif_pos e][SI.uniq e.choose_spec h])
def gx4 {os:xOE}(hi:i<4):([rP 0,rP 1,rP 2,rP 3]:Sy)[i]?=π xIp:=by
 rcases i with _|_|_|_|i
 all_goals first|rfl|show rB xG4 D5 hi
def ix4 {os:xOE}(e:AD ([rP 0,rP 1,rP 2,rP 3]:Sy) v):i<4/\v=rP i:=by
 show((hi:i<4)=ZZ e,Ε[gx4 hi] e (hi,xGg e))
def cs (C0 C1 C2 C3:Qq):xOE
 |0=>C0
 |1=>C1
 |2=>C2
 |_=>C3
structure Wal (K:Frag)(mg:Ι)(B D C CW C0 C1 C2 C3:Qq):Prop where
 S0:xSo C
 runsof:Ν "runs_of" xyZ xLP
 raw:Raw K mg C0 CW
 run:Run K mg C1 CW
 cpy:Cpy K mg C2 CW
 shr:Shr K mg C3 CW
 ways:Ν "ways" xoY []
def Wal.ok (Z:xJY G)(hi:i<4):xzf P w K mg base B D[xZo i] i:=by
 obtain⟨_,_,Ro⟩:=Z.runsof
 match i,hi with
 |0,_=>exact xcs Z.raw Z.S0
 |1,_=>exact xcm Z.run Z.S0 Ro
 |2,_=>exact xcU Z.cpy Z.S0
 |3,_=>exact xdj Z.shr Z.S0
def xe8 (np:Vu)(nd:B7 d):gk[qY[xw3 d p] p C d]:=λ c o e=>XV[oQ np][oQ nd] e
inductive spWays (C:xOE) (vs:Sy) (H:Hp) (Q:VK) (QL:XK):Prop
 |mk (h0:vs=[]) (h1:∀(l:Qq) (os ds:xOE) (H':Hp),Bv->uT[i<4->B7 xIp]->B0=Az [rP 0,rP 1,rP 2,rP 3]->uT[i<4->je[H' xIp][C i][ds i] []]->Χ->B8):spWays C vs H Q QL
def xdd:XL [] [] xoY:=Tm
def xpJ (F:Bq "ways" "ways" xoY)(Z:xJY G):eg [][spWays xZo]:=by
 show(D2 xdd[λ QE A outer st H vs Q E hr h=>?_],sL rfl k h[xFI[aK[aa[xtO Z.raw.W.mkb Z7 Z.raw.m][xJ5[xtO Z.run.W.mkb Z7 Z.run.m][xtO Z.cpy.W.mkb Z7 Z.cpy.m][xtO Z.shr.W.mkb Z7 Z.shr.m]]]]]);intro p0 d0 n0 m0 e0 p1 d1 n1 m1 e1 p2 d2 n2 m2 e2 p3 d3 n3 m3 e3;show(xGb s0[FN C0 n0 m0] g0[(qY[xw3 d0 p0] p0 C0 d0) p0=_] ad[qY[xw3 d0 p0] p0 C0 d0] H1,xGb s1[FN C1 n1 m1] g1[(qY[xBc H1 d1 p1] p1 C1 d1) p1=_] ad[qY[xBc H1 d1 p1] p1 C1 d1] H2,xGb s2[FN C2 n2 m2] g2[(qY[xBc H2 d2 p2] p2 C2 d2) p2=_] ad[qY[xBc H2 d2 p2] p2 C2 d2] H3,xGb s3[FN C3 n3 m3] g3[(qY[xBc H3 d3 p3] p3 C3 d3) p3=_] ad[qY[xBc H3 d3 p3] p3 C3 d3] H4,Sc s02 yi[λ c o e=>IL iE] YM[gk H3][λ c o e=>ES[s02 _ _ e]],Sc s04 xXo[λ c o e=>Ge[YM _ _ e]] VP[K' H1 H4][λ c o e=>xTQ HC],SC s24[xYe H4][λ c o e=>xIs][nU[xj[Zx 4]] l nl],SC s5[K' H4[IJ H4 [.ref p0,.ref p1,.ref p2,.ref p3]]][λ c o e=>xNI nl e][Wb[cs p0 p1 p2 p3][cs d0 d1 d2 d3] _[Fd s04][UF i hi] ad[UF i hi][λ c o e=>Bn[s04 _ _ e]]])
 ·match i,hi with
  |0,_=>exact n0
  |1,_=>exact Yf n1
  |2,_=>exact none_of s02 n2
  |3,_=>exact none_of YM n3
 ·match i,hi with
  |0,_=>exact Bn[xJS g0]
  |1,_=>exact Bn[s24 _ _ g1]
  |2,_=>exact Bn[Ge g2]
  |3,_=>exact Bn g3
def xta {x y z:Str}{a b c:Qq}(h:xAa x [((y,a)),((z,b))] c):(x=y/\c=a)\/(x=z/\c=b):=by
 show xIq List.lookup
 ·rename_i e
  show CR h[.inl[Gs xLt]]
 ·show xIq List.lookup
  ·rename_i e
   show CR h[.inr[Gs xLt]]
  ·show xy
structure xwg (K:Frag)(x qual:Str)(st:QC)(dV:Qr)(c f:Qq)(fd:Qx):Prop where
 ex:∃(oc:Qr) (od:FG) (kV doc pm:Qr) (an:FG) (ct:Qr) (osl:xwK),
  fd=xTy x qual dV doc pm an rX ct/\xZ2 fd/\xZS rX
 kp:ZI
def xwg.ok (F:xwg K x qual st dV c f fd)(S:XL N ps st)
  (hb:∀(A:Qy) (outer:rk) (s:Qu) (H:Hp) (vs:Sy) (Q:VK) (E:XK),xFq k[PyProof.Rows.envOfC qual AY s.heap.objs.size f rX]->qA->
   let X:=(xFF QM P w K mg N AY f rX A outer s H E).nox;X6[xR0/\xEo]) (len:xLi[∀vs H Q E,qA->wu]):xI3[k+1]:=by
 show((oc,od,kV,doc,pm,an,ct,osl,rfl,lk,Ue)=F.ex,xZL S λ A outer s H vs Q E hr Vd=>?_,ZQ t h q[hb A outer s H vs Q E hr Vd] t h.nox q)
abbrev xcI:Pos:=(501,27,501,61)
abbrev xeF (Tb:Qq)(H:Hp):Prop:=xxJ Tb xcI["best_way.<locals>."++"<lambda>"] H
def _root_.L2.xxJ.ne (h:xxJ Tb p q H)(e:xQJ)(hn:∀ps,o≠ rZ):a≠Tb:=by
 show(EJ,ydg e' h,lG e'[hn ps[JA e']])
def _root_.L2.xxJ.sq (h:xxJ Tb p q H)(hK:yX)(e:VH):a≠Tb:=by
 rcases e with(e|⟨o,e⟩)|⟨o,its,n,e,_⟩
 ·exact h.ne e vK
 ·exact h.ne e vK
 ·show(EJ,yb hK)
def xzs.sameT (h:ZD)(t:QX)(s:on Tb H H'):xzs H' x W:=by
 rcases h with h|⟨a,e,h⟩
 ·show DZ h
 ·show DM (a,e,FV[t.ne h vK] h)
inductive spBest (Tb:Qq) (C:xOE) (vs:Sy) (H:Hp) (Q:VK) (QL:XK):Prop
 |mk (a:Qq) (x:V) (T W:LE) (h0:vs=zR x) (h1:Υ=Hj) (h2:ZD) (h3:oi) (h4:QX) (h5:∀(i:Nat) (o dx:Qq) (H':Hp),i<4->B7 o->AX[H' o][C i] []->rL[j<4->xQa≤xIu j/\(j<i->xQa<xIu j)]->on Tb H H'->xCd->oA Gv):spBest Tb C vs H Q QL
def xcT:XL Jag Jag xqs:=Tm
def xbQ (F:xwg K "best_way" "best_way" xqs dV c f fd)(Z:xJY G)(hm:yes)(hC:Vn)(hB:jQ)(hK:yX):
  Cc 39 Jag[spBest Tb xZo]:=by
 show(x1K Wy Z.ways xcT[λ A outer st H vs Q E hr h=>?_],(a,x,T,W,rfl,ha,hx,tw,hT,k)=h,xEi,χ hn xzY[xFI[xcn (k:=36) (y:="way") (Nc:=["text","before"]) (js:=[0,1]) (cl:=[(("text",wW)),ye0[wW+1]]) (P:=Tb) (c:=c) hn hr Z7 hm
  (rfl,rfl,rfl,Z8,rfl,Z7,λ x c h=>?c0,DX ?c1,rfl,λ i x j h1 h2=>?c2) rfl hC hB Z7[λ pm cd ct u=>Z7]
  (λ f' c' s H=>xmC (P:=P) (w:=w) (K:=K) (mg:=mg) (base:=base) (k:=36) rfl rfl rfl rfl rfl Η[hr.in1.deeper _][jA 1 2])
  (BO[xnJ[xpJ Wy.F Z] QW Z7 Wy.m Wy.F.kp Wy.b .nil bA])]])
 case c0=>
  rcases xta h with⟨rfl,rfl⟩|⟨rfl,rfl⟩<;>rfl
 case c1=>
  rcases hx with hx|hx
  ·have m':((x,NameKind.cell))∈([xKn "way",ye0 .free,(("text",.free))]:wA):=xHX;simp at m'
  ·show Sc m'[((x,NameKind.free))∈([xKn "way",ye0 .free,(("text",.free))]:wA)] xHX e[x="before"\/x="text"][by simpa using m']
   rcases e with rfl|rfl<;>exact CQ
 case c2=>rcases slotsL h1 h2 with⟨rfl,rfl⟩|⟨rfl,rfl⟩<;>exact bS c h h
 show(ZV[λ l os ds H1 nl no hl ho s1=>F1 l _[λ i=>ST xQa][.inl x28][Nat.zero_lt_succ _] xT9[λ c xs h=>(xT9).sq hK h][Μ H2 sT hT2]],Iu Yj xT9 ho2[∀i,i<4->je[H2 xIp][xZo i][ds i] []][λ i hi=>qz[Yj.ne[ho i hi] vK][ho i hi]] (λ i v H' hv sm=>?_,λ i v H' hv hmin sm=>?_))
 ·show(Ik hi[ix4 hv],WK=Z.ok (P:=P) (w:=w) (base:=base) hi,(fc,fdc,mc,bc,Gc)=WK.cost,(_,rfl,xIp,_,ds i,[],fc,fdc,_,_,rfl,y9[ho2 i hi],rfl,WK.cl,mc,Gc,bc,_,rfl,_,rfl,xIp,ds i,a,x,T,W,rfl,y9[ho2 i hi],y9[qz[Yj.ne ay vK] ay],((ybZ).sameT Yj sT).same sm,tw,λ ps H'' hps sm2=>(?_,sm2)),lP[vN Gj=vN xQa][xx2 hps])
 ·show(Ik hi[ix4 hv],k i xIp[ds i] H' hi[no i hi][y9[ho2 i hi]] xCY[λ c o n e=>y9[qz n HC]][hT2.same sm],aw z1 z2[hmin j hj][OQ.mp z1][λ hji=>Mx.mp[z2 hji]])
universe K27
namespace CK
def T (w p s:Nat):Nat:=((s*2)%2^w)^^^EM[s.testBit[w-1]] p 0
def xa8 (a b:Nat):(a^^^b)*2=(a*2)^^^(b*2):=by
 show(jz h[@PN 1 a b] Nz Nz Nz h,Rj)
def xdv (w p a b:Nat):vG[a^^^b]=vG a^^^vG b:=by
 show Up T xa8 Nat.xor_mod_two_pow Qf;cases ha:a.testBit[w-1]<;>cases hb:b.testBit[w-1]
 ·simp
 ·simp [LM]
 ·simp;rw [LM,Nk[b*2%2^w],<-LM]
 ·simp;rw [LM[a*2%2^w],Nk p,LM[b*2%2^w],NK,Nat.xor_zero]
def xcx (w p:Nat):vG 0=0:=by simp [T]
def T_lt {w p s:Nat}(hp:p<2^w):vG s<2^w:=by
 unfold T;refine Kw[Im Gm] ?_
 split
 ·exact hp
 ·exact Gm
def xey {w p s:Nat}(h:s*2<2^w):vG s=s*2:=by
 unfold T;show((hb:AG[s.testBit[w-1]])=by
  refine Nat.testBit_lt_two_pow ?_;cases w with
  |zero=>show E2;lia
  |succ w=>show(HG KQ,yu[Nat.lt_of_mul_lt_mul_right h]),nQ hb[Lq h])
def xdO {w p s:Nat}(hw:0<w)(hp:p%2=1)(hs:s<2^w)(h:vG s=0):s=0:=by
 show XO T;cases hb:s.testBit[w-1] with
 |true=>
  show(HG hb,E2,UN h2[Ty[(s*2%2^w^^^p).testBit 0]][by
   show([Qf,Nat.testBit_mod_two_pow],G9[AG[(s*2).testBit 0]][Di Nat.testBit_zero][Ty[p.testBit 0]][by rw [Nat.testBit_zero];simp [hp]],nQ e1 e2)] h h2);simp at h2
 |false=>
  show(HG hb,E2,vk w' w'[w=w'+1] (w-1,yd[Dh Re Β Re Β W1][Dh Β Re Β Re[UO Fp AM hw]]),Sc h3[s<2^w'][by
   show(SC RJ[AG yj6] hb[Lr[Hy hle]],C7[Ty yj6][by
    rw [OA];have:s/2^w'=1:=by
     show(Sc h4[s/2^w'<2][O6[Ε KQ hs hs]] h5[AL[s/2^w']][(ygc).mpr[xX Re SL[x9 1] hle]],BW[HH SB jr Re AM h4][HH AM Re AM Re h5])
    show Hd this],yb RJ)] h6[s*2<2^(w'+1)][LT KQ[Dh[xC2 2] m6[AS[xBb 2]][xYX 2][lV h3]]],Ε[Lq h6] h[xRp[HH[xBb 2] Hc Re Hc xA]])
def xss (w p:Nat):DQ ET
 |0,s=>s
 |n+1,s=>vG xPV
def xzk (w p m n s:Nat):xUw[m+n] s=xUw m xPV:=by
 induction m with
 |zero=>show Ar Kq
 |succ m ih=>show(EF Nat.succ_add[vG[xUw[m+n] s]=_],Ar ih)
def xrz (w p n a b:Nat):xHk[a^^^b]=xHk a^^^xHk b:=by
 induction n with
 |zero=>rfl
 |succ n ih=>show YB[vG[xHk[a^^^b]]=_] ih xdv
def Tn_zero (w p n:Nat):xHk 0=0:=by
 induction n with
 |zero=>rfl
 |succ n ih=>show vG[xHk 0]=0;rw [ih,xcx]
def xtz {w p n s:Nat}(hp:p<2^w)(hs:s<2^w):xPV<2^w:=by
 cases n with
 |zero=>exact hs
 |succ n=>exact T_lt hp
def Tn_inj {w p n s:Nat}(hw:0<w)(hp:p%2=1)(Q1:p<2^w)(hs:s<2^w)(h:xPV=0):s=0:=by
 induction n with
 |zero=>show j8
 |succ n ih=>exact ih[xdO hw hp[xtz Q1 hs] h]
def Tn_up {w p n s:Nat}(h:s*2^n<2^w):xPV=s*2^n:=by
 induction n with
 |zero=>simp [xss]
 |succ n ih=>
  have h':s*2^n*2<2^w:=by rw [KQ,<-KL] at h;show j8
  show vG xPV=_;rw [ih[Nat.lt_of_add_left_lt h'],xey h',KQ,KL]
def xeA (a b k:Nat)(hb:b<2^k):(a*2^k)^^^b=a*2^k+b:=by
 show(Dd h[Nat.two_pow_add_eq_or_of_lt hb a] KI h,[h]);apply Nat.eq_of_testBit_eq;intro i;rw [Qf,Nat.testBit_or,Nat.testBit_mul_two_pow];by_cases hi:i<k
 ·have:¬IA k:=P5 hi;show yed
 ·have hbi:AG[b.testBit i]:=Nat.testBit_lt_two_pow[Ja hb[xB3[JX hi]]];simp [hbi]
def xeD (a b k:Nat):(a*2^k)^^^(b*2^k)=(a^^^b)*2^k:=by
 show(jz h[@PN k a b] Nz Nz Nz h,h.symm)
def B (w p s b:Nat):Nat:=xUw 8[s^^^(b*2^(w-8))]
def G (w p:Nat):dD ET
 |0,s,_=>s
 |n+1,s,V=>B w p[G w p n s[V/256]][V%256]
def G_lt {w p n s V:Nat}(hp:p<2^w)(hs:s<2^w):G w p n s V<2^w:=by
 cases n with
 |zero=>exact hs
 |succ n=>exact T_lt hp
universe CK
namespace K27.Ck
open PySem L2 QQ BP
seal PE PA PS PSs PT PW PG PI
abbrev xs0:QC:=top 34
abbrev sCInit:QC:=uG 35
abbrev xoI:QC:=uH 35
abbrev xvd:QC:=dN 35
abbrev xr1:QC:=top 36
structure Txt (K:Frag)(mg:Ι):Prop where
 R:ZK
 tabA:∃d,mg "ALL_ONES"=zm/\xxD K d 255 65535
 tabL:∃d,mg "LOWER_BITS"=zm/\xxD K d 29 45
def xf2 (a):∀b,a+b=(a^^^b)+2*(a&&& b):=by
 induction a using Nat.strongRecOn with
 |_ a ih=>
  intro b;by_cases h0:a=0
  ·show xNW;simp
  ·show(DF h[ih[a/2][Nat.bitwise_rec_lemma h0][b/2]] e1[(a^^^b)/2=a/2^^^b/2][Nat.xor_div_two_pow (n:=1)] e2[(a&&& b)/2=a/2&&& b/2][Nat.and_div_two_pow (n:=1)],Sc m1[(a^^^b)%2=a%2^^^b%2][Nat.xor_mod_two_pow (n:=1)] m2[(a&&& b)%2=a%2&&& b%2][Nat.and_mod_two_pow (n:=1)],Tl d1[LL[a^^^b] 2] d2[LL[a&&& b] 2]);rw [e1,m1] at d1;rw [e2,m2] at d2;clear e1 e2 m1 m2 ih h0;have k:a%2+b%2=(a%2^^^b%2)+2*(a%2&&& b%2):=by
    rcases Py a with e|e<;>rcases Py b with f|f<;>rw [e,f]<;>rfl
   have:=LL a 2;have:=LL b 2;generalize a/2^^^b/2=u,a/2&&& b/2=v,a%2^^^b%2=x,a%2&&& b%2=y,a^^^b=m,a&&& b=n,a/2=q,b/2=r,a%2=t,b%2=z at*;lia
def xyY (a b:Nat):yhz wd=ST[a^^^b]:=by
 show(C7[yhz wd=xOz+wd-2*Builtin.bitAnd xOz wd][by
  show Fq Builtin.bitXor PyProof.Rows.bitOr_and;lia],[e,OC Z5 Wk,JH,JH],kG[xf2 a b])
def WP (w p:Nat):Prop:=(w=8/\p=29)\/(w=16/\p=45)
def WP.facts (h:xDZ):8≤w/\w≤16/\p%2=1/\p<2^w:=by
 rcases h with⟨rfl,rfl⟩|⟨rfl,rfl⟩<;>decide
def xef (hw:0<w)(hs:s<2^w):x6O p s=Hn[s/2^(w-1)] 1[s*2%2^w^^^p][s*2%2^w]:=by
 show(Fq CK.T OA,(h2:s/2^(w-1)<2)=O6[by
  have:2^(w-1)*2=2^w:=by rw [<-KQ];congr 1;exact M1 hw
  exact Jq hs this.symm],iq[s/2^(w-1)] 1 h h)
 ·show(C7[s/2^(w-1)=0][Nat.lt_one_iff.mp h],Di e)
 ·show(C7[s/2^(w-1)=1][IT[Nat.lt_succ_iff.mp h2] h],Di e)
def crc (w p s:Nat)(R:LE):Nat:=R.foldl zj s
def xqp (w p s)(R)(b):xRF[R++Wz]=zj[xRF R] b:=xG6 crc Lx
def xdH:∀n R,xNk n->me R->xRF R=CK.G w p n s xAP:=by
 show xCL
 induction n with
 |zero=>
  intro R h _;show(C7[R=[]][K2.mp h],DD);rfl
 |succ n ih=>
  intro R h hb;obtain⟨A,b,rfl⟩:∃A b,R=A++Wz:=by
   rcases List.eq_nil_or_concat R with e|⟨A,b,e⟩
   ·show(DD,E2)
   ·show Dj A b xLt
  have hbb:xIK:=qN Z6;rw [IQ,LS] at h;rw [xqp,ih A[Nat.add_right_cancel h][LB[wz hx]],BP.xu7];show _=zj[CK.G w p n s[(xUT*256+b)/256]][(xUT*256+b)%256];show(G9[(xUT*256+b)/256=xUT][yd[zQ 256 [_,_,_][Fg[x9 256]][BZ 256[HQ[xBU SL]]] SL hbb DB][NL.xuB 256 [_,_,_][AS[HQ[xBU SL]]][CN[x9 256] 256] SL Re zV rfl]][(xUT*256+b)%256=b][yd[uW [_,_,_,_][rz 256[x6W Re]][x6W[IM[xBU Cv]]][IV 256[IR e1.symm]][IR[LL _ _]]][CM [_,_,_,_][x6W[IM[xBU Cv]]][rz 256[x6W Re]] SL Re[IV 256[IR e1]][xGw[LL _ _]]]],xQh e2)
def xjv {R:LE}(hp:p<2^w)(hs:s<2^w)(hb:wR):xRF R<2^w:=LT[xdH R.length R rfl hb][CK.G_lt hp hs]
inductive xsF (vs:Sy) (H:Hp) (Q:VK) (QL:XK):Prop
 |mk (n p s b:Nat) (h0:vs=[Iq,qR,F6]) (h1:WP n p) (h2:s<2^n) (h3:xIK) (h4:i9[CK.B n p s b]):xsF vs H Q QL
def xxz:XL ["state","byte","wide","step","goes_out"] xNn xs0:=Tm
def xbS (F:Ο "with_byte" xs0 xNn)(X:Df):eg xNn xsF:=by
 show(XH dA mA tA X.tabA dL mL tL X.tabL,D1 xxz[λ QE A outer st H vs Q E hr h=>?_],(n,p,s,b,rfl,hw,hs,hb,q)=h,(h8,h16,hodd,hp)=hw.facts,D9[DP 0 xxz.nd[ao xsN Η[ao xwS τ[bj Ζ]]][nK[xti rfl X.R.X.range wI] 3 xxz.nd[ID 4 xxz.nd[ao xxY Η[bj Ζ]] 0 xxz.nd[ao xxa[zP xwS Η][xxy xvu[xHd dA mA] Ζ xvU]][ae[qk[CE Bb][x8O 0 xxz.nd[ao xsN Η[xxy xvu[xHd dL mL] Ζ xvU]]]]]]] Η],A3 e8[BU-8=ST[n-8]] Z5 e1'[BU-1=ST[n-1]] Z5 (_,rfl,_,rfl,_,rfl,_,_,rfl,rfl,?_))
 try dsimp only
 show Γ e8 (_,_,rfl,rfl,xP9 Wk[Dg [_,_] Ω[EL 16] SW h16 fj] Z5,_,_,rfl,rfl,?_)
 try dsimp only
 show([xq1,xyY],SC hs0[s^^^b*2^(n-8)<2^n][by
  refine xHY ?_;have:b*2^(n-8)<2^8*2^(n-8):=ygr Gm hb;rw [<-LW,show 8+(n-8)=n by show BW[xX xHD SL xNZ[UO Dv Dv h8]][d6 xHD xNZ W1]] at this;show xMu] (8,rfl,Z9,Z9,xPI 0 8[λ i σ H2=>∃v3 v4,σ=[Α[xSK n i[s^^^b*2^(n-8)]],yL,Α n,v3,v4]/\H2=H][xAY none none] ?_ ?_))
 ·rintro i σ H2 hi ⟨v3,v4,rfl,rfl⟩;show(υ QF[CK.xtz (n:=i) hp hs0] eT[xSK n[i+1][s^^^b*2^(n-8)]=CK.T n p[xSK n i[s^^^b*2^(n-8)]]] rfl,[eT]);generalize xSK n i[s^^^b*2^(n-8)]=z at*;show((hz16:z<2^16)=Ja QF[xB3 h16],χ go[xef (p:=p) (Nat.zero_lt_of_lt h8) QF][F1 _ rfl _ _ _ rfl rfl ?_])
  try dsimp only
  show Γ e1'[yo _ _ rfl xNy ?_]
  try dsimp only
  show(RZ xqE em[A6 z*2^x2U=ST[z*2]][xq1 z 1] (_,rfl,_,_,rfl,rfl,(Z9,Z9,Z5),_,rfl,dA,_,_,_,rfl,rfl,.inl tA,?_),ybA hw rfl rfl rfl)
  ·show xVB[yo rfl _ _ rfl ?_]
   try dsimp only
   show rK em[BJ[x93[z*2] 255][ST[z*2%2^8]][xxm[z*2] 8]][tT iM]
   ·show(UN Ul[z/2^(8-1)=1][HI yiQ[MQ[(yic) this.symm]]][Ju Ul] go,(_,rfl,_,rfl,dL,_,_,_,rfl,rfl,.inl tL,.inl[yo rfl _ _ rfl ?_]))
    try dsimp only
    show XV[BJ[yiE[z*2%2^8] 29][ST[z*2%2^8^^^29]][xyY _ 29]] go x8K
   ·show(UN Ul[¬z/2^(8-1)=1][λ e=>h1[IZ[x1f[xKo[qG AM AM[IR e]][HH AM Re AM Re zL]]]]][Jk Ul] go,LT go x8K)
  ·show xVD[yo rfl _ _ rfl ?_]
   try dsimp only
   show rK em[BJ[x93[z*2] 65535][ST[z*2%2^16]][xxm[z*2] 16]][tT iM]
   ·show(UN Ul[z/2^(16-1)=1][HI yiQ[MQ[(yic) this.symm]]][Ju Ul] go,(_,rfl,_,rfl,dL,_,_,_,rfl,rfl,.inl tL,.inr[yo rfl _ _ rfl ?_]))
    try dsimp only
    show XV[BJ[yiE[z*2%2^16] 45][ST[z*2%2^16^^^45]][xyY _ 45]] go x8K
   ·show(UN Ul[¬z/2^(16-1)=1][λ e=>h1[IZ[x1f[xKo[qG AM AM[IR e]][HH AM Re AM Re zL]]]]][Jk Ul] go,LT go x8K)
 ·show(xGO H2 v3 v4 rfl rfl,BK q)
def xmz:¬(xXe xUD):=Z8
def fC (n s:Nat):ug:=[(("wide",F6)),(("state",Iq))]
def jo (n s):sD "state" s[x33 n []]=iI:=zG[DY[xXe xUD][((xUD,F6)):: [(("state",Iq))]]=_] xHV
def xiB (n s s'):sD "state" s' iI=xMr s':=YB[DY[xXe xUD][((xUD,F6))::EM[xXe[Ig "state"]] [G7[Ig "state"] s'] _]=_] xHV CD
def xnA (n s):wq iI "wide" F6:=by
 rw [<-jo,ar,xHV,ar,CD]
def xqm (n s):wq iI "state" Iq:=xHg jo ar
def fC_no (n s){m:Str}(h1:pz[xXe m])(h2:pz[m="wide"]):o4 iI m:=by
 rw [<-jo,ar,Ru,ar,Rg];rfl
def xiD (n s):xLW iI:=xAw 2
structure xyH (K:Frag)(mg:Ι)(C:Qq):Prop where
 cl:Es
 nW:f9 "wide"
 nS:f9 "state"
 m:mg "Check"=zl
inductive spCInit (C:Qq) (vs:Sy) (H:Hp) (Q:VK) (QL:XK):Prop
 |mk (p dx:Qq) (n q:Nat) (h0:vs=[FR,F6]) (h1:WP n q) (h2:xO2) (h3:∀H':Hp,kF xDk[xMr[2^n-1]]->qC b[zc->jR->rq]):x2s vs H Q QL
def scCInit:XL xUa xUa sCInit:=Tm
def ok_cinit {f fW:Qq}(F:ydy dV f fd)(W:jm)(T:xyH K mg C)(X:Df):xQW xUa x2s:=by
 show((GW:Vq fW U2 Jaa spWhole)=xQx X.R.X,(dA,mA,tA)=X.tabA,D2 scCInit[λ QE A outer st H vs Q E hr h=>?_],Fw p dx n q rfl hw hp k,Fx[ac[yn[zo[xW[xOL W[XM 1 bq]]][xlT xf5 τ[xHd dA mA] Z7]]]
  (xCD τ[xxy xvu[xHd dA mA] τ xvU])] (_,rfl,_,_,_,rfl,_,rfl,?_),VT[IC[FO wX BU&&FO BU 16]][by
  show((h8,h16,_)=hw.facts,Ai[IZ[Int.toNat_le.mp h8]] xBW)],xEe AI,(hn:BU=8\/BU=16)=by rcases hw with⟨rfl,_⟩|⟨rfl,_⟩<;>simp,ω (_,rfl,dA,_,_,_,rfl,rfl,tA,hn,_,rfl,AI) (_,rfl,_,rfl,p,C,dx,_,rfl,hp,T.cl,T.nW,xEt,?_),DK (_,rfl,dA,_,_,_,rfl,rfl,.inl tA,?_) fin[∀z,z=ST[2^n-1]->xAC[uo[uo H[x33 n []]][ykx[.int z][x33 n []]]]][λ z ez=>by
  show(rK ez[BJ[ykx[V.int[ST[2^n-1]]][x33 n []]][xMr[2^n-1]][jo n _]][Ey ad λ b o e hb=>?_],XV UG UG e)],ybA hw rfl rfl rfl)
 ·show DZ (rfl,_,rfl,p,C,dx,_,rfl,ad,T.cl,T.nS,pk,fin _ rfl)
 ·show DM (rfl,_,rfl,p,C,dx,_,rfl,ad,T.cl,T.nS,pk,fin _ rfl)
inductive spAdd (C:Qq) (vs:Sy) (H:Hp) (Q:VK) (QL:XK):Prop
 |mk (p dx a:Qq) (n q s:Nat) (B:LE) (h0:vs=Tr) (h1:WP n q) (h2:s<2^n) (h3:G5 iI) (h4:Υ=uK) (h5:xJs) (h6:∀H':Hp,kF xDk[xMr[crc n q s B]]->qC b[zc->jR->rq]):spAdd C vs H Q QL
def scAdd:XL[xAj "row" "byte"] Jal xoI:=Tm
inductive Iaddn1 (C:Qq) (H:Hp) (p:Qq) (dx:Qq) (a:Qq) (n:Nat) (q:Nat) (s:Nat) (B:LE) (l:Qq) (i:Nat) (σ:St) (H2:Hp):Prop
 |mk (v:EY) (h0:σ=[u5,BL,v]) (h1:kF[H2 p][xMr[crc n q s xLX]]) (h2:Vw=uK) (h3:∀b o,zc->jR->xKC b):Iaddn1 C H p dx a n q s B l i σ H2
def xpA {f fN fR fW fY:Qq}(F:Bq "add" "Check.add" xoI)(N:xZq)(R:Gg "is_row" xx3 Jaf fR fdR)(W:jm)
  (Y:Gg "with_byte" xs0 xNn fY fdY) (T:xyH K mg C) (X:Df):Cc 5 Jal[spAdd C]:=by
 show(A3 GN[iU 4 fN Xd Jaf spNeedRow][xTD X.R] GY[Vq fY fdY xNn xsF][xbS Y X][F.ok scAdd λ QE A outer st H vs Q E hr h=>?_],uk,(p,dx,a,n,q,s,B,rfl,hw,hs,hp,ha,hb,k)=h,Zl h8 h16 hodd hq hw.facts QW F9 CJ,jJ[xf[oV GN N 1] 2 scAdd.nd[xFy[Br GY Y[xOC[nj 2 B5]]]]][VM a B ha hb[UF l hl]],SC npl[p≠l][xGC hl][xDu l ad[xxu (K:=K) (a:=l) (xs:=sO) (Iaddn1 C H p dx a n q s B l)
  (none,rfl,Δ npl hp,ad,λ b o e _=>Eh hl e)[λ i σ H2 _ z9=>by show(x9U z9,rW e)] ?_ ?_]])
 ·rintro i y σ H2 hi ⟨v,rfl,Q1,Q0,Ts⟩;show(Dr b Rl[dZ hi],υ Tf[qN x48] QF[crc n q s xLX<2^n][xjv hq hs[LB gw]],Ec (_,rfl,p,C,dx,_,_,rfl,Q1,T.cl,T.nS,xqm _ _,_,rfl,_,rfl,p,C,dx,_,_,rfl,Q1,T.cl,T.nW,xnA _ _,n,q,_,b,rfl,hw,QF,Tf,?_) (_,rfl,p,C,dx,_,rfl,Q1,T.cl,T.nS,xiD _ _,?_) (yL,rfl,?_,Δ npl.symm Q0,λ c o e hc=>Δ hc[Ts c o e hc]),[ad,xiB,xwW Rl,xqp])
 ·rintro σ H2 ⟨v,rfl,Q1,Q0,Ts⟩;show aG IS Ki Q1[xJe Q1 Ts]
inductive xlu (C:Qq) (vs:Sy) (H:Hp) (Q:VK) (QL:XK):Prop
 |mk (p dx:Qq) (n s:Nat) (h0:vs=Cg) (h1:G5 iI) (h2:Fc Iq):xlu C vs H Q QL
def xb5:gQ xvd:=Tm
def xnC (F:Bq "value" "Check.value" xvd)(T:xyH K mg C):VI[xlu C]:=by
 show(D2 xb5[λ QE A outer st H vs Q E hr h=>?_],XT p dx n s rfl hp k,xJ2 B5 (_,rfl,p,C,dx,_,_,rfl,hp,T.cl,T.nS,xqm _ _,k))
def chk (n q:Nat)(B:LE):Nat:=crc n q[2^n-1] B
inductive xuD (vs:Sy) (H:Hp) (Q:VK) (QL:XK):Prop
 |mk (a:Qq) (n q:Nat) (B:LE) (h0:vs=zR F6) (h1:WP n q) (h2:Υ=uK) (h3:xJs) (h4:xBN[chk n q B]):xuD vs H Q QL
def xkA:XL ["row","wide","check"] ycb xr1:=Tm
structure Chk (K:Frag)(mg:Ι)(C:Qq):Prop where
 X:Df
 T:xyH K mg C
 whole:xZF
 isrow:Ν "is_row" xx3 Jaf
 needrow:x2u xwZ Jaf
 withb:Ν "with_byte" xs0 xNn
 init:∃f fd dV,ydy dV f fd/\lL xUa/\Sq
 add:jV C "add" "Check.add" xoI Jal
 value:XA "value" "Check.value" xvd
def xft {P:Qv}{K:Frag}{mg:Ι}{f:Qq}{fd:Qx}{dV:Qr}(F:Sa K "check_of" "check_of" xr1 dV f fd)(Z:Chk K mg C):Cc 6 ycb xuD:=by
 show((X,T,(_,_,W),(_,_,R),(_,_,N),(_,_,Y),(_,_,_,FI,bI,M),(_,_,Ad),(_,_,Va))=Z,D2 xkA[λ QE A outer st H vs Q E hr h=>?_],(a,n,q,B,rfl,hw,ha,hb,k)=h,tP QW F9 S4 3,Fx[DP 2 xkA.nd[xxg M[ybD W T X] S4 Z7 T.m bI .nil bA oF][aB[xwd Ζ T.cl Ad[xpA Ad.F N R W Y T X] hr gP]][zX Ζ T.cl Va[xnC (mg:=mg) Va.F T]]][BV[λ x dx nx ndx nex=>?_]],SC s0[gk[mQ[xw3 dx x] x C []]][λ b o e=>XV[oQ nx][oQ ndx] e][Hx x dx n q hw ad[λ H1 W6 kp=>Ej]],SC s1 qa[λ b o e=>kp b o xSd xBy] (_,rfl,x,dx,_,rfl,W6,xRw,_,rfl,x,dx,a,n,q,_,B,rfl,hw,?_,W6,ay,hb,Μ H2 hx2 YR))
 ·show HI[LF (n:=n) (Eo 0 2 Z9)][Md this]
 show SC s2 yi[λ b o e=>YR b o[s1 b o e] xBy] (_,rfl,x,dx,_,rfl,hx2,xRw,x,dx,n,_,rfl,hx2,xJe s2)
abbrev Fr:QC:=top 37
abbrev xyq:QC:=top 38
abbrev xtP:QC:=top 100
abbrev xvg:QC:=uG 101
abbrev xoZ:QC:=uH 101
structure FnK (K:Frag)(mg:Ι)(x:Str)(st:QC)(ps:CI)(f:Qq)(fd:Qx):Prop where
 F:∃dV,xEs x x f fd
 m:nO=kZ
 b:vc
 d:X6[xMl [Ud 16]]
theorem FnK.kp (F:FnK K mg x st ps f fd):ZI:=F.F.elim[U4 h.kp]
def two (n:Nat):LE:=[n/256,n%256]
def sld (R:LE):LE:=R++gu R
def QH (a b:Nat):LE:=[a,b,T7]
def wp8:WP 8 29:=x3A
def wp16:WP 16 45:=fV
def xtg (h:WP n q)(hb:wR):chk n q R<2^n:=xzV hq h.facts[xjv hq[HI[LF (n:=n) (Eo 0 2 Z9)][Md this]] hb]
def dR (h:xC9 n):Zo x7B:=by
 intro b hb;simp only [two,Jv,NA,or_false] at hb;lia
def xvv (hb:wR):Zo xWG:=λ b h=>wU h qN[dR xHa b]
def bx (ha:ZO)(hb:xIK):xCy c lI c:=by
 intro c hc;have h8:By T7:=xtg wp8[λ c hc=>by simp at hc;lia];simp only [QH,Jv,NA,or_false] at hc;lia
structure Cks (K:Frag)(mg:Ι)(C:Qq):Prop where
 Z:Chk K mg C
 checkof:IG[FnK K mg "check_of" xr1 ycb f fd]
 two:Ν "in_two_bytes" Fr gE
 withcheck:xIL "with_check" xyq
 headrow:Ν "head_row" xtP xMj
inductive spTwo (vs:Sy) (H:Hp) (Q:VK) (QL:XK):Prop
 |mk (n:Nat) (h0:vs=[F6]) (h1:xC9 n) (h2:∀l,Bv->Q Ct[dI x7B]):spTwo vs H Q QL
def xdE:XL gE gE Fr:=Tm
def xvN (F:Ο "in_two_bytes" Fr gE):eg gE spTwo:=by
 show(D1 xdE[λ QE A outer st H vs Q E hr h=>?_],Q9 n rfl hn k,xb[aK[zM[zP xxY Η][zP xxa Η]]] (_,rfl,_,_,rfl,rfl,(HA[FX≤8]),_,rfl,_,_,rfl,rfl,ye,Ex),G9[ST n/2^Int.toNat 8=ST[n/256]][by
  show ST n/256=_;show S2 xMY xMY][x93 n 255=ST[n%256]][HI[xxm n 8] this])
 try dsimp only
 show XV e1 e2[Wb nl]
inductive xky (vs:Sy) (H:Hp) (Q:VK) (QL:XK):Prop
 |mk (a:Qq) (R:LE) (h0:vs=F5) (h1:Υ=nN) (h2:me R) (h3:IK R.length) (h4:tE[Χ->B0=BA xWG->B8]):xky vs H Q QL
def xgG:XL Jam Jam xyq:=Tm
def xrj (F:Ο "with_check" xyq Jam)(Y:xRR):Cc 7 Jam xky:=by
 show(x7I Co FC Co.F,(_,_,Tw)=Y.two,Zq t16 B16 Co.d xgG[λ QE A outer st H vs Q E hr h=>?_] _,XT a R rfl ha hb hl k,xEi,Gw[Gz[rY Η[Br[xvN Tw] Tw[BO[xxw xXW hr Z7 Co.m Co.kp B16[xMf (a:=x3v) CQ] bA gP]]]]] (_,rfl,_,rfl,a,16,45,R,rfl,wp16,ha,hb,UF H1 s1)[VC[cD R] xHa xNV],YD s2[gu R] n1 Ug[(ZX H1 l1[gu R]) l1=BA[gu R]],Tl WY[ES ay] Sv Fy,Cz[ZX H1 l1[gu R]] H2 (a,l1,_,_,rfl,rfl,WY,Ug,bV[by show(EF IS[Zg[R.length+2]],Ay DU Re Dm gZ Bc hl)],Ex),ZF[Fd Sv] yjL[by rw [ad,<-Ji];rfl])
inductive xkJ (vs:Sy) (H:Hp) (Q:VK) (QL:XK):Prop
 |mk (x y:Nat) (h0:vs=[xDa,xIR]) (h1:xDr) (h2:By y) (h3:tE[Χ->B0=BA[QH x y]->B8]):xkJ vs H Q QL
def xgW:XL xMj xMj xtP:=Tm
def xrb (F:Ο "head_row" xtP xMj)(Y:xRR):Cc 7 xMj xkJ:=by
 show(x7I Co FC Co.F,D1 xgW[λ QE A outer st H vs Q E hr h=>?_],vP x y hx hy k,xb[aK[mJ[nj 1[dz xXW hr Co.m Co.kp Co.b bA[W5[aK[jA 0 1]]]]]]] (_,rfl,_,rfl,_,rfl,_,rfl,ye,xNV),fw s1 [xDa,xIR] n1 Ug[kS H l1 [xDa,xIR] l1=Az [xDa,xIR]],uf[oX l1 [xDa,xIR]][Q6 l1 8 29 [x,y] wp8 Ug[λ c hc=>by simp at hc;omega][λ H2 s2=>nU[xj 3] l nl]],ZF[Fd Fy][xLT xwI] ad)
universe K27.Ck
namespace L2
open PySem PySem.Spec PySem.Calls PyProof.Rows QQ PySem.W
def xg0 {K:Frag}(hP:X.prog=P)(hw:X.w=w)(hK:X.K=K)(hmg:X.mg=mg)(hb0:X.base=base)(he:xDz)(hr:oq)
    (ht:AJ[xE xOe=(do
      let ov<-jn
      xER
      let((f,first))<-xE0 xJb ov m pl
      xJI xW0)]):
    AN xOe[xp2 P w K mg base k m ta df]:=by
  subst hP hw hK hmg hb0
  intro QD s σ H Q I h
  show(x46 pl xOk ht,(x,H1,I1,rx,a,C,dx,fs,f,fd,ps,sp,ex,ea,l,c,hm,F,hb,q)=z9,WR[u=aI],HU[xZg c hm l ?_][Nv (first:=F5) I1.kIn hm.kp[xVU F5 (vs:=F5) F hr hb .nil bA I1[lp rfl] q]])
universe L2
namespace K27.Ck
open PySem L2 QQ W17 W16 BP
seal PE PA PS PSs PT PW PG PI
abbrev xrD:QC:=top 104
def xoD:¬(xAM="count"):=Z8
def xi5:¬(xWy xAM):=Z8
def xjE:¬(xWy yb8):=Z8
def fH (a b c:Nat):ug:=[G7 "way" a,yc1,G7 "inside" c]
def xyP (a b c):sD "inside" c[sD "count" b[sD "way" a []]]=xD0:=by
 show(sD "inside" c[Hn xAM "count" _[G7 xAM a:: [yc1]]])=_;show(EF[Jk xoD][DY[xWy xAM][G7 xAM a::DY[xWy yb8][G7 yb8 b:: [G7 "inside" c]]]=_],Ai[Jk xi5][Jk xjE])
def xoC (a b c):wq xD0 "way" xP4:=by rw [<-xyP,ar,Jk xi5,ar,Jk xoD,ar,CD]
def xuM (a b c):wq xD0 "count" qR:=by rw [<-xyP,ar,Jk xjE,ar,CD]
def xi9 (a b c):wq xD0 "inside" Vz:=xHg xyP ar
def xdG (a b c){m:Str}(h1:pz[xWy m])(h2:pz[m="count"])(h3:pz[m="way"]):o4 xD0 m:=by
 rw [<-xyP,ar,Ru,ar,Rg,ar,Jk h3];rfl
structure xyG (K:Frag)(mg:Ι)(C:Qq):Prop where
 cl:Es
 nW:f9 "way"
 nC:f9 "count"
 nI:f9 "inside"
 m:mg "Head"=zl
 init:IG[yjQ xvg/\lL x4V/\Sq]
 row:XA "row" "Head.row" xoZ
inductive xlZ (C:Qq) (vs:Sy) (H:Hp) (Q:VK) (QL:XK):Prop
 |mk (p dx a b c:Nat) (h0:vs=[FR,xP4,qR,Vz]) (h1:xO2) (h2:vg[kF xDk xD0][qC b[zc->jR->rq]]):xlZ C vs H Q QL
def xaR:XL x4V x4V xvg:=Tm
def xmR (F:yjQ xvg)(T:xyG K mg C):eg x4V[xlZ C]:=by
 show(D2 xaR[λ QE A outer st H vs Q E hr h=>?_],Fw p dx a b c rfl hp k,Fx[nZ τ[xCD Ζ AZ]] (_,rfl,_,rfl,p,C,dx,[],rfl,hp,T.cl,T.nW,xEt,?_),WC (_,rfl,_,rfl,p,C,dx,_,rfl,ad,T.cl,T.nC,pk,?_) (_,rfl,_,rfl,p,C,dx,_,rfl,ad,T.cl,T.nI,(Hd[show BD[sD "count" b[sD "way" a []]] 2 by show zG[BD[Hn xAM "count" _[G7 xAM a:: [yc1]]] 2][Jk xoD]]),?_)[Ey[Qp ad[x2V l[xU5 C l][xyP a b c]]] λ d o e hd=>Iv[aj hd][aj hd][aj hd] e])
inductive spHRow (C:Qq) (vs:Sy) (H:Hp) (Q:VK) (QL:XK):Prop
 |mk (p dx a b c:Nat) (h0:vs=Cg) (h1:G5 xD0) (h2:a<4) (h3:Hh) (h4:my) (h5:By c) (h6:tE[Χ->B0=BA[QH[64*a+b-1] c]->B8]):spHRow C vs H Q QL
def xdq:gQ xoZ:=Tm
def xbx (F:Bq "row" "Head.row" xoZ)(T:xyG K mg C)(Y:x4c CC'):rm 8[spHRow C]:=by
 show(x1K Hr Y.headrow xdq[λ QE A outer st H vs Q E hr h=>?_],(p,dx,a,b,c,rfl,hp,ha,Rl,Tf,hc,k)=h,D9[Gz[Iw[xrb Hr Y] Hr[zM[bj[Gi[xIg B5] B5]] B5]]],SC e1[A6 64*ST a+iw-1=ST[64*a+b-1]][WM[OO Rl]] (_,rfl,p,C,dx,_,_,rfl,hp,T.cl,T.nW,xoC _ _ _,_,_,rfl,rfl,xQP,_,rfl,p,C,dx,_,_,rfl,hp,T.cl,T.nC,xuM _ _ _,_,_,rfl,rfl,_,_,rfl,rfl,_,rfl,p,C,dx,_,_,rfl,hp,T.cl,T.nI,xi9 _ _ _,?_))
 try dsimp only
 show aC[vE _ rfl[Bx [_,_,_][UK Β tF] x67 SB HN[qJ ha] Tf[DI [_,_] AM SL AM xWo Rl]] hc k]
def PB (W T R:LE):Prop:=∃i ps Rb,i<4/\rL[j<4->xQa≤xIu j/\(j<i->xQa<xIu j)]/\SI i W T ps/\xxH[ze 0] Gj Rb/\R=vD[sM[E7[64*i]-1]] Rb
def PB.facts {W T R:LE}(h:xSq)(t:oi):me R/\xwC 69:=by
 show(Fw i ps Rb hi hm hp hr rfl,υ hlen hr.len h0[xIu 0=x47 8][by rw [xx2 (u:=0) (ps:=ko) rfl,xwT]],eK (hm 0 Z9).1);rw [h0,xx2 hp] at h1;show(ju hl t.le Ul t.one[FQ[xvv[Bm[wU hb[bx[Bx [_,_,_][UK Β tF] x67 SB HN[qJ hi] hl[DI [_,_] AM SL AM xWo Ul]][Zc 8 [_,_,_,_][jt[BE[xo Bp]]][ou[xo[xMD 8[ud 7]]]] SB HN x6j[xOT[oM 8 hl DB]]] b][hr.byt b]]]]],jb sld IQ IQ);show x3W 3+2≤69;show BM[Zc 8 [_,_,_,_][jt[BE[xo Bp]]][ou[xo[xMD 8[ud 7]]]] xWv[.n 69] x6j[xOT[oM 8 hl DB]]]
def xqu (t:xCd)(s:on Tb H H')(n:Θ B0):Bv:=by
 cases e:pV with
 |none=>rfl
 |some o=>
  by_cases z:l=Tb
  ·show(xIM,ydg h t,AQ h n n)
  ·show AQ[FV z e] n n
structure Bks (K:Frag)(mg:Ι)(B D G CW C0 C1 C2 C3 c CK QP:Qq):Prop where
 Z:xJY G
 Y:x4c CK
 T:xyG K mg QP
 min:yes
 best:∃f fd dV,xwg K "best_way" "best_way" xqs dV c f fd/\mg "best_way"=kZ/\lL Jag/\xEB K Jag xVq
inductive xkP (Tb:Qq) (vs:Sy) (H:Hp) (Q:VK) (QL:XK):Prop
 |mk (a:Qq) (x:V) (T W:LE) (h0:vs=zR x) (h1:Υ=Hj) (h2:ZD) (h3:oi) (h4:QX) (h5:Xx l Qq R LE[Bv->xSq->B0=nN->on Tb H H'->xCd->B8]):xkP Tb vs H Q QL
def xzv:XL ["text","before","way","bits","body","head"] Jag xrD:=Tm
def xgk (F:Sa K "put_block" "put_block" xrD dV f fd)(Z:Bks K mg B D G CW C0 C1 C2 C3 c CK QP)(hC:Vn)(hBm:jQ)(hK:yX):Cc 40 Jag[xkP Tb]:=by
 show((fB,fdB,dB,FB,mB,bB,_)=Z.best,Tl ZB Z.Z.S0.Zb X ZB.R.X,fh ZB.init,xEZ Ro ZB.row TB ZB.T,(_,_,FH,bH,MH)=Z.T.init,GH=xmR (P:=P) (w:=w) (base:=base) FH Z.T,xEZ Hw Z.T.row GR[xbx (P:=P) (w:=w) (base:=base) Hw.F Z.T Z.Y],x1K Wc Z.Y.withcheck xzv[λ QE A outer st H vs Q E hr h=>?_],(a,x,T,W,rfl,ha,hx,tw,hT,k)=h,tP QW F9 Uj 2,tP hr7[Dk 7] hr8 8,xDe hr35 35,gp[DS 2 xzv.nd[dz[xbQ FB Z.Z Z.min hC hBm hK] hr mB FB.kp bB bA[jA 0 1]][Gn 3 xzv.nd[Q7[xn8 (mg:=mg) FI TB] Uj ZB.m bI bA][aB[xmC (P:=P) (w:=w) (K:=K) (mg:=mg) (base:=base) (k:=35) rfl rfl rfl rfl rfl Ζ hr35[Wt 3 0 1]]][ID 4 xzv.nd[zX AZ TB.cl Ro[xhv Ro.F TB X]] 5 xzv.nd[xxg MH GH Uj Z7 Z.T.m bH .nil bA[xJ5[xg0 (P:=P) (w:=w) (K:=K) (mg:=mg) (base:=base) (k:=1) rfl rfl rfl rfl rfl Ζ QW] xA2 xMW]][Gz[aE[xrj Wc Z.Y] hr7 Wc[BO[rY[xxt qK Z.T.cl Hw GR hr8] Bb]]]]]]] (_,rfl,_,rfl,a,x,T,W,rfl,ha,hx,tw,hT,λ i o dx H1 hi no ho hmin sT Yj=>A1),WK=Z.Z.ok (P:=P) (w:=w) (base:=base) hi,(fT,fdT,mT,bT,GT)=WK.tell,(fN,Xd,mN,bN,GN)=WK.num,Tl WZ[qz[hT.ne ha vK] ha] W6[hx.sameT hT sT],xGM)
 intro p dp np ndp nep;show((hp0:je[(qY[xBc H1 dp p] p B dp) p] B dp [])=ad,B9 s0[FN B np ndp][jE p dp hp0[λ d H2 nd RT YR=>xYl]],Sc nd0[UQ d][Yf nd] Sv xHL[λ c o e=>xJT iE gm])
 clear s0 hp0 YR nd;show(xJp (_,rfl,o,_,dx,[],fT,fdT,_,_,rfl,xD1 ho,rfl,WK.cl,mT,GT,bT,_,rfl,_,rfl,_,rfl,o,p,d,a,x,T,W,0,0,rfl,RT,Z9,xD1 WZ,W6.same Sv,tw,λ ps H3 hps VZ Q4=>A1),UN s13[K' H1 H3][λ c o e=>Ga[xD1 e] gm[Af nd0]] Kq VZ,hgd=(hps.good tw).2);clear RT Q4 Sv;show(xGM,(Uy,r3,k3,RE)=VZ.ob,VB (_,rfl,p,Uy,_,rfl,RE,ZE,p,d,_,_,rfl,VZ,uJ hgd,λ lr Rb H4 S9 hlr row s34=>A1),Tl VP yjo hlen row.len,jz hcst (hmin 0 Z9).1[xx2 (u:=0) (ps:=ko) rfl] xwT[xx2 hps] hcst,Ss=tw.le);clear RE VZ s34 s13 S9;show Bu (_,rfl,o,_,dx,[],fN,Xd,_,_,rfl,xJS ho,rfl,WK.cl,mN,GN,bN,o,rfl,_,rfl,a,_,rfl,BN[xJS WZ],_,rfl,lr,_,rfl,BN hlr,?_)
 intro h dh nh ndh neh;show(B9 s0[FN QP nh ndh] (h,dh,i,(rU).length,(xLC).length,rfl,ad,λ H5 hh VR=>xYl),(s45:K' H4 H5)=λ c o e=>oh iE[Af nh],Ua IS hh,Tl hlr5[s45 _ _ hlr] s15[VP.trans s45]);clear s0 VR hlr s45 VP;show(ω (_,rfl,h,dh,_,rfl,hh,xdG _ _ _,h,dh,i,T.length,Rb.length,rfl,hh,hi,tw.one,tw.le,(Zc 8 [_,_,_][Ξ[jt EG]][x4G[xo[sN 7]]] SB HN hgd[oM 8 vT DB]),λ l6 H6 nl6 s56 hl6=>?_) (_,rfl,l6,lr,_,_,rfl,rfl,hl6,xRW hlr5,bV[by show(mY IS,tX[x3W 3],DE [_,_,_][Ξ[Ρ EG]][x4G[Aw[sN 7]]] yv Bc hgd vT DB)],UF l7 n7),υ s67[Dn[A5[sM[E7[64*i]-1]]++xLC] n7] h77[kS H6 l7[A5[sM[E7[64*i]-1]]++xLC] l7=BA[sM[E7[64*i]-1]++Rb]] xIO,s17=(s15.trans s56).trans s67,az H6 l7[A5[sM[E7[64*i]-1]]++xLC] H7,Vk hone tw.one (l7,_,rfl,h77,Bm[wU hb[bx[Bx [_,_,_][UK Β tF] x67 SB HN[qJ hi] Ss[DI [_,_] AM SL AM xWo hone]][Zc 8 [_,_,_][Ξ[jt EG]][x4G[xo[sN 7]]] SB HN hgd[oM 8 vT DB]] b][row.byt b]],by show(EF IQ[IK[x3W 3]],BM[Zc 2 [_,_,_][Ξ[A8 EG]][x4G[xQO[sN 7]]] yv Dm hgd[oM 2 vT DB]]),λ l H8 nl s78 hl=>?_)[ZF H8[xqu[Yj.same s17][λ c o n e=>s17 _ _[qz n e]] nl] (i,ps,Rb,hi,hmin,hps,row,rfl) hl[λ c o n e=>s78 _ _[s17 _ _[qz n e]]][Yj.same[s17.trans s78]]])
universe K27.Ck
namespace K27
open PySem L2 QQ W17 W16 BP
seal PE PA PS PSs PT PW PG PI
abbrev io:QC:=top 28
abbrev xvL:QC:=uG 30
abbrev xxV:QC:=uH 30
abbrev xxU:QC:=dN 30
abbrev xut:QC:=se 30 5
def bt (R:LE)(t s:Nat):Nat:=xHU/2^(C8-(t+s))%2^s
def xy5:XL ["row","place","size","end","bytes_to_end","number","byte"] Jak io:=Tm
inductive xkM (H:Hp) (a:Qq) (p:Nat) (s:Nat) (l:Qq) (C:LE) (i:Nat) (σ:St) (H2:Hp):Prop
 |mk (v:EY) (h0:σ=[BL,oz,Α s,Α[p+s],Α[(p+s+7)/8],Α xZV,v]) (h1:H2=WA xLY):xkM H a p s l C i σ H2
def xnW (F:Ο "bits_at" io Jak)(O:xZn)(T:Df):xQW Jak xu5:=by
 show(SC GO[Vq fO fdO Jaj spOnes][xq5 O][F.F.ok xy5 λ QE A outer st H vs Q E hr h=>?_],uk,(a,B,p,s,rfl,hB,hb,hps,hs,k)=h,Gw[ID 3 xy5.nd[xUZ Ζ] 4 xy5.nd[xAv[xS AZ]][DP 5 xy5.nd ag[xf[xDd Η[xAv τ] Bb] 6 xy5.nd[eI 5 xy5.nd[ao xok[zP xwS qK] jy]]][ao xxa[ao xxY qK[y4[xIg Bb] AZ]][oV GO O 2]]]][F1 _ rfl _ _ _ rfl rfl ?_] (_,rfl,_,_,rfl,rfl,_,_,rfl,rfl,(by decide,by decide),?_),G9[(xIU+A6 s+7)/8=ST[(p+s+7)/8]][S2 xMY xMY][xIU/8=ST[p/8]][S2 xMY xMY],Sc e3[xIU+A6 s=rH s][S2 xAq xAq] h1[p/8≤(p+s+7)/8][BM[zQ 8 [_,_,_,_][jt[Ft Fs 7]][Aw x5H] SL DB zV]],(h2:sC[(p+s+7)/8])=BM[zQ 8 [_,_,_,_][.a Fs HE][ou[CN Fs 7]] SL hps DB])
 try dsimp only
 show rK e1 e3 (_,rfl,_,rfl,_,_,rfl,rfl,(by decide,by decide),_,rfl,_,rfl,_,rfl,a,_,rfl,xFU,UF l hl)
 try dsimp only
 show(xPz[xb0 h1 h2],Sc hc[Zo[xKh[(p+s+7)/8][p/8]]][λ b RJ=>qN[JK[JZ RJ]]] hcl[EI[xKh[(p+s+7)/8][p/8]] 4][xIE Je Jc],x4O key[BP.bits_cut hb hps][xKh[(p+s+7)/8][p/8]] C,SC sm[gk[WA xLY]][λ b o e=>Eh hl e][xDu l ad[i' Ws K l xLY[xkM H a p s l C] yd3[λ i σ H2 _ z9=>by show xKw e;exact WQ xFQ] ?_ ?_]])
 ·rintro i y σ H2 hi ⟨v,rfl,rfl⟩;show(Dr b Rl[dZ hi],Sc Tf xIK[hc b x48] Su[xVH i] x7F,A3 hv[xZV<xZO[C.take i]][BP.xy0 λ b RJ=>hc b[JK RJ]] hv2[xZV<256^4][Ja hv[Lg[by decide][Gb[Dg [_,_] Ω xHC D5 hcl Fb]]]] (_,rfl,_,_,rfl,rfl,Cm[by decide][by decide],_,rfl,_,_,rfl,rfl,?_))
  ·show cw[Zx 256^4<2^64][by decide]
  ·show υ e[xve xZV b 8 Tf] e'[xZV*2^8+b=BP.val[C.take[i+1]]][by rw [xwW Rl,BP.xu7]]
   try dsimp only
   show Ε e' e[ni yL[congrArg[SZ [xT8 a,oz,Α s,Α[p+s],Α[(p+s+7)/8],some[V.int z],yL]] e]]
 ·show xF7 σ H2 v rfl
  try dsimp only
  show(mY Ki,SC e4[wX*ST[(p+s+7)/8]-rH s=ST[8*((p+s+7)/8)-(p+s)]][by lia] (_,rfl,_,rfl,_,_,rfl,rfl,Zp[by decide][by decide],_,rfl,_,_,rfl,rfl,?_))
  try dsimp only
  show Γ e4 (_,_,rfl,rfl,kX zW,_,rfl,s,rfl,xHc 24 hs,_,_,rfl,rfl,?_)
  try dsimp only
  show Iv xqE xxm key[Ey sm]
structure QR (C:Qq)(H:Hp)(p d:Qq)(R:LE)(t:Nat):Prop where
 ob:∃dx,G5 va
 ls:H d=nN
 by':wR
 le:xJE
structure CRd (K:Frag)(mg:Ι)(C:Qq):Prop where
 cl:Es
 nH:f9 "held"
 nT:f9 "taken"
inductive xlm (C:Qq) (vs:Sy) (H:Hp) (Q:VK) (QL:XK):Prop
 |mk (p dx a:Qq) (R:LE) (h0:vs=Tr) (h1:xO2) (h2:Υ=nN) (h3:me R) (h4:tK d Qq H' Hp[B7 d][xO0 H' 0->qC b[zc->jR->rq]]):xlm C vs H Q QL
def xa5:XL Jal Jal xvL:=Tm
def xiO (F:yhs xvL)(N:xZq)(Y:ZK)(T:xR8):Cc 5 Jal[xlm C]:=by
 show(SC GN[iU 4 fN Xd Jaf spNeedRow][xTD Y][F.ok xa5 λ QE A outer st H vs Q E hr h=>?_],uk,(p,dx,a,R',rfl,hp,ha,hb,k)=h,Fx[xCD[oV GN N 1] ag][VM a R' ha hb[UF d hd]],(UW:p≠d)=xGC hd,ω (_,rfl,p,C,dx,[],rfl,(Δ UW hp),T.cl,T.nH,xEt,_,rfl,p,C,dx,_,rfl,ad,T.cl,T.nT,pk,?_)[k d _ hd (o3[Qp ad[x2V l[xU5 C l][xs4 d 0]]],by rw [vJ,vJ,ad],hb,B1) λ b o e hb=>?_],Iv UG UG[oQ hd] e)
inductive spLeft (C:Qq) (vs:Sy) (H:Hp) (Q:VK) (QL:XK):Prop
 |mk (p d:Qq) (R:LE) (t:Nat) (h0:vs=Cg) (h1:xSm) (h2:i9[C8-t]):x2P vs H Q QL
def xcH:gQ xxU:=Tm
def xqF (F:Bq "left" "BitReader.left" xxU)(T:xR8)(X:Df):VI x2P:=by
 show(D2 xcH[λ QE A outer st H vs Q E hr h=>?_],(p,d,R,t,rfl,((dx,hp),hd,hb,ht),q)=h,xb[y4[xIg x5q] B5] (_,rfl,p,C,dx,_,_,rfl,hp,T.cl,T.nH,xqR _ _,d,_,rfl,BN hd,_,_,rfl,rfl,Zp[by decide][by decide],?_),DK (_,rfl,p,C,dx,_,_,rfl,hp,T.cl,T.nT,xyk _ _,_,_,rfl,rfl,?_) e[wX*o7 sR-A6 t=ST[C8-t]][pI IS])
 try dsimp only
 show WQ q
inductive xtu (C:Qq) (vs:Sy) (H:Hp) (Q:VK) (QL:XK):Prop
 |mk (p d:Qq) (R:LE) (t s:Nat) (h0:vs=[FR,Iq]) (h1:xSm) (h2:s≤24) (h3:XE[t+s]) (h4:vg[xO0 H'[t+s]][(∀c o,Ψ->CY->Cf)->xFv[xBK s]]):xtu C vs H Q QL
def scTake:XL[xAj "size" "number"] xAx xxV:=Tm
def xpv (F:Bq "take" "BitReader.take" xxV)(S:yiI xx8 Jaj fS fdS)(W:x2I fW' U2)
  (B:ykC io Jak fB fdB) (O:xZn) (L:Me K C "left" "BitReader.left" xxU Jab fL fdL) (T:xR8) (X:Df):
  vn xAx[xtu C]:=by
 show(Sc GS[iU 2 fS fdS Jaj spNeedSize][xl2 S W X] GB[iU 2 fB fdB Jak xu5][xnW B O X],SC GL[Vq fL fdL Jab x2P][xqF L.F T X][F.ok scTake λ QE A outer st H vs Q E hr h=>?_],uk,(p,d,R,t,s,rfl,S0,hs,Tu,q)=h,x2t hp hd hb ht[id S0],De UW p d[xXR hd A2] QW F9[hr.mono[by decide]],(Uj:Dk 2)=hr.mono[by decide],Gw[Fm[Ih GS Uj S 1][ac[yn[qO τ[zX Η T.cl L GL]]]
  (DP 2 scTake.nd[aE GB Uj B[xOC[xOC oF]]][x0i[Gi B5 τ]] Ζ)]][y3 s hs ?_] (_,rfl,_,rfl,p,dx,_,rfl,hp,x2J[by decide+kernel][by decide+kernel],p,d,R,t,rfl,S0,_,_,rfl,rfl,_,rfl,x0d h0 aX))
 ·show HI[Jd h0][yR [_,_,_,_][kx Ω 3 EG][xo[Ρ xF1]][IP Tu[IP xwJ W1]]]
 show((_,rfl,p,C,dx,_,_,rfl,hp,T.cl,T.nH,xqR _ _,_,rfl,p,C,dx,_,_,rfl,hp,T.cl,T.nT,xyk _ _,_,rfl,d,R,t,s,rfl,hd,hb,Tu,hs,UF H1 sm),χ RD x64 (_,rfl,p,C,dx,_,_,rfl,RD,T.cl,T.nT,xyk _ _,_,rfl,_,_,rfl,rfl,_,rfl,p,C,dx,_,rfl,RD,T.cl,T.nT,xcP _ _,?_),VT[A6 t+A6 s=ST[t+s]][S2 xAq xAq])
 try dsimp only
 show(xQh xc3,Fx rfl[Ww (o3 ad,Δ UW.symm[y9 hd],hb,Tu) λ c o e n1=>?_],Δ n1[sm c o e])
inductive xmn (C:Qq) (vs:Sy) (H:Hp) (Q:VK) (QL:XK):Prop
 |mk (p d:Qq) (R:LE) (t:Nat) (h0:vs=Cg) (h1:xSm) (h2:C8-t<8) (h3:xAP%2^(C8-t)=0) (h4:xN9 x5):xmn C vs H Q QL
def xmg:xzZ[Ax "left"] xut:=Tm
def xiG (F:Bq "at_end" "BitReader.at_end" xut)
  (B:ykC io Jak fB fdB) (O:xZn) (L:Me K C "left" "BitReader.left" xxU Jab fL fdL) (T:xR8) (X:Df):
  rm 3[xmn C]:=by
 show(A3 GB[iU 2 fB fdB Jak xu5][xnW B O X] GL[Vq fL fdL Jab x2P][xqF L.F T X][F.ok xmg λ QE A outer st H vs Q E hr h=>?_],uk,(p,d,R,t,rfl,S0,h8,hv,q)=h,x2t hp hd hb ht[id S0],(QW:F9)=hr.mono[by decide],Fx[DS 1 xmg.nd[zX Η T.cl L GL][Gz[kP[oS xtf τ ag][oS xza[Iw GB B[xOC[xOC oF]]] ag]]]] (_,rfl,p,dx,_,rfl,hp,x2J[by decide+kernel][by decide+kernel],p,d,R,t,rfl,S0,?_),DK[u7 _ rfl _ _ _ rfl ?_] e0[Ty[HY[ST[C8-t]] 8]][IZ[BM[xn[HH SB Dv SB Dv h8]]]])
 try dsimp only
 show([e0],ω Zy (_,rfl,p,C,dx,_,_,rfl,hp,T.cl,T.nH,xqR _ _,_,rfl,p,C,dx,_,_,rfl,hp,T.cl,T.nT,xyk _ _,_,rfl,d,R,t,C8-t,rfl,hd,hb,Ay [_,_,_] Ω EG WF EG[DI [_,_] Re Bp Re Bp ht],Ay DU SB[.n 8] Re xV7 h8,UF H1 sm),VT[C8-(t+(C8-t))=0][BW[Dg [_,_,_,_][wm[Ρ DG]][xIe Hq] Hc W1[DI [_,_,_] WF EG Ω EG[DI [_,_] Re Bp Re Bp ht]]] zW])
 try dsimp only
 show([e1,Nat.pow_zero,Nat.div_one],Ea Ej hv[q H1 sm])
universe K27
namespace K27.Ck
open PySem L2 QQ W17 W16 BP
seal PE PA PS PSs PT PW PG PI
abbrev xqM:QC:=top 39
abbrev xyd:QC:=top 102
abbrev xyr:QC:=top 103
abbrev xrT:QC:=top 105
structure Hds (K:Frag)(mg:Ι)(C QP:Qq):Prop where
 Y:xRR
 T:xyG K mg QP
 N:ZK
 need:x2u xwZ Jaf
 headrow:Ν "head_row" xtP xMj
 three:IE "HEAD_BYTES" 3
 twoB:IE "CHECK_BYTES" 2
 most:IE "MOST_INSIDE" 64
structure Erx (K:Frag)(mg:Ι)(cM cH cK cT:Qq):Prop where
 mM:yj7=π cM
 mH:yj8=π cH
 mK:yjr=π cK
 mT:yj9=π cT
 xM:yM cM
 xH:yM cH
 xK:yM cK
 xT:yM cT
inductive xj9 (QP cH:Qq) (vs:Sy) (H:Hp) (Q:VK) (E:XK):Prop
 |mk (x:Qq) (a b c:Nat) (h0:vs=xQM) (h1:uQ=BA [a,b,c]) (h2:fE [a,b,c]) (h5:(c=T7/\my/\(b=0->a=0)/\(b=0->vi)/\(Hh->∀p dx H',Vu->Χ->AX xDk QP[fH[a/64][a%64+1] b]->xYg))\/(FL T7/\BB cH)):xj9 QP cH vs H Q E
def xu2:XL ["row","told","first","inside"] Jam xyd:=Tm
def xnP (F:Ο "head_of" xyd Jam)(Z:xZh C QP)(Er:Sd):pS 32 Jam[xj9 QP cH]:=by
 show(xEZ N Z.need GN[ok_needrow (P:=P) (w:=w) (base:=base) N Z.N],(_,_,Hr)=Z.headrow,fh Z.T.init,xBO Z.N.X,DW t3 h3 Z.three t64 QY Z.most,kz xu2[λ QE A outer st H vs Q E hr h=>?_],Fw x a b c rfl hx YY hh,Tl ha[YY a Jl] hb8[YY b[XQ Jl]],DF hu hr.units hr7[Dk 7] CJ Uj[Dk 2] CJ,Fx[Gn 1 xu2.nd[Ih GN CJ N 0][yn[HX xwO[xKj τ] xI4]][DS 2 xu2.nd[xKm xto τ][Gn 3 xu2.nd[xKm xto τ][uD[HX xVY τ[aE[xrb Hr Z.Y] hr7 Hr xEc]] Er.mH Er.xH][jY[xP7[CE Ζ][CE AZ]] xwU[yj[yn[zo[CE AZ][qO AZ[FK 64 QY t64]]]][xxg MI[xmR (mg:=mg) FI Z.T] Uj Z7 Z.T.m bI .nil bA[aa xWp[aa[xS[V8 Ζ]][sf 3]]]]]]]]] Zk,T8[VM _ [a,b,c] hx YY[λ l hn=>AA]],YD s1 [a,b,c] hn hll[(dI [a,b,c]) l=BA [a,b,c]],az H l[A5 [a,b,c]] H1,ω (_,rfl,l,_,rfl,BN hll,rfl,_,rfl,AI) (_,rfl,l,_,_,_,rfl,rfl,QK.of hll,tZ,?_),ω (_,rfl,l,_,_,_,rfl,rfl,QK.of hll,xp,?_) (_,rfl,_,rfl,_,rfl,a,b,rfl,ha,hb8,λ l2 H2 n2 s2 Xc=>?_),ju Sv Fy Q0[ES hll] (l,l2,ky [a,b,c],ky lI,rfl,rfl,QK.of Q0,QK.of Xc,_,rfl,?_));rcases hh with⟨rfl,hb,Y2,k0,k1⟩|⟨hc,k⟩
 rotate_left
 ·show xCX[xNH[pU[JA[show xWL[ST c][ST T7] from x3k[λ l:Za=>l[2]?]]]]][bZ[Ey Sv]]
 show(Γ[IZ[CA[List.map[λ b:Nat=>wd] [a,b,T7]][List.map[λ b:Nat=>wd] lI]]] AI,(v0:∀{n},(V.int[ST n]=xFn)<->n=0)=λ {n}=>xQq[pU yaK][Ar z],vI AA);rcases M3 b with hb0|Rl
 ·exact tT[xA7[tT[xA7[k0 hb0 _ Sv][A9[IZ[v0.2 hb0]] h]]][A9[IZ[v0.2[Y2 hb0]]] h]]
 show ω[xvZ R g][(λ(J:R [some (.ref x),some (.ref l),some (vN a),some (vN b)] H2)=>?_) AA]
 ·exact tT[xA7[tT[aZ[A9[v0.1 rC] xGQ] λ _=>J]][λ _=>bp J]]
 show(CF,Ec[tT[aZ[A9[v0.1 rC] xGQ] aX]][u7 _ rfl _ _ _ rfl[aZ[A9[lz rC][Zs hb]] aX]] (_,rfl,_,_,rfl,rfl,x5u Z9,_,rfl,_,_,rfl,rfl,(HA[FX<64]),_,_,rfl,rfl,_,rfl,?_));intro h dh nh ndh neh;show aH s0[FN QP nh ndh] (h,dh,a/64,a%64+1,b,rfl,ad,λ H5 hh VR=>ZV[k1 Rl h dh H5[none_of Sv nh][λ c o e=>oh[pH[xD1 e]][ai[xD1 e] nh]] hh])
inductive xmp (QP:Qq) (vs:Sy) (H:Hp) (Q:VK) (QL:XK):Prop
 |mk (p dx:Qq) (a b c:Nat) (h0:vs=Cg) (h1:xh p QP xD0) (h2:i9[c+5]):xmp QP vs H Q QL
def xbH:XL xF8 xF8 xyr:=Tm
def xqS (F:Ο "block_size" xyr xF8)(Z:xZh C QP):eg xF8[xmp QP]:=by
 show(DW t3 h3 Z.three t2 h2 Z.twoB,D1 xbH[λ QE A outer st H vs Q E hr h=>?_],Fw p dx a b c rfl hp k,xb[Gi[Gi xI4 B5][FK 2 h2 t2]] (_,rfl,p,QP,dx,_,_,rfl,hp,Z.T.cl,Z.T.nI,xi9 _ _ _,_,_,rfl,rfl,_,_,rfl,rfl,?_),C7[A6 3+A6 c+2=ST[c+5]][S2[Fv xWv vy][Fv vy xWv]])
 try dsimp only
 show WQ k
inductive xkc (QP:Qq) (vs:Sy) (H:Hp) (Q:VK) (QL:XK):Prop
 |mk (x:Qq) (a b:Nat) (r:LE) (h0:vs=xQM) (h1:uQ=BA[lI++r]) (h2:ZO) (h3:my) (h4:Hh) (h5:k8[b+2]) (h6:∀p dx H',Vu->Χ->AX xDk QP[fH[a/64][a%64+1] b]->xYg):xkc QP vs H Q QL
def xkY:XL ["block","head"] x2Q xrT:=Tm
def sK (F:Ο "need_head" xrT x2Q)(O:Gg "head_of" xyd Jam fO fdO)(Bs:Gg "block_size" xyr xF8 fB fdB)(Z:xZh C QP)(Er:Sd):
  pS 33 x2Q[xkc QP]:=by
 show(xBO Z.N.X,(t3,h3)=Z.three,kz xkY[λ QE A outer st H vs Q E hr h=>?_],(x,a,b,r,rfl,hB,ha,hb,Rl,hl,k)=h,Xo QW F9[ac[yn[ZS iJ xI4]]
  (Gn 1 xkY.nd[vL[xnP O Z Er] O.m O.F.kp O.b[BO[kU Η xI4]]][yn[xI7 τ]][yj[yn[HX xwO iJ[yU[xqS Bs Z] Bs 1]]] τ])],SC el[BD[A5[lI++r]][b+5]][by show AR IS hl;show 3+_=_;show T5 x50 vy[Fv vy x50]] (_,rfl,x,_,rfl,BN hB,_,_,rfl,rfl,_,rfl,xRD aX))
 ·show(h=rC,Ε el h[yR DU[xFS 5] DH[lz h]])
 show(DK[F1 _ rfl _ x _ rfl xFU[UF l hn]] ec[cutV[A5[lI++r]] none x5y=A5 lI][xxj _ 3],dW,χ s1[wH lI hn][Hx l a b _ ad[xRK hb][.inl (rfl,hb,SZ[BW[G6 [_,_][tG[DT 255 AM[Zv 255]]][BZ 256[zx 255[.m 255 Hc]]] Hc ha[IV 255 Rl][IV 255[IR z]]] zW],SZ[rB UI xHE[aM Rl z]],λ _ p dx H2 np s2 hp=>?_)]],Vk Sv Fy[tT[aZ[Wg[Jd z] A2] aX]] (_,rfl,x,_,rfl,BN[xD1 hB],_,rfl,p,dx,_,_,_,rfl,hp,rfl,_,rfl,?_),XV el gU[gM[k p dx H2[xFA np] Sv hp]])
def xp0 (n d):x3o d[some[-2]]=n-2:=by
 unfold HT.sIx;show x5a
def xcC (B:LE):cutV sO none[some[-2]]=A5 xOZ:=by
 show(xwF,[xp0,HT.xu1,Lv,MM,IS,LO])
def xbn (B:LE)(h:sC 5):jv sO 3[-2]=A5[xKh[xKl 2] 3]:=by
 show(xwF,[xp0,CA[A6 3][ST 3],HT.RG,IS,J9[IY[by decide] h],LY,LO,List.drop_take])
def iA (R:LE):sR=yeE x2H:=Ar K1
def xyh (R):BD xWG[R.length+2]:=IQ
def xvz (R):Ew xWG (xWG).length 2=R:=LT xyh Qn
inductive xj8 (vs:Sy) (H:Hp) (Q:VK) (QL:XK):Prop
 |mk (a:Qq) (B:LE) (h0:vs=F5) (h1:Υ=uK) (h2:xJs) (h3:x1O) (h4:xN9[.bl[CG[sld xOZ] B]]):xj8 vs H Q QL
def xiP:XL Jam Jam xqM:=Tm
def xnl {f fW:Qq}(F:Ο "ends_in_check" xqM Jam)(Wc:Gg "with_check" xyq Jam fW U2)(Y:xRR):Cc 8 Jam xj8:=by
 show(D1 xiP[λ QE A outer st H vs Q E hr h=>?_],XT a B rfl hB hb hl k,hu=hr.units,xb[oS xVZ[Iw[xrj Wc Y] Wc[BO[kU Η xBH]]] Η] (_,rfl,_,rfl,_,rfl,a,_,rfl,xFU,UF l hn),[xcC],χ s1[wH xOZ hn] (l,xOZ,rfl,ad,λ b z=>qN[JK z],IY[Gb Fb] hl,λ l2 H2 n2 s2 h2=>?_),hB=xXu hB);rw [iA] at hB h2;show Ea (_,rfl,l2,a,_,_,rfl,rfl,QK.of h2,xFU,?_)[BJ[CG[ky[sld xOZ]][B.map xGu]][CG[sld xOZ] B][decide_eq_decide.mpr[xQq[PJ[λ _ _ z=>Int.ofNat_inj.1 z]|>.1 z] xQe]]][Ey Fy]
def xmW (r a):BC r [xP4]=A5[xE2 r]:=by
 induction r with
 |zero=>rfl
 |succ r ih=>show gA KG Ky ih
def bt8 (hb:wR)(hi:UE i):yS[8*i]=R[(i)]:=by
 show υ h[xpi hb[Mq i] hi] e[(R.take[i+1]).drop i=[R[(i)]]][by rw [xwW xW4,NQ[pI Jc]]]
 rw [e,xyl,xpd,show i.succ-i=1 by show BW[Dh WF Β Re AM[NL.J' x63]][Dh Β WF AM Re W1],xyX,xyX] at h;show(E2,[h],Fq bt[show C8-(8*i+8)=8*(R.length-(i+1)) by show El[Dg [_,_,_,_][wm[Ρ x5G]][DT 8 yp Hq] Bp[wk W1][DI [_,_] x56 Bp[Eg HE] Bp[wk hi]]] [_,_,_,_][wm[HD yp]][xHq x5G Hq] Bp W1[wk[rA [_,_] SB SB hi]]])
structure Rdr (K:Frag)(mg:Ι)(C:Qq):Prop where
 Y:ZK
 T:xR8
 m:mg "BitReader"=zl
 init:IG[yhs xvL/\lL Jal/\Sq]
 take:jV C "take" "BitReader.take" xxV xAx
 left:XA "left" "BitReader.left" xxU
 atend:XA "at_end" "BitReader.at_end" xut
 need:x2u xwZ Jaf
 size:ydo xx8 Jaj
 ones:Ν "ones" xxb Jaj
 bits:Ν "bits_at" io Jak
def Rdr.tk (Z:xJW):IG[Me K C "take" "BitReader.take" xxV xAx f fd/\∀P w base,vn xAx[xtu C]]:=by
 show((f,fd,Tk)=Z.take,C6 L Z.left W Z.Y.whole,xm S Z.size O Z.ones Ba Z.bits,E3 f fd Tk[λ _ _ _=>xpv Tk.F S W Ba O L Z.T Z.Y.X])
def _root_.K27.QR.keep (h:xSm)(k:∀c o,Ψ->(c=p\/c=d)->Cf):xO0 H' t:=by
 show(x2t hp hd r1 r2 h,E3[o3[bD hp bK]][bD hd xFP] r1 r2)
inductive xkh (C:Qq) (vs:Sy) (H:Hp) (Q:VK) (QL:XK):Prop
 |mk (o r d:Qq) (x:V) (R:LE) (n:Nat) (h0:vs=[Gv,eF,F6,x]) (h1:rJ H 0) (h2:wV) (h3:n≤R.length) (h4:tE[B0=BA[R.take n]->rJ H'[8*n]->(∀c o,Ψ->ZN->Cf)->B8]):xkh C vs H Q QL
def x0:XL Jad Jad xqt:=Tm
def xeb:HJ ["step","reader"]:=Z8
def xdh (C:Qq):TE:=xQt "take"[xtu C] [] E0[Q5 1][ER[vz 8]]
inductive xkU (C:Qq) (H:Hp) (r:Qq) (d:Qq) (R:LE) (l:Qq) (i:Nat) (ys:Sy) (σ:St) (H2:Hp):Prop
 |mk (v0:EY) (h0:σ=[v0,xJf]) (h1:i≤R.length) (h2:ys=A5 xKB) (h3:Vw=de) (h4:rJ H2[8*i]) (h5:∀c o,Ψ->ZN->ZL):xkU C H r d R l i ys σ H2
def xhc (F:x7J "RawWay.read" xqt)(Z:xJW):xB7 Jad[xkh C]:=by
 show(xVC,xTi Tk Z.tk,Tl GT[xW6 P w] TR Z.T,D2 x0[λ QE A outer st H vs Q E hr h=>?_],(o,r,d,x,R,n,rfl,hR,QY,hnR,k)=h,D9[Gz[xlJ (js:=[none,some 1]) rfl
  (bQ Z8 Z8 Z7[λ x c h=>(by show zN[xys h];rfl)][DX ?c1] rfl[λ i x j h1 h2=>?c2])
  (xIb AP)[λ fp s H=>VG xeb]
  (λ fp s H=>x4e hr)]])
 case c1=>
  rcases hx with hx|hx
  ·show(Sc m'[((x,NameKind.cell))∈([xBk,xKn "step",xTE "reader"]:wA)] xHX e[x="reader"][by simpa using m'],yA CQ)
  ·have m':((x,NameKind.free))∈([xBk,xKn "step",xTE "reader"]:wA):=xHX;simp at m'
 case c2=>
  show j6 xXX[bS c h h]
 show(Aa _ rfl BU[by lia][by lia] Ex,((dx0,X'),hd0,hb,_)=xXY,A3 S9[XB r] xWm Ui Tn xVk[xiy (g:=IF) (te:=xdh C) (lo:=0) (l:=l) (k:=xLL n)
  (xkU C H r d R l)
  (Aa none rfl B1 ad[hR.keep λ c o e _=>xJX][λ c o e _=>xJX]) ?_ ?_ ?_ ?_])
 ·rintro i ys σ H2 hi ⟨v0,rfl,hiR,rfl,TC,SK,kp⟩;show((hin:i<n)=ych,((dx,Uj),_,_,_)=id SK,(_,rfl,r,dx,_,rfl,Uj,jk,r,d,R,_,8,rfl,SK,Z9,Bj [_,_,_][xo x56][ou EG][Eg HE] Bp[wk hnR][wk hin],Μ H3 RS Q4))
  ·show((Su:UE i)=yc [_,_,_] tF Φ hnR hin,RZ[bt8 hb Su] hRi[AD R R[(i)]] xBX[F1 xON[bW[by show(mY Jc,DE [_,_,_][Ξ xGW][bE Φ] Re Bc QY hin G8)]] _ Su[Ai[xwW hRi] Ji] ad ?_[λ c o e n=>?_]])
   ·show(RS.keep λ c o e hc=>?_,Δ[by show(oH hc,x4L)] e)
   ·show Ye[Ga[Bo e n] n]
 rotate_left
 ·exact λ x σ H A B h z=>tM
 ·rintro σ H A B h ⟨v,e1,a',dx,fs,e2,e3,e4,p',d',R',t',s',e5,e6,e7,z',z⟩;exact(v,e1,a',dx,fs,e2,e3,e4,p',d',R',t',s',e5,e6,e7,z',λ H' z1 z2=>wF[z H' z1 z2])
 ·rintro ys σ H2 ⟨v0,rfl,hn,rfl,TC,SK,kp⟩;rw [JH] at TC SK hn;exact xYK nl TC SK kp
def xbe {v:α}(h1:Hh)(h2:xEI b)(h:Cs xs[p9 b] v):xNE xs[-iw]:=by
 show(C7[TD[xTt[-wd]][p9 b]][by
  show jb ixN[Jk[by lia]][Ju[by lia]];congr 1;lia],Bz atI e h)
def cpy (B:LE) (b:Nat):DQ LE
 |0=>B
 |n+1=>xPM++[iC xPM[xUG B n-b]]
def xwa (B)(b):∀n,BD xPM[dH n]:=λ n=>by
 induction n with
 |zero=>rfl
 |succ n ih=>show gA cpy IQ ih
inductive RnR (R:LE) (e:Nat):DQ[LE->cI LE]
 |done {t:Nat} {S:LE}:xA8 e->xB5 e t S t S
 |run {t t':Nat} {S S':LE}:tR->XE[t+14]->Zr[xPU+1]≤e->xB5 e[t+14][S++x1Z xPU 1[yS[t+6]]] t' S'->xB5 e t S t' S'
inductive CpR (R:LE) (e:Nat):DQ[LE->cI LE]
 |done {t:Nat} {S:LE}:xA8 e->xRG t S t S
 |sg {t t':Nat} {S S':LE}:tR->XE[t+9]->xBK 1=0->xRG[t+9][S++[yS[t+1]]] t' S'->xRG t S t' S'
 |cp {t t':Nat} {S S':LE}:tR->XE[t+13]->xBK 1=1->Zr[TP[t+9]+3]≤e->AL[yS[t+1]]->z8[yS[t+1]]->xRG[t+13][cpy S[yS[t+1]][TP[t+9]+3]] t' S'->xRG t S t' S'
structure Rds (K:Frag)(mg:Ι):Prop where
 X:yh
 room:Ν "need_room" xtN xF4
 lay:Ν "lay_copy" xqQ xUP
 add:Ν "add_copy" xqX x39
 ahead:Ν "signs_ahead" xqq Fu
inductive xkN (vs:Sy) (H:Hp) (Q:VK) (QL:XK):Prop
 |mk (a:Qq) (xs:Sy) (s e:Nat) (h0:vs=[AO,Iq,vN e]) (h1:Υ=Fh) (h2:xUr s≤e) (h3:xJq):xkN vs H Q QL
def xnr:XL xF4 xF4 xtN:=Tm
def xgl (F:Ο "need_room" xtN xF4)(Z:xJH):vn xF4 xkN:=by
 show(D1 xnr[λ QE A outer st H vs Q E hr h=>?_],Fw a xs s e rfl ha he k,jJ[yn[qO[Gi[ycr Η] τ] Ζ]] (_,rfl,a,_,rfl,BN ha,_,rfl,_,_,rfl,rfl,_,rfl,_,_,rfl,rfl,_,rfl,xMP h k),HI rC[yR [_,_,_] x6b x5l[IP he xwJ]])
inductive xkE (vs:Sy) (H:Hp) (Q:VK) (QL:XK):Prop
 |mk (l:Qq) (B:LE) (b z:Nat) (h0:vs=[Ct,qR,vN z]) (h1:pV=uK) (h2:Hh) (h3:sC b) (h4:IK[dH z]) (h5:xAC[dI[xVT z]]):xkE vs H Q QL
def xk9:XL[yf8 "step"] x39 xqX:=Tm
inductive xkn (H:Hp) (l:Qq) (B:LE) (b:Nat) (z:Nat) (j:Nat) (σ:St) (H2:Hp):Prop
 |mk (v3:EY) (h0:σ=[qB,yL,Α z,v3]) (h1:H2=dI[xVT j]):xkn H l B b z j σ H2
def xgI (F:Ο "add_copy" xqX x39)(T:yh):eg x39 xkE:=by
 show(D1 xk9[λ QE A outer st H vs Q E hr h=>?_],(l,B,b,z,rfl,hB,Rl,Tf,hz,k)=h,jJ[nK[xti Z7 T.range AP] 3 xk9.nd[rD[fP Η[oR[xrW xrh τ]]]]][Aa _ rfl[A6 z][by lia][by lia] ?_])
 try dsimp only
 show Γ JH[yaR[xkn H l B b z][xZx none] ?_ ?_]
 ·funext c;by_cases e:c=l
  ·show(DD,LT ad hB)
  ·rw [aj e]
 ·rintro j σ H2 hj ⟨v3,rfl,rfl⟩;show Iu hlen[xwa B b j] hg[xUG B j-b<xUG B j][yc [_,_,_][xQK EH] DG Rl[NL.J'[CM [_,_,_,_] xBt HM SL Re Tf xAb]]] (_,rfl,xq ad,_,rfl,_,rfl,_,rfl,l,_,_,vN[iC[xVT j][xUG B j-b]],rfl,rfl,xFQ,xbe Rl[uO[uW [_,_,_,_][Ρ Fs] DG Tf xAb]] ?_,?_)
  ·show kh IS Jw Jm[IW hg]
  ·show(ω[Hx l _ _ rfl ad[bW[uO[G6 [_,_,_,_][kx Φ 3 Re][iK[Aw WO]] Bc hz hj vT]]] ?_][xZx[some[V.int[FX+xIx]]]],gA xwQ cpy Ji)
 ·show(xF7 σ H2 v3 rfl,k)
inductive xkF (vs:Sy) (H:Hp) (Q:VK) (QL:XK):Prop
 |mk (x:Qq) (W:LE) (h0:vs=xQM) (h1:uQ=vZ) (h2:∀l,Bv->xY8 lW):xkF vs H Q QL
def xhy:XL Fu Fu xqq:=Tm
def xoc (F:Ο "signs_ahead" xqq Fu)(T:yh):eg Fu xkF:=by
 show(D1 xhy[λ QE A outer st H vs Q E hr h=>?_],yV x W hx k,xJ2[xqY[xI7 Η] rE x7v][tT[bp[ZC x[BN hx][λ l nl=>Wb nl]]]])
def xdr:XL xUP xUP xqQ:=Tm
inductive xki (C:Qq) (vs:Sy) (H:Hp) (Q:VK) (QL:XK):Prop
 |mk (o r d:Qq) (x:V) (R T:LE) (n t':Nat) (h0:vs=[Gv,eF,F6,x]) (h1:rJ H 0) (h2:xB5 n 0 [] t' T) (h3:wV) (h4:tE[B0=Hj->rJ H' t'->(∀c o,Ψ->ZN->Cf)->B8]):xki C vs H Q QL
def xuC:XL ["self","reader","count","before","signs","size","sign"] Jad xqn:=Tm
inductive xko (C:Qq) (H:Hp) (o:Qq) (r:Qq) (d:Qq) (x:V) (R:LE) (T:LE) (n:Nat) (t':Nat) (l:Qq) (m:Nat) (σ:St) (H2:Hp):Prop
 |mk (v5:EY) (v6:EY) (S:LE) (t:Nat) (h0:m=n-S.length) (h1:xB5 n t S t' T) (h2:σ=[xJg,xJf,Α n,dt,qB,v5,v6]) (h3:Vw=y0) (h4:rJ H2 t) (h5:∀c o,Ψ->ZN->ZL):xko C H o r d x R T n t' l m σ H2
def xgA (F:x7J "RunWay.read" xqn)(Y:xJH)(Z:xJW):xB7 Jad[xki C]:=by
 show(xVC,xTi Tk Z.tk,Tl GT[xW6 P w] TR Z.T,xEZ Nm Y.room GM[xgl (P:=P) (w:=w) (base:=base) Nm Y],D2 xuC[λ QE A outer st H vs Q E hr h=>?_],(o,r,d,x,R,T,n,t',rfl,hR,hk,QY,k)=h,D9[DP 4 xuC.nd rE[zd[ZS xMW Ζ][DS 5 xuC.nd[xS[x4e hr]][Gn 6 xuC.nd[x4e hr][aB[Iw GM Nm[Wt 4 5 2]]][rD[xZp Bb[BO[xOu[sf 6] qK]]]]]]] Bb],((dx0,X'),hd0,hb,_)=xXY,(no:∀t,Θ x6t)=λ t=>jk,xEh Ei,ZU Z9 xRi,Aj,De S9 l r xWm Ui Tn xVk,tW[Cm[xko C H o r d x R T n t' l] (n,none,none,[],0,rfl,hk,rfl,ad,hR.keep λ c o e _=>xJX,λ c o e _=>xJX)])
 rintro m σ H2 ⟨v5,v6,S,t,rfl,hk,rfl,TC,SK,kp⟩;refine(_,rfl,l,_,rfl,xYd,_,rfl,_,_,rfl,rfl,_,rfl,xg h h)
 ·show(Aj,Dd h' rC IS h');cases hk with
  |done e=>exact yR [_,_] xM1 WF[IP[lz h'] zL]
  |run q1 q2 q3 q4=>
  clear h h';show(ybo xRT,(Y3,Uj)=SK.ob,xEh kK,ω (_,rfl,r,Y3,_,rfl,Uj,qI,r,d,R,t,6,rfl,SK,Z9,Ay [_,_] x5o Bp[HS 6] Bp q2,Μ H3 RS Q4)[ya _ rfl bf],YK,VT[A6 xPU+1=qU xPU][S2 cb cb])
  try dsimp only
  show dG;generalize hz:xPU+1=z at*;show((Uy,S4)=RS.ob,Ec Zk kK (_,rfl,r,Uy,_,rfl,S4,qI,r,d,R,t+6,8,rfl,RS,Z9,Ay [_,_] x5o Bp[Eg[HS 6]] Bp q2,λ H4 Si TH=>bf),YK);generalize yS[t+6]=s at*;show(Vk h4l[VE xON S9] kK (_,rfl,_,rfl,_,rfl,l,_,z,n,rfl,h4l,uO[EZ WF Uf WF Uf q3],bf),YK,ZC[xq h4l] TY[UF l4 n4],fw s4 xDx n4 Yo[xEq l4 xDx l4=Az xDx],DF h4l'[X4 h4l] nl4[XB l4][ai h4l n4] hR5[rJ[Fj H4 l4 xDx][t+14]][Si.keep λ c o e _=>X4 e],(VR:∀c o,Ψ->Uz ZN[xEq l4 xDx c])=λ c o e z=>X4[VE[Ga xOd z] z],Cz[Fj H4 l4 xDx] H5 (_,rfl,l4,_,_,rfl,rfl,Yo,by lia,by lia,bV[by show tX[1*_];lia],UF l6 n6),[JH,xmW],YD s6[x92 s] n6 h66[(ZX H5 l6[x92 s]) l6=BA[x92 s]],χ h6l[kj h4l'] (l,l6,_,_,rfl,rfl,h6l,h66,bV[by simp;show Bj [_,_,_] x5l[bE Uf] WF Bc QY q3],_,?_,_,_,_,_,rfl,q4,rfl,xIO,hR5.keep λ c o e hc=>?_,λ c o e z=>?_))
  ·show([IQ,JQ,-hz],Ll q1[Lf Io])
  ·show Δ[by show(oH hc,x4L)][kj e]
  ·show Ye[kj[oh e z]]
 ·cases hk with
  |run q1=>show jF[xDb[Dp q1]] h
  |done e=>exact xOh[xYK nl TC SK kp]
abbrev xcR:CI:=["self","reader","count","before","signs","begin","end","back","size"]
def xy8:XL xcR Jad xrB:=Tm
universe K27.Ck
namespace K27
open PySem L2 QQ W17 W16 BP
seal PE PA PS PSs PT PW PG PI
abbrev xsS:QC:=se 30 3
inductive xll (C:Qq) (vs:Sy) (H:Hp) (Q:VK) (QL:XK):Prop
 |mk (p:_) (d:_) (R:_) (t:_) (h0:vs=Cg) (h1:xSm) (h2:i9 t):xll C vs H Q QL
def xbN:gQ xsS:=Tm
def xm8 (F:Bq "place" "BitReader.place" xsS)(T:xR8):VI[xll C]:=by
 show(D2 xbN[λ QE A outer st H vs Q E hr h=>?_],(p,d,R,t,rfl,((dx,hp),hd,hb,ht),q)=h,xJ2 B5 (_,rfl,p,C,dx,_,_,rfl,hp,T.cl,T.nT,xyk _ _,q))
def QR.same (h:xSm)(s:Χ):xO0 H' t:=by
 show(x2t h1 h2 h3 h4 h,E3[o3 xXt][FV h2] h3 h4)
universe K27
namespace K27.C
open PySem L2 QQ C9 C10
seal PE PA PS PSs PT PW PG PI
structure Mk2 (K:Frag)(mg:Ι)(C:Qq):Prop where
 X:Df
 Y:Lns K mg
 need:ykU xym
 cof:Ν "codes_of" xtM Jah
 keep:jV C "keep_beginnings" "CodeReader.keep_beginnings" xuc ydZ
 R:CRc K mg C
def ok_cinit (F:yhr sCInit)(M:Mk2 K mg C):Cc 34 yaA x2s:=by
 show((X,Y,(_,_,N),(_,_,O),(_,_,Ke),T)=M,Tl GO[xkX (P:=P) (w:=w) (base:=base) O N Y] GK[xbz (P:=P) (w:=w) (base:=base) Ke.F T X],D2 scCInit[λ QE A outer st H vs Q E hr h=>?_],(p,dx,a,L,rfl,hp,ha,G,q)=h,xEi,Fx[nZ xmH[nZ xmH[ae[x0v[xq8 Z7 Y.X.enum[BO[oV GO O 1]]][xNc[pN 2 scCInit.nd[pN 3 scCInit.nd im]]][xQg[xvC[xbk AZ]][ac[xqd xVW B5 AZ Ζ rfl]
    (rD[xO8 Ke GK QW[zM xGV xGV]])]]]]]] Ei)
 intro d nd;show(SC UW[p≠d][xGC nd] (_,rfl,p,C,dx,[],rfl,(Δ UW hp),T.cl,T.nT,xEt,A1),Aj,xGM)
 intro e ne;show(A3 npe[p≠e][by
  show(EJ,AQ ad ne ne)] nde[d≠e][by
  show(EJ,Zw vJ ad ne ne)] (_,rfl,p,C,dx,_,rfl,(xJ0 npe ad),T.cl,T.nB,pk,A1),Aj,(neH:B7 e)=aG[aj npe.symm][aj nde.symm] ne ne)
 try dsimp only
 show([jo],Sc kp[∀b o,zc->xR2[uo[xZB xZT xRg e d4] qF b]][λ b o ez hn=>uA[aj hn][xIo ez neH][aj hn][xIo ez nd] ez] hp0[kF[uo[xZB xZT xRg e d4] qF p] qF] ad,xNp hd0[TD[uo[xZB xZT xRg e d4] qF d] d4][by
  rw [vJ,aj nde,vJ,ad]] he0[TD[uo[xZB xZT xRg e d4] qF e] d4][xJ0 npe.symm ad][uo[xZB xZT xRg e d4] qF] H0,SC nap[vj a][fD ha A2][VM _ L[VC a[Bo ha nap] G.most] G[λ l xs H1 nl s1 Td hC1=>?_]],De Tc l p[SZ[FZ hp0 nl nl]] Ui Tn[SZ[FZ hd0 nl nl]],SC nle[XB e][SZ[FZ he0 nl nl]][yW l[QK.of Td][xjw[λ i σ H2=>∃v2 v3 k1 k2,σ=[u5,BL,v2,v3]/\kF[H2 p] qF/\TD[H2 d][.dT k1]/\TD[H2 e][.dT k2]/\xDm i k1/\xDn i k2/\Vw=Fh/\gW H2 xA6/\
   ∀b o,zc->jR->xKC b] (none,none,[],[],rfl,IL hp0,IL hd0,IL he0,xb7 L,xcp L,Td,hC1,λ b o ez hn=>IL[kp b o ez hn])[λ i σ H' _ z9=>by show((_,_,_,_,_,_,_,_,_,_,z,_)=z9,rW z)] ?_ ?_]])
 ·rintro i x t σ H2 hx nt ⟨v2,v3,k1,k2,rfl,Q1,hd2,YX,hT,hB,Q0,hC,Ts⟩;show(Sc Su[i<(xA6).length][Bg hC.1[ZZ hx]] hiL[pB i][by
   unfold codes at Su
   rwa [xzH] at Su],ju hLle G.le st[xQS [WU,x]] (t,_,rfl,x3u,rfl,_,_,rfl,_,_,rfl,rfl,?_),Hs ot[hC.2 i x _ hx xBX] hpT[GQ Q1] hdT[GQ hd2] heT[GQ YX],DF hlT x7c hCT[gW _ xA6][hC.keep λ t2 ys ez=>GQ ez] othT[∀b o,zc->xR2[GJ t [WU,x] b]][λ b o ez hn=>GQ[Ts b o ez hn]])
  generalize GJ t [WU,x]=H3 at*;cases eo:(xA6)[(i)] with
  |none=>
   show xU eo ot ex[SE x] ot;subst ex;show(SC h0[∀s,AD L s->¬qV][λ s hs h1=>by
    have:=xkm G hs h1;show Zw xBX eo this this][SU AI],(_,_,k1,k2,rfl,hpT,hdT,heT,xbW hT h0,xb2 hB h0,hlT,hCT,othT))
  |some c=>
   rw [eo] at ot;show(Yi=xhp G[by rw [xBX,eo]],xFT ex hu[hC.keep (H':=H3) (λ t2 ys ez=>by exact(st _ _ ez))|>.2 i x _ hx (by rw [IW Su,eo])]);subst ex;show(Ec[SU Zy] kK (_,rfl,_,rfl,p,C,dx,_,_,rfl,hpT,T.cl,T.nT,xo8 _ _,_,rfl,d,_,rfl,DPut.t (b:=u) (k:=kk ax ZP) hdT hu[sk[show _≤300 by show(xOa hT,DE [_,_,_][gK HM][Aw[EL 300]] Re xGt hiL hLle this)]],bf),YK,De nud u d[aJ hu hdT A2] hu4[jB[upd H3 d[.dT[putK k1[kk ax ZP] WU]] u] [vN ax,vN ZP]][Δ nud hu],ω (_,rfl,p,dx,_,rfl,(Δ UW hpT),xRw Z8 Z8,?_) (_,rfl,u,_,_,_,rfl,rfl,QV.of hu4,tZ,_,rfl,u,_,_,_,rfl,rfl,QV.of hu4,xp,?_),(hc12:ua ZP)=xvH G Yi.1,ω (p,d,e,dx,ax,ZP,k2,rfl,(Δ UW hpT),(Δ nde.symm heT),(by show(xOa hB,DE [_,_,_][DT 12 Β[ZY 12 Re]][ZY 12[DT 12 xGt[Zv 12]]] Re[.n 5000][IV 12 hiL][IV 12 hLle] this)),hc12,λ H5 k2' he5 hl5 hv5 oth5=>?_) (_,_,_,k2',rfl,xWH _[Δ UW hpT] npe,xWH _ ad nde,he5,?_,?_,xWH _[Δ Ui hlT] nle,?_,λ b o ez hn=>?_))
   ·have:=xdk hT Yi.1[AV Yi];rw [<-EU Yi] at this;show xMu
   ·show(xds hB Yi.1 hc12 hl5[UF a b],Bg[EU Yi][hv5 a b])
   ·show(ω[hCT.keep[Μ t2 ys ez]][xWH _ ?_[aJ ez heT A2]],Δ[aJ ez hdT A2] ez)
   ·show(χ h3[othT b o ez hn][xWH _ ?_[ai ez neH]],CZ ez nd h3)
 ·rintro σ H2 ⟨v2,v3,k1,k2,rfl,Q1,hd2,YX,hT,hB,Q0,hC,Ts⟩;show VT[xU9 L.length][by show([hC.1],Fq codes xzH)]
  rw [e1] at hT hB;exact q d e H2 nd neH[TU Q1 (k1,hd2,hT) (k2,YX,hB)] Ts
def Id (h:uF H)(h':QR B H r g R t):p≠r/\d≠r/\e≠r/\p≠g/\d≠g/\e≠g:=by
 show(((dx,h1),(k1,h2,_),(k2,h3,_))=h,((dy,r1),r2,_,_)=h',rN (aJ h1 r1 ?_,aJ h2 r1 A2,aJ h3 r1 A2,aJ h1 r2 A2,aJ h2 r2 A2,aJ h3 r2 A2) z);injection z with _ _ z
 unfold fC fR at z;show(xAE z z,xAE z z,xd7 z)
def xy4.but (h:uF H)(h':QR B H r g R t)(s:∀c o,Ψ->ZN->Cf):uF H':=by
 show((n1,n2,n3,_)=Id h h',h.keep λ c o ez hc=>s c o ez[by rcases hc with rfl|rfl|rfl<;>assumption])
structure Rds (K:Frag)(mg:Ι)(B:Qq):Prop where
 X:Df
 whole:xZF
 size:ydo xx8 Jaj
 ones:Ν "ones" xxb Jaj
 bits:Ν "bits_at" io Jak
 take:jV B "take" "BitReader.take" xxV xAx
 left:aL B "left" "BitReader.left" xxU
 place:aL B "place" "BitReader.place" xsS
 R:CRd K mg B
inductive xls (C B:Qq) (vs:Sy) (H:Hp) (Q:VK) (QL:XK):Prop
 |mk (p d e r g:Qq) (L R:LE) (t q s:Nat) (h0:vs=[FR,eF]) (h1:uF H) (h2:gn) (h3:QR B H r g R t) (h4:bh L xXx q s) (h5:vg[QR B H' r g R[t+s]][(∀c o,Ψ->ZN->Cf)->xFv q]):xls C B vs H Q QL
inductive xk7 (C:Qq) (B:Qq) (H:Hp) (p:Qq) (d:Qq) (e:Qq) (r:Qq) (g:Qq) (L:LE) (R:LE) (t:Nat) (m:Nat) (σ:St) (H2:Hp):Prop
 |mk (s:Nat) (h0:m=(C8-t)-s) (h1:XE[t+s]) (h2:(∀j<s,xYM[x25 j])) (h3:σ=[u5,xJf,Α t,Α xBz,Α s]) (h4:QR B H2 r g R[t+s]) (h5:uF H2) (h6:∀c o,Ψ->ZN->ZL):xk7 C B H p d e r g L R t m σ H2
def ok_thing (F:Bq "thing" "CodeReader.thing" xvR)(T:CRc K mg C)(D:xJH B):xB7 yaO[xls C B]:=by
 show((X,(_,_,W),(_,_,S),(_,_,O),(_,_,Bi),(_,_,Ta),(_,_,Le),(_,_,Pl),TB)=D,XF GT[xpv (P:=P) (w:=w) (base:=base) Ta.F S W Bi O Le TB X] GL[xqF (P:=P) (w:=w) (base:=base) Le.F TB X] GP[xm8 (P:=P) (w:=w) (base:=base) Pl.F TB],D2 xy9[λ QE A outer st H vs Q E hr h=>?_],(p,d,e,r,g,L,R,t,q',s',rfl,hC,G,hR,hD,k)=h,Xo QW F9[ID 2 xy9.nd[zX τ TB.cl Pl GP] 3 xy9.nd ag[Gn 4 xy9.nd ag[zd[xvC[xc1 xVW[cx[jA 3 4]] B5]][ac[xzQ[CE[zX τ TB.cl Le GL]] xrE]
   (DS 3 xy9.nd[ao xok[zP xwS AZ][xS7 TB.cl Ta GT hr wI]][eI 4 xy9.nd x5J])]][yj[xzQ[xvC[xiw xVW[cx[jA 3 4]] B5]] xrE][xaM xVW B5[cx[jA 3 4]] xvU]]]],Iu ht hR.le WB[BD xXx[C8-t]][by rw [Je,xxM]] Ei,sL dx X' hR.ob (_,rfl,r,dx,_,rfl,X',jk,r,g,R,t,rfl,hR,A1),x8w,VB bL,tW[Cm[xk7 C B H p d e r g L R t] (_,0,rfl,Ay [_,_] Re Bp xHE Bp ht,rV j hj hj[BM x5z],rfl,hR,hC,λ c o z _=>z)])
 rintro m σ H2 ⟨s,rfl,hs,hbg,rfl,SK,Y0,Ts⟩;show((W7:BD xCx s)=xIE Jc WB,(k2,Uk,RT)=Y0.bg,sL dy Q1 Y0.ob[y3 _ ye[UF u nu]],υ su[Zj [ve,Iq] nu] hu[jB[GJ u [ve,Iq] u][xWU[kk xBz s]]] ad,Tl RS[SK.same su] hC3[Y0.same su],(oth3:∀c o,Ψ->Uz ZN[GJ u [ve,Iq] c])=λ c o z hn=>xJR[Ts c o z hn],Tl hk3[xJR Uk] RE[xJR Q1],Cz[GJ u [ve,Iq]] H3 (_,rfl,p,C,dy,_,_,rfl,RE,T.cl,T.nB,xi2 _ _,e,_,rfl,U6.t hk3 hu,_,rfl,?_),Dd hw[xbG RT xCx] W7 hw);by_cases c1:xYM xCx
 ·show([hw.mpr c1],ω Zy xRT);dsimp only;show(SC hbg'[∀j<s+1,xYM[x25 j]][λ j hj=>by
   show yB j s
   ·exact hbg j z
   ·show Fl[j=s][BW[xX SB Β Re hj][d6 Re Re z]] c1] kK,sL Uy hr3' RS.ob (_,rfl,r,Uy,_,rfl,hr3',jk,r,g,R,t+s,rfl,RS,rfl,_,rfl,iM))
  ·show(Sc h0[C8-(t+s)=0] yd0 hn[Due L xXx .none][λ j hj=>hbg' j[Ε WB hj[Bx [_,_,_,_,_,_][Vv[Ρ[wm gq]]][xDs[Gh[.a[Vv DG] Hq]]] SB Β[IR h0] hj[IP W1[DI [_,_] Re Bp Re Bp ht]]]]],xVd ycs)
  ·show(SC h0[t+s<C8][by
    show yB[t+s] C8
    ·show xIJ
    ·show E9[xLB[show C8-(t+s)=0 by show BW[Dg [_,_,_,_][xo[Ρ WO]][.a WO EG] Hc z[DI [_,_,_] EH Bp EH Bp hs]] zW]] h1] bf,YK,(b,Rl,Tf)=xcu h0,xEh kK,Sc hs12[ua s][by
    obtain⟨q1,s1,z1,z2,_⟩:=c1;have:=xvH G z1;show DE [_,_,_][Ρ x5s][Ξ[xCz 12]] Re hJ[IR W7.symm] z2 this] es[xBz<2^s][by have:=BP.xxL xCx;rwa [W7] at this],(es2:2^s≤2^12)=xB3 hs12,Ec[VM _ _ rfl (kX[xI [] Hc AM],kX[xI [] AM SW],by lia) ?_] (_,rfl,r,Uy,_,rfl,hr3',jk,r,g,R,t+s,1,rfl,RS,BM[xI [] AM xV7],h0,Μ H4 Si oth4)[ya _ rfl bf],YK,Sc hb3[b.toNat<2^1][by cases b<;>decide] e1[Builtin.bitOr[ST xBz*2^x2U][ST[K27.bt R[t+s] 1]]=ST[yfV[s+1]]][by
    show lP[Builtin.bitOr _[ST[xAP/2^(C8-(t+s+1))%2^1]]=_] Tf;have:=xve xBz b.toNat 1 hb3;show([Rl,BP.num_snoc],xIE[CA[Il][ST 1]] this)])
   try dsimp only
   show(xEe xC8,Wv[A6 s+1=qU s][S2 cb cb])
   try dsimp only
   show LT e2 (_,Ll[Nat.lt_sub_of_add_lt[Mm t s▸h0]][Lu s],s+1,rfl,h0,hbg',rfl,Si,hC3.but RS oth4,λ c o z hn=>oth4 c o[oth3 c o z hn] hn)
 ·show(Γ[Bool.eq_false_iff.mpr[SZ[c1[hw.mp z]]]] x7G,Aj,(k1,hk1,Yj)=hC3.th,DW Uy hr3' RS.ob tw1 tw2[xcf Yj xCx]);rw [W7] at tw1 tw2;show(Ec Zk kK[y3 _ ye[UF v nv]],υ sv[Zj [ve,Iq] nv] hv[jB[Hf H3 v [ve,Iq] v][xWU[kk xBz s]]] ad,Tl Si[RS.same sv] hC4[hC3.same sv],(oth4:∀c o,Ψ->Uz ZN[Hf H3 v [ve,Iq] c])=λ c o z hn=>sv _ _[oth3 c o z hn],XF hk4[sv _ _ hk1] YU[sv _ _ RE] W8[sv _ _ hr3'],Cz[Hf H3 v [ve,Iq]] H4 (_,rfl,p,C,dy,_,_,rfl,YU,T.cl,T.nT,xo8 _ _,d,_,rfl,U6.t hk4 hv,_,rfl,?_));by_cases c2:∃q,Q3 xCx q
  ·show((q,hq)=c2,Γ[tw1 q hq][bp bf],YK,(hn:bh L xXx q s)=(LT WB[uW [_,_,_,_][.a HM Hq][wm Φ] hs W1],hq,hbg));injection ycs with e1 e2
   rw [e1,e2] at k;show((_,rfl,p,C,dy,_,_,rfl,YU,T.cl,T.nT,xo8 _ _,_,rfl,_,rfl,ye,UF x nx),χ sx[Zj [ve,Iq] nx][yW d ?_[Ey[Si.same sx] λ c o z hn=>sx _ _[oth4 c o z hn]]],gN[U6.t[sx _ _ hk4][show jB[Hf H4 x [ve,Iq] x][xWU[kk xBz s]] from ad]][tw1 q hq])
  ·show((c3:∀q,¬Q3 xCx q)=λ q hq=>c2[xPO hq],Γ[tw2 c3] Zy,DC hn[Due L xXx .bad] (s,LT WB[uW [_,_,_,_][.a HM Hq][wm Φ] hs W1],hbg,c1,c3)[nomatch ycs])
universe K27.C
namespace K27.M
open BP C9 C10 W17
def Cl (u)(h:t+s≤u.length):num[(x2z).take s]=xOv/2^(xMA[t+s])%2^s:=by
 show eK[xyo[u.take t] x2z];rw [JJ,Je] at h1;show(Dd h2[xxL x2z] Je h2,(h3:num x2z=xOv%2^(xMA t))=by rw [h1,KI,Qe,Lq h2],[xj1 _[xEd[uW [_,_,_,_][yt HM] xV1 h W1]],h3,Je,Nat.sub_sub,show xMA t=(xMA[t+s])+s by show El[Dg [_,_,_,_,_][Gh Hk][oI xV5] Φ W1[DI [_,_,_] Ω Uf SL Uf h]] [_,_,_,_,_][Gh xV5][oI Hk] Φ W1[DI [_,_,_] Ω Uf Ω Uf h],LW,Px])
def xx5 (h:n<2^s)(r):num[xIi[xB2 s] r s]=n:=by
 rw [MT[QS n s],xxf,Lq h]
def dg (n s)(r):xBT[xB2 s] r s=r:=NQ[QS n s]
inductive xwi:LE->DQ[Au->xRP Au]
 |done {L:LE} {ah:Nat} {b:Au}:nJ 272->xwi L ah b L b
 |one {L L':LE} {ah:Nat} {b b':Au}:xGp 272->zS b.length->fX≠7->x7C[L++[fX]] fX 3 L' b'->xwi L ah b L' b'
 |rep {L L':LE} {ah:Nat} {b b':Au}:xGp 272->9≤b.length->fX=7->x7C[L++x1Z[iZ 3 6] 3 ah] ah 9 L' b'->xwi L ah b L' b'
universe K27.M
namespace K27.Ck
open PySem L2 QQ W17 W16 BP K27.M
seal PE PA PS PSs PT PW PG PI
abbrev xy1 (r:Qq)(H H':Hp):Prop:=∀c o,Ψ->ZN->Cf
def xwp (C:Qq)(H:Hp)(r d:Qq)(b:Au):Prop:=∃R t,rJ H t/\b=xCT
theorem xwp.keep (h:Us)(k:∀c o,Ψ->(c=r\/c=d)->Cf):xMF H':=C5 R t h e h (R,t,h.keep k,e)
def xwp.same (h:Us)(k:Χ):xMF H':=h.keep λ c o e _=>k c o e
def xwp.ob (h:Us):∃dx t,xh r C va:=by
 show((R,t,((dx,h),_),_)=h,Dj dx t h)
def xwp.ls (h:Us):∃o,lj d:=by
 show((R,t,(_,h,_),_)=h,AU _ h)
theorem xwp.upd (h:Us)(h1:XB r)(h2:Tn):xMF[zB l o]:=h.keep λ c o e hc=>Δ[by show(oH hc,xAd h1.symm h2.symm)] e
inductive xlp (C:Qq) (vs:Sy) (H:Hp) (Q:VK) (QL:XK):Prop
 |mk (r d:Qq) (b:Au) (s:Nat) (h0:vs=[eF,Iq]) (h1:Us) (h2:s≤24) (h3:s≤b.length) (h4:vg[xPa xAD][Wq->xFv[num[b.take s]]]):xlp C vs H Q QL
def xot (hb:wR)(h:XE[t+s]):xBK s=num[xzO xTW t s]:=by
 show(Dd hv[xy0 hb] xyX hv,[Cl _[LT K27.C.xxM h],K27.C.xxM]);unfold K27.C.bt;show Ai xxf[Lq hv]
def _root_.K27.Ck.Rdr.tkB (Z:xJW):IG[Me K C "take" "BitReader.take" xxV xAx f fd/\∀P w base,vn xAx[xlp C]]:=by
 show((f,fd,Tk,G)=Z.tk,xBL f fd Tk[λ P w base=>(G P w base).imp λ vs H Q E h=>?_],(r,d,b,s,rfl,(R,t,hR,rfl),hs,hl',k)=h,UN hl[BD xCT[C8-t]][by rw [Je,K27.C.xxM]] hl hl',Iu ht hR.le h[XE[t+s]][Bj [_,_,_,_][Ξ iV][BE EG] WF EG hl'[DI [_,_] Re Bp Re Bp ht]] (r,d,R,t,s,rfl,hR,hs,h,Μ H' Yk kp),LT[xot hR.by' h][k H' (R,t+s,Yk,by rw [KS]) kp])
def xy1.tr (a:Wq)(b:xy1 r H' H''):xA0 H'':=λ c o e n=>b c o[a c o e n] n
def xy1.s (a:Wq)(b:K' H' H''):xA0 H'':=λ c o e n=>b c o[a c o e n]
def xy1.of (a:Χ):Wq:=λ c o e _=>a c o e
def xy1.up (a:Wq)(n:Bv):xA0[upd H' l o]:=λ c o e z=>Eh n[a c o e z]
inductive xjU (C:Qq) (vs:Sy) (H:Hp) (Q:VK) (QL:XK):Prop
 |mk (r d:Qq) (b:Au) (L:LE) (b':Au) (h0:vs=yC r) (h1:Us) (h2:xDO b L b') (h3:tE[B0=xO->xPa b'->Wq->B8]):xjU C vs H Q QL
def xzn:XL ["reader","lengths","ahead","told"] rj xvF:=Tm
inductive xkT (C:Qq) (H:Hp) (r:Qq) (d:Qq) (L':LE) (b':Au) (l:Qq) (m:Nat) (σ:St) (H2:Hp):Prop
 |mk (ah:Nat) (L:LE) (v3:EY) (b:Au) (h0:m=272-L.length) (h1:lU 400) (h2:xwi L ah b L' b') (h3:σ=[xJf,qB,xYb,v3]) (h4:Vw=xO) (h5:xMF H2) (h6:xA0 H2):xkT C H r d L' b' l m σ H2
def xh3 (F:Ο "lengths_in_items" xvF rj)(Z:xJW):xB7 rj[xjU C]:=by
 show(xVC,xTi Tk Z.tkB,Tl GT[xW6 P w] T Z.T,DW tm hm X.many ta hag X.again,Zq tl hle X.leastA xzn[λ QE A outer st H vs Q E hr h=>?_] _,(r,d,b,L',b',rfl,hR,hI,kQ)=h,XX[Gy[DS 1 xzn.nd rE[DP 2 xzn.nd ag[zd[ZS[lX τ] xVw][DS 3 xzn.nd[xO8 Tk GT hr wI][vm[qo AZ[FK 7 hag ta]][rD[xZp τ[BO[xOu AP[Gi[xO8 Tk GT hr wI] xPm]]]]][DS 2 xzn.nd AZ[rD[x1p τ AP]]]]]] τ]]] dx0 t0 X' hR.ob,(_,hd0)=hR.ls,(no:∀t,Θ x6t)=λ t=>jk,xEh Ei,ZU Z9 xRi,Aj,De S9 l r xWm Ui Tn xVk,B9 s0 xWT bL,tW[Cm[xkT C H r d L' b' l] (_,0,[],none,b,rfl,Z9,hI,rfl,ad,hR.same s0,.of s0)])
 rintro m σ H2 ⟨ah,L,v3,b,rfl,hL4,hI,rfl,TC,SK,kp⟩;refine(_,rfl,l,_,rfl,xYd,_,_,rfl,rfl,_,rfl,xg hc hc)
 rotate_left
 ·show SC SD[nJ 272][by
   show iq L.length 272 q q
   ·show jF[xDb[HH SB xV SB xV q]] hc
   ·show HL] xM7;cases hI with
  |done _=>exact kQ l H2 nl TC SK kp
  |one|rep=>lia
 show(Aj,(QF:xGp 272)=x3 xXT IS[HH SB xV SB xV xwJ])
 clear hc;show(ybo xRT,(Y3,t2,Uj)=SK.ob,Ec Zk kK (_,rfl,r,Y3,_,rfl,Uj,qI,r,d,b,3,rfl,SK,Z9,by cases hI<;>lia,λ H3 RS Q4=>bf),YK,ju Yd xON Q4 x2R[tT[xg h7 h7]])
 ·show(SC h7[fX=7][yeP h7][ZC x8l TY[UF l4 n4]],fw s4 [xNU] n4 Yo[kS H3 l4 [xNU] l4=Az [xNU]],XF Si[RS.same s4] h4l[X4 Yd] TH[Q4.s s4],az H3 l4 [xNU] H4,ak dx4 t4 W8 Si.ob n4r[l4≠r][aJ Yo W8 A2]);obtain⟨h6,hI2⟩:6≤b.length-3/\x7C[L++x1Z[iZ 3 6] 3 ah] ah 9 L' b':=by
   cases hI with
   |rep _ h _ q=>show AU[Bj [_,_][EL 9] x5E xN0 Re h W1] q
   |done=>lia
   |one _ _ q=>show E9 h7 q
  show((_,rfl,r,dx4,_,rfl,W8,qI,r,d,_,6,rfl,Si,Z9,xEd h6,Μ H5 hR5 VR),xU KS hR5 hb6[iZ 3 6<64][by
   have:=xxL[(b.drop 3).take 6]
   rwa [Jc,Je,J9 h6] at this],Cz[iZ 3 6] z6 (_,_,rfl,rfl,l4,_,_,rfl,rfl,oh Yo n4r,by lia,by lia,bV[by show tX[1*_];lia],UF l6 n6),VT[UH[A6 z6] 3=z6+3] rfl)
  try dsimp only
  show(xQh K27.C.xmf,χ s6[Dn[x1Z z6 3 xNU] n6] (l,l6,_,_,rfl,rfl,kj[oh h4l S9],ad,bV[by show(mY JQ,Bj [_,_] Dw[CN x3X 64][Ρ Fz] Bc hL4 hb6)],_,?_,ah,_,_,_,rfl,?_,hI2,rfl,by rw [ad,Ji,List.map_replicate],(hR5.same s6).upd S9 Ui,((TH.tr VR).s s6).up nl))
  ·show XV IQ JQ[xOx[Lc di]]
  ·show(iB JQ,Bj [_,_] xBw[CN xV 64][Ρ Fz] x3X QF hb6)
 ·show(De h7 fX 7[SZ[h7[xLB z]]] hI2[x7C[L++[fX]] fX 3 L' b'][by
   cases hI with
   |one _ _ _ q=>show HL
   |done=>lia
   |rep _ _ q=>show E9 q h7],Cz fX y (_,rfl,_,rfl,x8l,_,rfl,l,_,_,rfl,rfl,Yd,bW[uO[qG x3X Bc hL4]],_,?_,y,_,_,_,rfl,?_,hI2,rfl,xCS,RS.upd S9 Ui,Q4.up nl))
  ·show GV[xOx QI]
  ·show(EF IQ[_+1≤_],Ay DU SB[.n 272] SB x3X QF)
structure Tbs (K:Frag)(mg:Ι)(C G:Qq):Prop where
 Z:xJW
 Y:xJH
 items:Ν "lengths_in_items" xvF rj
 table:Ν "take_table" xrY rj
 place:XA "place" "BitReader.place" xsS
 M:ybE mg G
 mG:mg "CodeReader"=π G
 init:IG[yhr K27.sCInit/\lL yaA/\xVM G]
 thing:jV G "thing" "CodeReader.thing" xvR yaO
 codesin:Ν "codes_in" xr3 rj
 thingin:Ν "thing_in" xqT xVc
def xhj {A B:LE}(h:xST=sO):A=B:=by
 show wL[List.map λ v=>match v with|V.int i=>i.toNat|_=>0] h;simpa [K1,Function.comp_def] using this
def xsw:XL ["reader","begin","lengths"] rj xrY:=Tm
inductive spTabG (C:Qq) (vs:Sy) (H:Hp) (Q:VK) (QL:XK):Prop
 |mk (r d:Qq) (b:Au) (L:LE) (b':Au) (h0:vs=yC r) (h1:Us) (h2:xDO b L b') (h3:Gq) (h4:tE[B0=xO->xPa b'->Wq->B8]):spTabG C vs H Q QL
def xb6 (F:Ο "take_table" xrY rj)(D:xZi C G):xYj rj[spTabG C]:=by
 show(C6 It D.items Pl D.place,XF X D.Z.Y.X T D.Z.T GP[xm8 (P:=P) (w:=w) (base:=base) Pl.F T],Zq tm hm X.many xsw[λ QE A outer st H vs Q E hr h=>?_] _,(r,d,b,L,b',rfl,hR,hI,hL,k)=h,Xo QW F9[Gn 1 xsw.nd[zX Η T.cl Pl GP][xvw[eI 2 xsw.nd[oV[xh3 It D.Z] It 0]]][yj[xzQ[qO[lX Ζ] xVw] xrE] Ζ]],SP R t hRa xXY,mj dx hp hRa.ob no[∀{m:Str} t,¬xNx m->¬m="held"->o4 va m][λ t h1 h2=>x2J h1 h2],Ec (_,rfl,r,dx,_,rfl,hp,qI Z8 Z8,r,d,R,_,rfl,hRa,?_) (_,rfl,r,d,_,_,_,rfl,hR,hI,λ l H2 nl TC SK kp=>?_) (_,rfl,l,_,rfl,xYd,_,_,rfl,rfl,_,rfl,xMP h[BV[xYK nl TC SK kp]]),xGL,Ua hL this,E9 this[by decide])
inductive xkH (C G:Qq) (vs:Sy) (H:Hp) (Q:VK) (QL:XK):Prop
 |mk (r:Qq) (d:Qq) (b:Au) (L:LE) (b':Au) (h0:vs=yC r) (h1:Us) (h2:xDO b L b') (h3:Gq) (h4:xAF) (h5:∀p dp ep H',Vu->B7 dp->B7 ep->xPa b'->xUj H' p dp ep L->Wq->xYg):xkH C G vs H Q QL
def xn5 (k:Wq)(n:Θ[H' a])(hr:∃o,xED r):xQG:=by
 cases e:Υ with
 |none=>rfl
 |some o=>
  by_cases z:a=r
  ·show(x3f h hr,FZ h n n)
  ·show AQ[bD e z] n n
def xgB (F:Ο "codes_in" xr3 rj)(D:xZi C G):Cc 36 rj[xkH C G]:=by
 show((_,_,Ta)=D.table,fh D.init,GT=xb6 (P:=P) (w:=w) (base:=base) Ta D,D1 xgT[λ QE A outer st H vs Q E hr h=>?_],(r,d,b,L,b',rfl,hR,hI,hl,hG,k)=h,xDe Yt 33,jJ[xvw[Gz[xxg MI[K27.C.ok_cinit FI D.M] hr Z7 D.mG bI .nil bA[BO[Ih GT Yt Ta 0]]]]] (_,rfl,r,d,b,L,b',rfl,hR,hI,hl,λ l H1 nl h1l hR1 kp x dx nx ndx _=>?_),s1=FN G nx ndx,Dq TF t1 QW hR1.ob[Q6 x dx l L ad[IL h1l] hG[λ dp ep H2 ndp nep hC YR=>Ej]],Sc kk[xA0 H2][λ c o e' n=>xJT[IL[Bo e' n]][ai[Bo e' n] nx]] nn[∀{a},UQ a->xQG][λ n=>xn5 kp n[EX QW]],k x dp ep H2[nn nx][nn[xFA ndp]][nn[xFA nep]][(hR1.same s1).keep λ c o e hc=>xJT e[by
  show(EJ,II hc)
  ·show FZ QW nx nx
  ·show((_,hd1)=hR1.ls,FZ hd1 nx nx)]] hC kk)
inductive xkj (C G:Qq) (vs:Sy) (H:Hp) (Q:VK) (QL:XK):Prop
 |mk (p dp ep r d:Qq) (b:Au) (L:LE) (q s:Nat) (h0:vs=[eF,FR]) (h1:xUj H p dp ep L) (h2:xAF) (h3:Us) (h4:C10.Due L b[.thing q s]) (h5:vg[xPa xAD][Wq->xFv q]):xkj C G vs H Q QL
def xhh (F:Ο "thing_in" xqT xVc)(D:xZi C G):xYj xVc[xkj C G]:=by
 show((_,_,Th)=D.thing,Tl Z D.Z GT[K27.C.ok_thing (P:=P) (w:=w) (base:=base) Th.F D.M.R (Z.Y.X,Z.Y.whole,Z.size,Z.ones,Z.bits,Z.take,Z.left,D.place,Z.T)],D1 xhK[λ QE A outer st H vs Q E hr h=>?_],(p,dp,ep,r,d,b,L,q,s,rfl,hC,hG,(R,t,hR,rfl),hD,k)=h,sL dx hp hC.ob[Gy[ae[xvw[Gz[xS7 D.M.R.cl Th GT hr gP]]]]],(_,rfl,p,dx,_,rfl,hp,K27.C.fC_no _ _ Z8 Z8,_,rfl,p,dp,ep,r,d,L,R,t,_,_,rfl,hC,hG,hR,hD,λ H' Yk kp=>k H' (R,t+s,Yk,by rw [KS]) kp))
universe K27.Ck
namespace K27.M
open BP C9 C10 W17
inductive ShG (L:LE) (e:Nat):LE->Au->xRP Au
 |done {S:LE} {b:Au}:xA8 e->xRH S b S b
 |sg {S T:LE} {q s:Nat} {b b':Au}:tR->bh L b q s->By q->xRH[S++[q]] xAD T b'->xRH S b T b'
 |cp {S T:LE} {q s:Nat} {b b':Au}:tR->bh L b q s->256≤q->xBd 8 xAD->AL[iZ s 8]->z8[iZ s 8]->Zr[q-256+3]≤e->xRH[ykE[iZ s 8][q-256+3]][(xAD).drop 8] T b'->xRH S b T b'
universe K27.M
namespace K27.Ck
open PySem L2 QQ W17 W16 BP K27.M
seal PE PA PS PSs PT PW PG PI
def _root_.K27.C.xy4.but2 (h:xUj H p d e L)(h':xwp C H r g b)(s:Wq):xUj H' p d e L:=by
 show((R,t,h',_)=h',h.but h' s)
universe K27.Ck
namespace L2
open PySem
def xfZ (hK:X.K=K)(he:AN e ta)(hb:xS9 e f xPD=xPD):AN[xTY e pos][xjJ K ta f]:=DN hK[xzc he hb]
def xda (hK:X.K=K)(ha:oo)(hb:Um)(hs:wE b):AN[xE8 a b][xRC ta tb]:=DN hK[xxy xto ha hb hs]
universe L2
namespace K27.Ck
open PySem L2 QQ W17 W16 BP K27.M
seal PE PA PS PSs PT PW PG PI
abbrev xq9:QC:=top 106
abbrev xrZ:QC:=top 107
inductive TxG (R W:LE):dD[LE->gh]
 |raw:xRX 0 R.length R C8
 |run {v t:Nat} {T:LE}:xB5 v 0 [] t T->xRX 1 v T t
 |cpy {v t:Nat} {S:LE}:CpR R x8e 0 W t S->xRX 2 v xTe t
 |shr {v t:Nat} {L S:LE} {b1:Au}:xDO xTW L b1->Gq->xAF->ShG L x8e W b1 S xCT->xJE->xRX 3 v xTe t
structure Rals (K:Frag)(mg:Ι)(C G C0 C1 C2 C3:Qq):Prop where
 D:xZi C G
 r0:jV C0 "read" "RawWay.read" xqt Jad
 r1:jV C1 "read" "RunWay.read" xqn Jad
 r2:jV C2 "read" "CopyWay.read" xrB Jad
 r3:jV C3 "read" "ShareWay.read" xqL Jad
def xsk:XL ["body","head","window","reader","text"] x4g xq9:=Tm
def xmI (g:x4p)(h:xxH[ze 0] Gj R):∃e,e<8/\C8=Gj+e/\xTW=xAN++xIN/\xHU%2^e=0:=by
 show Iu hl h.len hle[XE Gj][ED [_,_,_][xo[xFS 7]][ou x5G] Bp[wk Rd] zV][TX[C8-Gj][DE [_,_,_,_][ou[xo Hk]][xo[.a[ud 7] Bp]] SB Dv[wk yq] DB[DI [_,_] SL HE SL HE hle]][Em HE DG HE Φ W1[EZ DG HE Φ HE[DI [_,_] SL HE SL HE hle]]] ?_]
 ·show A3 hn[xHU=num[xAN++x1S[C8-Gj]]][by
   rw [xyo,QS,xxf,xio g,h.num,Nat.zero_mod,Mv]] hlen[DV xAN[x1S[C8-Gj]]=C8][by
   show(mE xzC QS,Em Ω EG WF EG[DI [_,_] Re Bp Re Bp hle][EZ EG Ω EG WF W1])][C10.xmc[by rw [K27.C.xxM,hlen]] ?_];unfold K27.C.bt;show(Dd QF[xxL[xAN++x1S[C8-Gj]]] hlen QF,XV xxf hn[Lq QF])
 ·rw [h.num,P6]
def xe3 (hb:wR)(hn:n<2^s)(e:xCT=xB2 s++r)(ht:xJE):XE[t+s]/\xBK s=n/\x0g R[t+s]=r:=by
 have hl:=vC e;rw [Je,K27.C.xxM,IQ,QS] at hl;show SC h1[XE[t+s]][Bj [_,_,_,_,_][.a[Ξ Rn] iV][BE EG] WF EG Rd[DI [_,_] Re Bp Re Bp ht]][Cm h1 ?_]
 ·rw [xot hb h1,e,xx5 hn]
 ·rw [<-KS,e,dg]
theorem xnB (hb:wR):∀{rs} {t} {S},(ZA rs[xOP/\US GZ/\By DO])->xJE->xCT=xBg[pR rs] z->xB5[Zr (x4S).length] t S[t+mv rs][S++x4S]
 | [],t,S,_,_,_=>XV[CA[exp []] []] JM xAG
 |q::rs,t,S,hq,ht,e=>by
  show x4Y h1 h3[hq q Jl];rw [xt8,bC,bC,IU,IU] at e;show(XH a1 a2 a3[vp[show GZ-1<2^6 by show _<64;show yE [_,_] xBs[EL 64] XR h2[UO AM AM h1]] e ht] b1 b2 b3[vp[Eo DO[2^8] h3] a3 a1],Sc ee[exp[q::rs]=x0P DO++x4S] rfl e6[xPU+1=GZ][LT a2[yd[Dp[UO AM AM h1]][d6 SB SB W1]]],jz ih[xnB hb (S:=S++x0P DO) (DX[hq x xM5]) b1 b3] IQ JQ IU ih,[ee,xt8,cW,cW,IQ,JQ],.run[Ay [_,_,_] AM SL SB Iy h1] b1[LT e6[xI [_,_,_] WF Iy]] ?_,[e6,b2,show t+(6+(8+mv rs))=t+14+mv rs by show qL[Ρ[BZ 6[EL 8]]][IM x5o][IM x5o][Ρ[BZ 6[EL 8]]],-J8],xYc)
theorem xuv (B)(b):∀n,xAo B n=K27.cpy B b n
 |0=>rfl
 |n+1=>by rw [K27.Ck.cpy,K27.cpy,xuv B b n]
theorem xrI (hb:wR):∀{Pp} {t} {S},GR S Pp->xJE->xCT=xBg x6Z z->CpR R (xGP S).length t S[t+vW][xGP S]
 | [],t,S,_,_,_=>xAG
 |x::Pp,t,S,g,ht,e=>by
  show((gx,gr)=g,Dd hl gr.len xtb hl,(er:runP S[x::Pp]=xGP[app S x])=rfl);cases x with
  |sg s=>
   rw [dP,CA[pcP V5] [((0,1)),((s,8))],K5,K5,Kd,bC,bC,IU,IU] at e;show(XH a1 a2 a3[vp[show 0<2^1 by decide] e ht] b1 b2 b3[vp[Eo s[2^8] gx] a3 a1],ZR[xrI hb gr b1 b3],[er,dP,aU],.sg[by show xSS _;show(RC[(Pc.sg s).size=1],yc [_,_,_,_][AS x5I] Φ hl x8)] b1 a2 ?_,XV b2[show t+(xNJ+vW)=t+1+8+vW by show LT[CA xNJ 9][yd[Iz[xGm 9] x5N][Iz x5N[xGm 9]]]] ih)
  |cp b y=>
   obtain⟨g1,g2,g3,g4,g5⟩:=gx;rw [dP,CA[pcP wC] [((1,1)),((b,8)),((y-3,4))],K5,K5,K5,Kd,bC,bC,bC,IU,IU,IU] at e;show(XH a1 a2 a3[vp[show 1<2^1 by decide] e ht] b1 b2 b3[vp[show b<2^8 by show By _;show yr 255 SB HN g2] a3 a1],(c1,c2,c3)=vp[show y-3<2^4 by show _<16;show yE [_,_] x5E[EL 18][.n 16] g5[qj g4]] b3 b1,DF ih[xrI hb gr c1 c3] ey[y-3+3=y][BW[xX IH SL IH[qj g4]][d6 IH IH W1]] e9[TP[t+9]=y-3] c2,(hsz:ydK b y=y)=rfl,[er,dP,aU],.cp[DE [_,_,_,_,_][.a x5I[BI Rn]][Ξ gq] SB SL hl g4 xK3][dC[t+1+8+4≤_] c1] a2[by show([e9,ey],Bj [_,_,_,_,_][IM[oI Hk]] Fs WF Uf hl xK3)][LT b2 g1][LT b2 g3] ?_,[b2,e9,ey,xuv,show t+(x7T+vW)=t+1+8+4+vW by show LT[CA x7T 13][yd[Iz x6d x6y][Iz x6y x6d]]],xYc)
theorem xtX:∀{It:xAi} {L:LE} {a:Nat},(Ic It x2l)->L.length+ycK≤272->xwi[L++gG a][W13.nxtS a It] r L' b'->xwi L a[xBg sU r] L' b'
 | [],L,a,_,_,h=>by rwa [CA[x3B []] [],JM] at h
 |x::It,L,a,hk,hl,h=>by
  show(υ hx[hk x Jl] ep[W13.puts[x::It]=x.puts++sU] ya4,[ep,xzB,IU]);cases x with
  |one l=>
   show Sc h6[l≤6] hx h8[l<2^3][by show _<8;show yr 6 SB Dv h6]
   rw [CA[x3B[.one l::It]][l::gG l]] at h hl;rw [Jn] at hl;show(Γ[xMO[W13.Itm.puts[.one l]][dig l 3][xLH W13.Itm.puts]][.one[Ay [_,_] Dw xV SB xV hl][by show(iB QS,S1 DH yv)][pI[xx5 h8]] ?_],rK[xx5 h8] dg[xtX[IB[hk y Qt]][by show(EF IQ[_+1+_≤_],Ay [_,_] Dw xV gc xV hl)] ?_],LT IU h)
  |rep n=>
   obtain⟨h3,h66⟩:YJ 3/\n≤66:=hx;rw [CA[x3B[.rep n::It]][xv1 a++gG a]] at h hl;rw [IQ,JQ] at hl;show(xJo[xMO[W13.Itm.puts[.rep n]][dig 7 3++dig[n-3] 6][xLH W13.Itm.puts]],A3 e1[num[xIi[dig 7 3][dig[n-3] 6++(xBg sU r)] 3]=7][xx5[by decide] _] e2[num[xzO[dig 7 3++(dig[n-3] 6++(xBg sU r))] 3 6]=n-3][by rw [dg,xx5[show n-3<2^6 by show _<64;show yE [_,_] x5E[EL 66] XR h66[qj h3]]]][.rep[yE [_,_,_][fz Iy][EL 272] xV hl h3][by show([IQ,IQ,QS,QS],S1 kO[BI[lg 6]])] e1 ?_],[e2,CA[Zx 9][3+6],-KS,dg,dg,show n-3+3=n by show BW[xX IH SL IH[qj h3]][d6 IH IH W1]],Ea[xtX[IB[hk y Qt]][by show(iB JQ,Ay [_,_,_] Iy xV xF2 xV hl)] ?_] IU h)
def xfT (g:xAF)(hq:rI)(hs:qV)(c):C10.Due L[jc q s s++c][.thing q s]:=by
 show A3 hl[BD[jc q s s] s][QS _ _] hn[num[jc q s s]=xEP q s][C10.wd_num g hq hs][xJ7[by show(iB hl,BM[Iz Re WF])] xCY]
 ·show LT[MT hl] (LT hl hq,LT hl hs,by rw [hl,hn])
 ·show(RZ[KP[LT hl xNo]] elj[BD[(jc q s s).take j] j][xIE Jc hl][TX q s hq[LT elj hj]],[elj,C10.xj1 _[LT hl xNo],hl,hn])
theorem xny:cj Pp S xC7[GR S Pp->ShG L (xGP S).length S[xRn z][xGP S] z]
 | [],S,_,_=>xAG
 |x::Pp,S,k,g=>by
  show((gx,gr)=g,Dd hl gr.len xtb hl,(er:runP S[x::Pp]=xGP[app S x])=rfl,yeF k2[k.at Jl gx],ZR[xny (z:=z) ((k.good,k.len,k.six,IB[k.has y Qt]):xC7) gr],[er,xqA,xzB,IU]);cases x with
  |sg s=>
   show(Γ[xMO[xBR V5][jc s dX dX][xLH cP]][.sg[by show(RC[(Pc.sg s).size=1],yc [_,_,_,_][AS x5I] Φ hl x8)] xZm gx ?_],XV[CA[th V5] s] dg ih)
  |cp b y=>
   show((g1,g2,g3,g4,g5)=gx,xJo[xMO[xBR wC][jc Dc lT lT++dig b 8][xLH cP]],Sc hsz[ydK b y=y] rfl e1[num[xzO[jc Dc lT lT++(dig b 8++(xRn z))] lT 8]=b][by rw [dg,xx5[show b<2^8 by show By _;show yr 255 SB HN g2]]],SC e2[Dc-256+3=y][BW[xX x34 x32 IH[DI DU DH Re HN xMt g4]][Dh x32 x34 SL IH W1]][.cp (q:=Dc) (s:=lT) (DE [_,_,_,_,_][.a x5I[BI Rn]][Ξ gq] SB SL hl g4 xK3) xZm[Ay DU DH Re HN xMt g4][by show(AR dg QS,S1 Dv xNZ)][aC g1][aC g3][LT e2[CM [_,_,_,_,_][IM[oI Hk]] Fs WF Uf hl xK3]] ?_],[e1,e2,xuv,dg,dg],xYc)
theorem xmO:∀T N,uL[x6G s ((s,8))]=N*256^T.length+val T
 | [],N=>by show(XC[N=_] xpd Oo Nat.pow_zero,T5 Re[Y9[xBb 1]][Fv[Y9[xBb 1]] Re])
 |s::T,N=>by
  show XC[dU[x6G s ((s,8))][N*2^8+s]=_][xmO T] xyl Jn;show(N*256+s)*256^T.length+val T=_;rw [LV,KL,KI 256,J8,<-KQ]
def xpY (h:CV)(t:oi)(r:xxH[ze 0] Gj R):xRX u T.length T Gj/\C8-Gj<8/\xHU%2^(C8-Gj)=0:=by
 show((gd,_)=h.good t,xZR he hl hbt hv[xmI gd r],SC ee[C8-Gj=e][El[uW [_,_,_,_][wm EH][.a DG Hq] yq[DI [_,_,_] Ω EG SL EG Rd]] [_,_,_,_][.a DG Hq][wm EH] SL Rd W1] (?_,LT ee he,LT ee hv),(h0:XE 0)=B1,xKx u)
 ·show(Hu[ps=ko] h,DF ht[xwT T] hlen[xGk R.length][by have:=r.len;show BW[zQ 8 [_,_,_,_][Fg[jt Cv]][oy[xIf Bp]] SL he[aM yq ht]][Zc 8 [_,_,_,_][xIf Bp][jt Cv] SL Re Rd[IR ht.symm]]] hv'[xHU=val T][by
   show([r.num,show C8-tots ko=0 by show BW[G6 [_,_,_,_,_][.a xF1[Ρ[xPk EG]]][xo[Ξ[BE[HD Rn]]]] Hc Rd[IR ee][ym ht.symm x6j]] zW,Nat.pow_zero,Nat.mul_one],XC[dU[x6G s ((s,8))] 0=_] xmO Od Kq)],Hu[R=T][xpk r.byt t.tb hlen hv'],LT ht .raw)
 ·show(Hu[ps=yeZ T] h,YC[xnB r.byt (S:=[]) (xuh t.le t.tb) h0 hbt]);rw [xsT,Kd,Kq,Oo,Kq] at q;exact .run q
 ·show(Dr Pp w h,x2n g xQo,jz q[xrI r.byt g h0 hbt] er Kq IQ q);have:=TxG.cpy q
  rwa [M7] at this
 ·show(Fw Pp L It b w sl wi rfl,x2n g xQo,(h1:xTB)=by
   cases Pp with
   |nil=>
    show(cX[vC[BJ W[W++T] er]] IQ,kG t.one)
   |cons=>exact Ml B1,Tl k[sl.tok g h1] hd[W13.xty wi]);rw [MK,Kd,<-k.len,Ki] at hd;show YC[xny (z:=xIN) k g];rw [er,IQ] at q;show Sc hI[xDO xTW L[xRn xIN]][by
   show([hbt,xzB,IU],xtX[yka wi][xw8 hd k.len[IR rfl]] ?_,EK Kd hd[.done yid])] ez[x0g R[tots[sU++xFV]]=xIN][by rw [hbt,<-xzC,M7]]
  have:=TxG.shr (W:=W) (v:=T.length) hI k.len k.good[vM ez][Ay [_,_,_] EH Bp Re Bp Rd]
  rwa [M7] at this
 ·exact h.elim
def xuA:XL ["row","before","block","window","head"] ybM xrZ:=Tm
structure Tbk (K:Frag)(mg:Ι)(CK QP C G C0 C1 C2 C3:Qq):Prop where
 H:xZh CK QP
 Z:Rals K mg C G C0 C1 C2 C3
 ahead:Ν "need_ahead" xyn Fu
 win:Ν "need_window" xxn xFb
 nhead:Ν "need_head" xrT x2Q
 headof:xIL "head_of" xyd
 bsize:Ν "block_size" xyr xF8
 ends:xIL "ends_in_check" xqM
 wcheck:xIL "with_check" xyq
 textin:Ν "text_in" xq9 x4g
def xoV (hi:i<4)(h1:Vt)(h2:wV):By[64*i+n-1]:=DE [_,_,_][UK Β tF] x67 SB HN[qJ hi] h2[DI [_,_] AM SL AM xWo h1]
theorem xus:tK It xAi a Nat[Ic It x2l][9*ycK≤66*xw2]
 | [],_,_=>B1
 |x::It,a,hk=>by
  show(υ hx[hk x Jl] ep[W13.puts[x::It]=x.puts++sU] ya4,[ep,aU]);cases x with
  |one l=>
   show ZR[xus It l[IB[hk y Qt]]]
   show 9*(iT[gG l] 1)≤66*(3+_);show Ay [_,_][x9 9][Zv 66][xC2 9][.m 66 Xg] ih
  |rep n=>
   obtain⟨_,h66⟩:YJ 3/\n≤66:=hx;show(ZR[xus It a[IB[hk y Qt]]],AR[CA[x3B[.rep n::It]][xv1 a++gG a]] JQ);show _≤66*(9+_);show Bj [_,_,_][DT 9 Re[Zv 9]][DT 9[.n 66][XY 66]][.m 9 WF][.m 66[BZ 9 Uf]][IV 9 h66] ih
def SI.low (h:CV)(t:oi):8≤Gj/\(xLZ 2->9≤Gj):=by
 show(eK t.one,xKx u)
 ·show(Hu[ps=ko] h,LT xwT (Ay DU[HD AM] HE Dv HE[wk h1],λ _=>by lia))
 ·show Hu[ps=pR wM] h
  suffices 14≤mv wM from(qZ UR Dv this,λ _=>qZ UR kO this)
  show Y7[xsT T];cases z:wM with
  |nil=>show xCv z;rw [<-BJ [] T e] at h1;show xAJ
  |cons q rs=>rw [xt8,cW,cW];lia
 ·show(Dr Pp w h,hP1=xq4 w[GV[Lc h1]])
  suffices 9≤vW from(qZ kO Dv this,λ _=>this)
  cases Pp with
  |nil=>cases hP1
  |cons x Pp=>
   rw [dP,aU];cases x with
   |sg s=>exact JD 9 _
   |cp b y=>show 9≤13+_;show S1 kO[lg 13]
 ·show(Fw Pp L It b w sl wi rfl,(_,_,_,_,tok,hk,hd)=xn1 t w sl wi,hl=xus It 0 hk);rw [hd,tok.len] at hl;show LT aU (by lia,λ _=>by lia)
 ·exact h.elim
def PB.parts (h:xSq)(t:oi):∃i ps Rb,i<4/\SI i W T ps/\xxH[ze 0] Gj Rb/\R=vD[sM[E7[64*i]-1]] Rb/\ykA/\ykF:=by
 show(hf=(h.facts t).2,Fw i ps Rb hi hm hp hr rfl,(i,ps,Rb,hi,hp,hr,rfl,?_,?_))
 ·show yY hr.len (SI.low hp t).1;lia
 ·rw [xyh,IQ] at hf;show(RC[BD[sM[E7[64*i]-1]] 3],ED [_,_][fz[Cy Ω]][EL 69] XR hf x8)
universe K27.Ck
namespace K27.Ck
open PySem L2 QQ W17 W16 BP
seal PE PA PS PSs PT PW PG PI
abbrev xoo:QC:=top 112
abbrev xvx:QC:=top 113
abbrev xvJ:QC:=xWM 0
abbrev xoq:QC:=xWM 1
abbrev xoU:QC:=xWM 2
abbrev xur:QC:=xWM 4
def four (n:Nat):LE:=xXk++xYI
def tailR (n c:Nat):LE:=vD VW bz
def xtJ (n):Zo[four n]:=λ b h=>wU h[dR xG9 b][dR xG9 b]
def xoR:¬(x2b pD):=Z8
def xoM:¬(xFf pD):=Z8
def xoJ:¬(pO pD):=Z8
def FM:¬(xFf pC):=Z8
def xoG:¬(pO pC):=Z8
def xoN:¬(pO xKu):=Z8
def fO (b m:Nat) (ck g:Qq):ug:=[G7 "blocks" b,G7 "many_signs" m,(("signs_check",.ref ck)),(("group",.ref g))]
def xxT (b m)(ck g):x3d g[xz3 ck[x81 m[sD "blocks" b []]]]=zA:=by
 show(x3d g[xz3 ck[Hn pD "many_signs" _[xPq:: [G7 "many_signs" m]]]])=_;show(EF[Jk xoR][(x3d g[Hn pD "signs_check" _[xPq::DY[xFf pC][G7 pC m:: [(("signs_check",.ref ck))]]]])=_],Wf xoM[Jk FM]);show DY[pO pD][xPq::DY[pO pC][G7 pC m::DY[pO xKu][Hm xKu ck:: [Hm "group" g]]]]=_;show gA[Jk xoJ][Jk xoG][Jk xoN]
def xo7 (b m)(ck g):wq zA "blocks" qR:=by
 rw [<-xxT,ar,Jk xoJ,ar,Jk xoM,ar,Jk xoR,ar,CD]
def xuT (b m)(ck g):wq zA "many_signs" qS:=by
 rw [<-xxT,ar,Jk xoG,ar,Jk FM,ar,CD]
def xoP (b m)(ck g):lh zA "signs_check"=π ck:=by
 rw [<-xxT,ar,Jk xoN,ar,CD]
def xiV (b m)(ck g):lh zA "group"=π g:=xHg xxT ar
def xfW (b m)(ck g){x:Str}(h1:pz[pO x])(h2:pz[xFf x])(h3:pz[x2b x])(h4:pz[x="blocks"]):o4 zA x:=by
 rw [<-xxT,ar,Ru,ar,Rg,ar,Jk h3,ar,Jk h4];rfl
def xfo (b m)(ck g):xLW zA:=xAw 4
def xjM (b m b')(ck g):sD "blocks" b' zA=xHb b' m:=zG[yN[pD="blocks"]=_] CD
def xja (b m m')(ck g):x81 m' zA=xHb b m':=YB[DY[x2b pD][xPq::yN[x2b pC]]=_][Jk xoR] CD
def xuZ (b m)(ck g g'):x3d g' zA=fO b m ck g':=by
 show DY[pO pD][xPq::DY[pO pC][G7 pC m::DY[pO xKu][Hm xKu ck::yN[pO[Ig "group"]]]]]=_;show kh[Jk xoJ][Jk xoG][Jk xoN] CD
structure xyA (C CK:Qq)(H:Hp)(p ck g:Qq)(S:LE)(b:Nat)(G:LE):Prop where
 ob:∃dx,G5[xEN b ck g]
 ch:∃dk,pG ck[.ins CK dk[xXZ[cD S]]]
 gr:H g=Az FE
 byt:Dl S
def xyA.keep (h:xyA C CK H p ck g S b G)(s:∀c o,Ψ->c=p\/c=ck\/c=g->Cf):xyA C CK H' p ck g S b G:=
 (h.ob.elim λ dx z=>o3[FV z bK],h.ch.elim λ dx z=>o3[x8k z bK],x8k h.gr xFP,h.byt)
structure Crs (K:Frag)(mg:Ι)(CK CO:Qq):Prop where
 Y:x4c CK
 initd:∃f fd t,CU dV[ydy dV f fd]/\xEB K xUa [Ud 16]/\xVM CK
 cl:xOQ CO
 nB:xSA CO "blocks"
 nM:xSA CO "many_signs"
 nC:xSA CO "signs_check"
 nG:xSA CO "group"
 m:mg "Course"=π CO
 gb:IE "GROUP_BLOCKS" 4
 four:Ν "in_four_bytes" xoo gE
 tailof:Ν "tail_of" xvx xTx
 init:IG[yij xvJ/\xNl/\xVM CO]
 win:aL CO "window" "Course.window" xoq
 go:jV CO "go_on" "Course.go_on" xoU xFw
 tail:aL CO "tail" "Course.tail" xur
inductive spFour (vs:Sy) (H:Hp) (Q:VK) (QL:XK):Prop
 |mk (n:Nat) (h0:vs=[F6]) (h1:tE[Χ->B0=BA[four n]->B8]):spFour vs H Q QL
def xdb:XL gE gE xoo:=Tm
def xpb (F:Ο "in_four_bytes" xoo gE)(Z:xDW):xQW gE spFour:=by
 show(xEZ Tw Z.Y.two GT[xvN (P:=P) (w:=w) (base:=base) Tw],D1 xdb[λ QE A outer st H vs Q E hr h=>?_],Dq n rfl k h[xFI[rY[Iw GT Tw[BO[zP xxa[zP xxY Η]]]][Iw GT Tw[BO[zP xxa Η]]]]],A3 e1[BU/2^Int.toNat 16=ST[n/65536]][dC[BU/65536=_][MQ[Nat.ToInt.div_congr rfl rfl]]] e2[∀m:Nat,Builtin.bitAnd xt 65535=ST[xGl m]][λ m=>xxm m 16] (_,rfl,_,_,rfl,rfl,(HA[FX≤16]),_,_,rfl,rfl,?_))
 try dsimp only
 show(rK e1 e2[xCI xG9 xNV],YD s1 xXk n1 Ug[(ZX H l1 xXk) l1=BA xXk],uf[ZX H l1 xXk] xC8)
 try dsimp only
 show(Γ e2[xCI xG9[UF l2 n2]],YD s2 xYI n2 Xc[(ZX H1 l2 xYI) l2=BA xYI],Tl h21[ES Ug] Sv Fy,Cz[ZX H1 l2 xYI] H2 (l1,l2,_,_,rfl,rfl,h21,Xc,(xj 4),Ex),ZF[Fd Sv] yjL[by rw [ad,<-Ji];rfl])
inductive xk5 (vs:Sy) (H:Hp) (Q:VK) (QL:XK):Prop
 |mk (n c:Nat) (h0:vs=[F6,Vz]) (h1:xC9 c) (h2:tE[Χ->B0=BA[tailR n c]->B8]):xk5 vs H Q QL
def xaw:XL xTx xTx xvx:=Tm
def xg8 (F:Ο "tail_of" xvx xTx)(Z:xDW):Cc 8 xTx xk5:=by
 show(C6 Tw Z.Y.two Fo Z.four,C6 Hr Z.Y.headrow Wc Z.Y.withcheck,D1 xaw[λ QE A outer st H vs Q E hr h=>?_],yV n c hc k,tP QW F9 Uj 2,xb[Iw[xrj Wc Z.Y] Wc[BO[rY[rY[Iw[xrb Hr Z.Y] Hr bq][Ih[xpb Fo Z] Uj Fo 0]][yU[xvN Tw] Tw 1]]]] (0,0,rfl,Z9,Z9,λ l1 H1 n1 s1 Ug=>?_),ω[xNi n[λ l2 H2 n2 s2 Xc=>?_]] (l1,l2,_,_,rfl,rfl,ES Ug,Xc,(xj 7),UF l3 n3),[-Ji],YD s3 VW n3 h33[(ZX H2 l3 VW) l3=BA VW],YM=xLT s3,Cz[ZX H2 l3 VW] H3[y3 c hc[UF l4 n4]],YD s4 bz n4 Yo[(ZX H3 l4 bz) l4=BA bz],Tl h43[X4 h33] s04 ya3,Cz[ZX H3 l4 bz] H4 (l3,l4,_,_,rfl,rfl,h43,Yo,(xj 9),x8M),[-Ji],YD s5[VW++bz] n5 h55[(qP l5[VW++bz]) l5=BA[VW++bz]],s05=s04.trans s5,Cz[qP l5[VW++bz]] H5 (l5,_,rfl,h55,qE,(HA[IK 9]),λ l H6 nl s6 hl=>Wb H6[Fd s05] yjl hl),sJ hb hb hb)
 ·show sJ hb hb hb
  ·exact xIj b hb
  ·exact xtJ n b hb
 ·exact dR hc b hb
def xbc (S T):cD[S++T]=crc 16 45[cD S] T:=by
 unfold chk crc;rw [Lx]
theorem dw (x)(v):∀l,EI[putF x v l][l.length+1]
 | []=>ρ
 |((y,u))::l=>by
  show xL2 putF
  ·simp
  ·have:=dw x v l;show xTr
def fOC:xU5 CO zA≠HO.ins CK dk iI:=by
 show Sf;injection z with _ _ z
 show xNK z;simp [fO,fC] at this
def xyA.ne (h:fU H p g S b G):p≠ck/\vj g/\g≠ck:=by
 show(DW dx hp h.ob dk hk h.ch,Dj[xXR hk fOC][fD h.gr A2][aJ h.gr hk A2])
inductive xle (CO CK:Qq) (vs:Sy) (H:Hp) (Q:VK) (QL:XK):Prop
 |mk (p dx:Qq) (h0:vs=Cg) (h1:xh p CO []) (h2:∀(ck g:Qq) (H':Hp),xW7->B7 g->fU H' p g [] 0 []->qC b[zc->jR->rq]):xle CO CK vs H Q QL
def xbU:gQ xvJ:=Tm
def xqv (F:yij xvJ)(Z:xDW):rm 4[xle CO CK]:=by
 show((_,_,W)=Z.Y.Z.whole,(_,_,t16,(_,FI),B16,MI)=Z.initd,D2 xbU[λ QE A outer st H vs Q E hr h=>?_],yV p dx hp k,Gw[nZ ag[nZ ag[xCD[xlK MI[ybD W Z.Y.Z.T Z.Y.Z.X] CJ Z7 Z.Y.Z.T.m B16[xMf (a:=x3v) CQ] bA] rE]]] (_,rfl,p,CO,dx,[],rfl,hp,Z.cl,Z.nB,xEt,?_) (_,rfl,p,CO,dx,_,rfl,ad,Z.cl,Z.nM,pk,?_),Sc Q1[AX[(uz[uz H xCb][x0O zH xCb]) p] CO xI0] ad YR[∀c o,Ψ->px[(uz[uz H xCb][x0O zH xCb]) c]][λ c o e n=>XV zi zi e],xAI no2[∀c,Θ[(uz[uz H xCb][x0O zH xCb]) c]->B7 c][λ c e=>by
  by_cases n:c=p
  ·show FD n ad e e
  ·show aG zi zi e e][uz[uz H xCb][x0O zH xCb]] H2);intro x dk nx Yg nek;show(Iu s0[xI5 CK] YO xZU[ai Q1 nx][Hx x dk 16 45 wp16 ad[λ H3 hx Q4=>Ej]],υ RE[Ga[pH Q1] YO] k13[∀c o,Ψ->CY->xJC][λ c o e n=>Ga[pH[xJT e n]][ai[xJT e n] nx]])
 clear Q4 s0;show(Tl Q0[dw "many_signs" ie ygE] Td[dw "blocks" ie []],Iu RV[dw "signs_check" E4 xI0] hl0[BD ([]:ug) 0] rfl (_,rfl,p,CO,dx,_,rfl,RE,Z.cl,Z.nC,(Bx [_,_,_] Iy[gK[Y9 xi]] SB Dm Q0 Td[IR hl0]),?_),Sc YU[AX[(uz H3[xz3 x xI0]) p] CO[xz3 x xI0]] ad hx4[je[(uz H3[xz3 x xI0]) x] CK dk[xXZ[2^16-1]]][Δ YO.symm hx],(k14:∀c o,Ψ->px[(uz H3[xz3 x xI0]) c])=λ c o e n=>Xz[k13 _ _ e n],Cz[uz H3[xz3 x xI0]] H4[nU[xj 0] g ng],fw s5 [] ng hg5[xEq g [] g=Az []],Tl W9 x6Y hx5[Bn hx4],De ngp g p[sF YU ng] hgH[B7 g][by
  cases e:H g with
  |none=>rfl
  |some o=>show AQ[k14 _ _ e ngp] ng ng],az H4 g [] H5,ω (_,rfl,p,CO,dx,_,rfl,W9,Z.cl,Z.nG,(Bx [_,_,_,_][Ξ gs][Fg[ZH[Y9 Β]]] SB Dm Q0 Td[aM RV hl0]),?_)[k x g _[no2 x nx] hgH (o3[Qp ad[x2V l[xU5 CO l][xxT 0 0 x g]]],(dk,Δ YO.symm hx5),Δ ngp hg5,λ z hz=>x4T) λ c o e n=>?_],Xz[Bn[k14 _ _ e n]])
inductive spOWin (CO CK:Qq) (vs:Sy) (H:Hp) (Q:VK) (QL:XK):Prop
 |mk (p ck g:Qq) (S G:LE) (b:Nat) (h0:vs=Cg) (h1:fU H p g S b G) (h2:∀l,Bv->xY8 FE):spOWin CO CK vs H Q QL
def xcw:gQ xoq:=Tm
def xgw (F:Bq "window" "Course.window" xoq)(Z:xDW):VI[spOWin CO CK]:=by
 show(xBO Z.Y.Z.X.R.X,D2 xcw[λ QE A outer st H vs Q E hr h=>?_],(p,ck,g,S,G,b,rfl,((dx,hp),_,hg,_),k)=h,xJ2[yiW xGS] (_,rfl,p,CO,dx,_,_,rfl,hp,Z.cl,Z.nG,xiV _ _ _ _,g,_,rfl,BN hg,k))
inductive xlf (CO CK:Qq) (vs:Sy) (H:Hp) (Q:VK) (QL:XK):Prop
 |mk (p ck g:Qq) (S G:LE) (b:Nat) (h0:vs=Cg) (h1:fU H p g S b G) (h2:tE[Χ->B0=BA Yx->B8]):xlf CO CK vs H Q QL
def xbs:gQ xur:=Tm
def xmB (F:Bq "tail" "Course.tail" xur)(Z:xDW):rm 9[xlf CO CK]:=by
 show(C6 To Z.tailof Va Z.Y.Z.value,CT=Z.Y.Z.T,D2 xbs[λ QE A outer st H vs Q E hr h=>?_],(p,ck,g,S,G,b,rfl,((dx,hp),(dk,hk),hg,hb),k)=h,xEi,xb[Iw[xg8 To Z] To[zM B5[zX B5 CT.cl Va[xnC Va.F CT]]]] (_,rfl,p,CO,dx,_,_,rfl,hp,Z.cl,Z.nM,xuT _ _ _ _,_,rfl,p,CO,dx,_,_,rfl,hp,Z.cl,Z.nC,xoP _ _ _ _,ck,dk,_,rfl,hk,xRw,ck,dk,16,_,rfl,hk,?_),yW _ xHa k)
def grp (b:Nat) (G T:LE):LE:=Hn[(b+1)%4] 0 [][G++T]
inductive spOGo (CO CK:Qq) (vs:Sy) (H:Hp) (Q:VK) (QL:XK):Prop
 |mk (p ck g a:Qq) (S G T:LE) (b:Nat) (h0:vs=Tr) (h1:fU H p g S b G) (h2:Υ=Hj) (h3:(D4)) (h4:IK[E7 G.length]) (h5:tK g' Qq H' Hp[B7 g'][fU H' p g'[S++T][b+1] x8C->lN[Ψ->CY->vY->Cf]]):spOGo CO CK vs H Q QL
def xdw:XL xFw xFw xoU:=Tm
def xjz (F:Bq "go_on" "Course.go_on" xoU)(Z:xDW):Cc 6 xFw[spOGo CO CK]:=by
 show(xBO Z.Y.Z.X.R.X,(X,CT,(_,_,W),(_,_,R),(_,_,N),(_,_,Yw),_,(_,_,Ad),_)=Z.Y.Z,(tg,hgb)=Z.gb,D2 xdw[λ QE A outer st H vs Q E hr h=>?_],(p,ck,g,a,S,G,T',b,rfl,hC,ha,hT,hl,k)=h,(npk,ngp,ngk)=hC.ne,((dx,hp),(dk,hk),hg,hb)=hC,A3 nap[vj a][fD ha A2] nak[a≠ck][aJ ha hk A2][Gy[nZ[xS B5][nZ[Gi B5[xKj τ]][Fm[xwd B5 CT.cl Ad[xpA Ad.F N R W Yw CT X] hr oF][vm[CE[xOA B5[FK 4 hgb tg]]][xFy rE][xFy[rY B5 τ]]]]]]],G9[wd+1=qU b][OR _][A6 S.length+pf[T'.map vN]=ST xE7][uO xIX],xJp (_,rfl,p,CO,dx,_,_,rfl,hp,Z.cl,Z.nB,xo7 _ _ _ _,_,_,rfl,rfl,_,rfl,p,CO,dx,_,rfl,hp,Z.cl,Z.nB,xD7,A1))
 try dsimp only
 show(xQh xjM,Sc RD[AX[(uz H[xEN[b+1] ck g]) p] CO[xEN[b+1] ck g]] ad k1[∀c o,Ψ->px[(uz H[xEN[b+1] ck g]) c]][λ c o e n=>Xz e],uf[uz H[xEN[b+1] ck g]][yD (_,rfl,p,CO,dx,_,_,rfl,RD,Z.cl,Z.nM,xuT _ _ _ _,_,rfl,a,_,rfl,BN[k1 _ _ ha nap],_,_,rfl,rfl,_,rfl,p,CO,dx,_,rfl,RD,Z.cl,Z.nM,xD7,A1)],Aj)
 try dsimp only
 show(xPz xja,xNp Q1[AX[(uz H1[xHb[b+1] xE7]) p] CO[xHb[b+1] xE7]] ad k2[∀c o,Ψ->px[(uz H1[xHb[b+1] xE7]) c]][λ c o e n=>Xz[k1 _ _ e n]][uz H1[xHb[b+1] xE7]] H2);clear k1 RD;show(xGM,B9 Uk[k2 _ _ hk npk.symm] (_,rfl,p,CO,dx,_,_,rfl,Q1,Z.cl,Z.nC,xoP _ _ _ _,ck,dk,_,rfl,Uk,xRw,_,rfl,ck,dk,a,16,45,_,T',rfl,wp16,xHa,Uk,k2 _ _ ha nap,hT,λ H3 hk3 Q4=>A1));rw [<-xbc] at hk3;show υ RE[Ga Q1 npk] k3[∀c o,Ψ->CY->vY->xJC][λ c o e n m=>Ga[k2 _ _ e n] m]
 clear Q4 Uk Q1 k2;show(Tl hg3[og hg ngp ngk] ha3[og ha nap nak],Sc hbb[Dl[S++T']][DX[wU hx[hb x][hT x]]] eL[DV S T'=xE7] IQ,Sc hgH[∀l,Θ[H3 l]->Bv][λ l nl=>by
  cases e:pV with
  |none=>rfl
  |some o=>
   by_cases n:l=p
   ·show FD n RE nl nl
   ·by_cases m:l=ck
    ·show FD m hk3 nl nl
    ·show AQ[og e n m] nl nl] fin[∀l L H4,Θ[H3 l]->H4=uz[IJ H3 sZ][fO[b+1] xE7 ck l]->L=x70->xAC H4][λ l L H4 nl e4 eL'=>by
  subst e4 eL';show(A3 Tc xHJ[TQ RE] nlk[XB ck][TQ hk3][ZF[hgH l nl] (o3[by rw [ad,eL]],(dk,XV[aj npk.symm][aj nlk.symm] hk3),xJ0 Tc ad,hbb) λ c o e n m=>?_],XV zi[xIo[og e n m] nl][og e n m])],SC e4[qU b%4=ST[(b+1)%4]][MQ[Nat.ToInt.mod_congr rfl rfl]] (_,rfl,p,CO,dx,_,_,rfl,RE,Z.cl,Z.nB,xo7 _ _ _ _,_,_,rfl,rfl,(HA[FX<4]),?_))
 try dsimp only
 show Γ e4[aT _[xg h h]]
 ·show(SC h0[(b+1)%4=0][by
   have:V.int[ST[(b+1)%4]]=xFn:=rC;show(ybY this,Int.ofNat_eq_zero.mp this)][nU[xj 0] l nl],SC Rv[(IJ H3 []) p=_][xk[ai RE nl] RE] (_,rfl,p,CO,dx,_,rfl,Rv,Z.cl,Z.nG,xD7,?_),LT xuZ[fin l [] _ nl rfl[Fq grp[Ju h0]]])
 ·show(SC h0[¬(b+1)%4=0][SZ[h[IZ[Ar z]]]] (_,rfl,p,CO,dx,_,_,rfl,RE,Z.cl,Z.nG,xiV _ _ _ _,_,rfl,g,a,_,_,rfl,rfl,hg3,ha3,bV[zD IS[uJ hl]],Ex),SC Rv[(IJ H3[FE++T'.map vN]) p=_][xk[ai RE nl] RE] (_,rfl,p,CO,dx,_,rfl,Rv,Z.cl,Z.nG,xD7,?_),EK xuZ Ji[fin l[G++T'] _ nl rfl[Fq grp[Jk h0]]])
abbrev xvA:QC:=xNe 0
abbrev xo6:QC:=xNe 1
abbrev xuz:QC:=xNe 2
abbrev xvb:QC:=xNe 3
abbrev xvh:QC:=xNe 4
abbrev xuj:QC:=xNe 5
abbrev xqU:QC:=top 133
def xoH:¬(x35 pE):=Z8
def xoQ:¬(xG2 pE):=Z8
def xoS:¬(nL pE):=Z8
def xoO:¬(xG2 pA):=Z8
def xoB:¬(nL pA):=Z8
def xo5:¬(nL xLo):=Z8
def xx6 (co wt:Qq) (bg fn:Bool):ug:=[(("course",.ref co)),(("waiting",yeq)),(("begun",x4x)),(("finished",xVz))]
def xwz (co wt)(bg fn):x08 xVz[ya6 x4x[x19 wt[BG "course" co []]]]=bX:=by
 show(x08 xVz[ya6 x4x[Hn pE "waiting" _[xQQ:: [Hm "waiting" wt]]]])=_;show(EF[Jk xoH][(x08 xVz[Hn pE "begun" _[xQQ::DY[xG2 pA][Hm pA wt:: [(("begun",ye1))]]]])=_],Wf xoQ[Jk xoO]);show DY[nL pE][xQQ::DY[nL pA][Hm pA wt::DY[nL xLo][((xLo,ye1)):: [(("finished",V.bl fn))]]]]=_;show gA[Jk xoS][Jk xoB][Jk xo5]
def xgh (co wt)(bg fn):lh bX "course"=π co:=by
 rw [<-xwz,ar,Jk xoS,ar,Jk xoQ,ar,Jk xoH,ar,CD]
def xfg (co wt)(bg fn):lh bX "waiting"=π wt:=by
 rw [<-xwz,ar,Jk xoB,ar,Jk xoO,ar,CD]
def zn (co wt)(bg fn):wq bX "begun" x4x:=by
 rw [<-xwz,ar,Jk xo5,ar,CD]
def xgM (co wt)(bg fn):wq bX "finished" xVz:=xHg xwz ar
def xfz (co wt)(bg fn){x:Str}(h1:pz[nL x])(h2:pz[xG2 x])(h3:pz[x35 x])(h4:pz[x="course"]):o4 bX x:=by
 rw [<-xwz,ar,Ru,ar,Rg,ar,Jk h3,ar,Jk h4];rfl
def xe0 (co wt)(bg fn):xLW bX:=xAw 4
def xyO (co wt X7)(bg fn):x19 X7 bX=xEL X7 bg fn:=YB[DY[x35 pE][xQQ::yN[x35 pA]]=_][Jk xoH] CD
def xui (co wt)(bg fn bg'):ya6[.bl bg'] bX=xEL wt bg' fn:=by
 show DY[xG2 pE][xQQ::DY[xG2 pA][Hm pA wt::yN[xG2 xLo]]]=_;show gA[Jk xoQ][Jk xoO] CD
def xum (co wt)(bg fn fn'):x08[.bl fn'] bX=xKI fn':=by
 show DY[nL pE][xQQ::DY[nL pA][Hm pA wt::DY[nL xLo][((xLo,ye1))::yN[nL[Ig "finished"]]]]]=_;show kh[Jk xoS][Jk xoB][Jk xo5] CD
structure xzx (K:Frag)(mg:Ι)(C:Qq):Prop where
 cl:Es
 nC:f9 "course"
 nW:ykL
 nB:f9 "begun"
 nF:yjM
 m:mg "Presser"=zl
 mark:∃d,mg "MARK"=zm/\∀H,w4 d [xG5,xHZ,CC]
inductive spUn (C:Qq) (vs:Sy) (H:Hp) (Q:VK) (QL:XK):Prop
 |mk (p dx co wt:Qq) (bg:Bool) (h0:vs=Cg) (h1:G5[xKI false]) (h2:xJq):spUn C vs H Q QL
def xdA:gQ xo6:=Tm
def xje (F:Bq "need_unfinished" "Presser.need_unfinished" xo6)(T:xzx K mg C):VI[spUn C]:=by
 show(D2 xdA[λ QE A outer st H vs Q E hr h=>?_],Fw p dx co wt bg rfl hp k,HU[Gy[ae[yn x5A]]] (_,rfl,p,C,dx,_,_,rfl,hp,T.cl,T.nF,xD8,false,rfl,bp k))
def mk (bg:Bool):LE:=Uc bg [] [184,66,1]
inductive spMark (C:Qq) (vs:Sy) (H:Hp) (Q:VK) (QL:XK):Prop
 |mk (p dx co wt:Qq) (bg fn:Bool) (h0:vs=Cg) (h1:G5 bX) (h2:tE[kF xDk[xLU fn]->B0=BA gJ->(∀c o,Ψ->CY->Cf)->B8]):spMark C vs H Q QL
def xb8:gQ xuz:=Tm
def xqb (F:Bq "mark_once" "Presser.mark_once" xuz)(T:xzx K mg C)(X:yh):VI[spMark C]:=by
 show((dM,mM,hM)=T.mark,D2 xb8[λ QE A outer st H vs Q E hr h=>?_],(p,dx,co,wt,bg,fn,rfl,hp,k)=h,Fx[jY x5A rE[nZ cu[Gz[xPr[BO[xHd dM mM]]]]]] (_,rfl,p,C,dx,_,_,rfl,hp,T.cl,T.nB,zn _ _ _ _,bg,rfl,?_));cases bg with
 |true=>
  show HU[bZ[nU[xj 0] l nl]][ZF nl[Δ[xGC nl] hp] ad λ c o e _=>xJX]
 |false=>
  show(tI[bp (_,rfl,p,C,dx,_,rfl,hp,T.cl,T.nB,zK,?_)] xui,SC RD[kF[(uo H[xLU fn]) p][xLU fn]] ad[yW dM[.inr[hM _]] Ex],SC Tc[p≠l][ai RD nl][ZF[Xq Tc.symm nl nl][Δ Tc RD] ad λ c o e n=>?_],XV[xIo[Xz e] nl] zi e)
def nb (A:LE):Nat:=A.length/64
def wn (A:LE) (i:Nat):LE:=(A.take[64*i]).drop[i/4*256]
structure PrAt (C CO CK:Qq)(H:Hp)(p co ck:Qq)(A:LE)(bg:Bool):Prop where
 ob:∃dx wt g,G5[xKI false]/\H wt=BA[A.drop[64*PO]]/\lO H g[A.take[64*PO]] PO[wn A PO]
 byt:xJl
def xxc (t:QX)(kp:∀c o,Ψ->(∀C dx fs,o≠ xSt C fs)->EN xs[o≠ xMh]->Cf):xCd:=Dq ps h z t (ps,Bo h[by intro _ _ _ z;show xCO][by intro _ z;cases z],z.imp id λ z9=>by show((c',oc,vs,t,e,hc,r)=z9,(c',oc,vs,t,e,Bo hc[by intro _ _ _ z;show xCO][by intro _ z;cases z],r)))
structure Prz (K:Frag)(mg:Ι)(B D G CW C0 C1 C2 C3 c CK QP CO C:Qq):Prop where
 Bk:Bks K mg B D G CW C0 C1 C2 C3 c CK QP
 Cr:xDW
 T:xzx K mg C
 bs:IE "BLOCK_SIGNS" 64
 putblock:IG[xW3 "put_block" xrD Jag f fd]
 init:IG[yhU xvA/\xNl/\Sq]
 un:XA "need_unfinished" "Presser.need_unfinished" xo6
 mark:XA "mark_once" "Presser.mark_once" xuz
 next:jV C "next_block" "Presser.next_block" xvb ybq
 feed:jV C "feed" "Presser.feed" xvh xFw
 finish:XA "finish" "Presser.finish" xuj
inductive xlj (C CO CK:Qq) (vs:Sy) (H:Hp) (Q:VK) (QL:XK):Prop
 |mk (p dx:Qq) (h0:vs=Cg) (h1:xO2) (h2:∀(co ck:Qq) (H':Hp),B7 co->xW7->x6P CO CK H' p co ck [] false->qC b[zc->jR->rq]):xlj C CO CK vs H Q QL
def xbF:gQ xvA:=Tm
def xid (F:yhU xvA)(Z:xZ3 c CK QP CO C):rm 6[xlj C CO CK]:=by
 show(xBO Z.T,fh Z.Cr.init,D2 xbF[λ QE A outer st H vs Q E hr h=>?_],yV p dx hp k,D9[nZ[Q7[xqv FI Z.Cr] hr Z.Cr.m bI bA][nZ rE[xCD cu cu]]])
 intro x dk nx Yg nek;show(Iu s0[xI5 CO] YO xZU x7i[jE x dk ad[λ ck g H1 nck ng hC Tt=>Ej]],DF RD[SX[pH hp] YO] k1[∀b o,zc->xRm][λ b o e=>SX iE xBy] WE xW7 x36);clear Tt s0;show((_,rfl,p,C,dx,[],rfl,RD,T.cl,T.nC,xEt,?_),Sc Q1[kF[(uo H1 y6) p] y6] ad k2[∀b o,xRm->xR2[(uo H1 y6) b]][λ b o e n=>Xz e],Cz[uo H1 y6] H2[nU[xj 0] wt nwt],fw s3 [] nwt hw3[kS H2 wt [] wt=Az []],υ RE[Ge Q1] nwp x66[sF Q1 nwt],Cz[Fj H2 wt []] H3 (_,rfl,p,C,dx,_,rfl,RE,T.cl,T.nW,pk,?_),Tl Td[dw "course" E4 []] Q0[ykb yeq y6],υ RV[dw "begun" XS[x19 wt y6]] hl0[BD ([]:ug) 0] rfl,ω (_,rfl,p,C,dx,_,rfl,ad,T.cl,T.nB,(Bx [_,_,_][Ξ EH][Fg[Y9 Β]] SB Dm Td Q0[IR hl0]),?_) (_,rfl,p,C,dx,_,rfl,ad,T.cl,T.nF,(Bx [_,_,_,_][Ξ x5t][Fg[gK[Y9 dQ]]] SB Dm Td Q0[aM RV hl0]),?_),[xwQ,xwQ,xwz],(npk,ngp,ngk)=hC.ne,De WD ck p[SZ[FZ hp WE WE]] hgp[vj g][SZ[by
  have:=hC.gr;show Tg RD]],SC k3[∀b o,xRm->xR2[(uo H3[yae x wt]) b]][λ b o e n=>Xz[Ge[k2 _ _ e n]]][k x ck _ nx WE[ka (dx,wt,g,ad,Δ nwp hw3,hC.keep λ c o e hc=>og e ?_) z hz x4T] λ b o e n=>og[k1 _ _ e] n],dm hc)
 ·exact YO.symm
 ·exact WD
 ·exact hgp
inductive spNext (Tb C CO CK:Qq) (vs:Sy) (H:Hp) (Q:VK) (QL:XK):Prop
 |mk (p dx co wt ck g a:Qq) (bg fn:Bool) (S G T:LE) (b:Nat) (h0:vs=Tr) (h1:G5 bX) (h2:lO H g S b G) (h3:Υ=Hj) (h4:TW T G) (h5:QX) (h6:∀(l g':Qq) (R:LE) (H':Hp),Bv->B7 g'->PB G T R->B0=nN->lO H' g'[S++T][b+1] x8C->(∀c o,FL Tb->Ψ->yZ->vY->Cf)->xCd->B8):spNext Tb C CO CK vs H Q QL
def xmk:XL[xAj "signs" "block"] ybq xvb:=Tm
def wf (F:Bq "next_block" "Presser.next_block" xvb)(Z:xZ3 c CK QP CO C)(hC:Vn)(hBm:jQ)(hK:yX):Cc 41 ybq[spNext Tb C CO CK]:=by
 show(T0=Z.T,x8X Pb Z.putblock FP Pb.F,C6 Wi Z.Cr.win Go Z.Cr.go,D2 xmk[λ QE A outer st H vs Q E hr h=>?_],(p,dx,co,wt,ck,g,a,bg,fn,S,G,T,b,rfl,hp,Yn,ha,tw,hT,k)=h,tP QW F9 hr6 6,Gw[DP 2 xmk.nd[dz[xgk FP Z.Bk hC hBm hK] hr Pb.m Pb.kp Pb.b bA[nj 1[zX B5 Z.Cr.cl Wi[ye2 Z.Cr]]]][aB[xwd B5 Z.Cr.cl Go[xjz Go.F Z.Cr] hr6 oF]] Ζ] Zk Ei,sL dxo Uw Yn.ob (_,rfl,_,rfl,p,C,dx,_,_,rfl,hp,T0.cl,T0.nC,xD9,co,dxo,_,rfl,Uw,xEa,co,ck,g,S,G,b,rfl,Yn,UF lw nlw),fw s1 FE nlw hw1[kS H lw FE lw=Az FE],az H lw FE H1,B9 Yj xT9 (a,.ref lw,T,G,rfl,ay,.inr[Ef lw hw1],tw,Yj,λ l R H2 nl pb hl sT hT2=>A1),(k2:cj e o T3[EN ps[o≠ rZ]->xKC e])=λ h hn=>qz[Yj.ne[IL h] hn][IL h],υ Q1[k2 hp vK] Xm[lO H2 g S b G][Ib dk hk Yn.ch ((dxo,k2 Uw vK),(dk,k2 hk vK),k2 Yn.gr vK,Yn.byt)],Tl WY[k2 ha vK] Ss tw.le,χ hwl tw.wl Ei,sL dxo2 Vg Xm.ob (_,rfl,p,C,dx,_,_,rfl,Q1,T0.cl,T0.nC,xD9,co,dxo2,_,rfl,Vg,xEa,_,rfl,co,ck,g,a,S,G,T,b,rfl,Xm,WY,tw.tb,(CM [_,_] Ω[CN XR 192] WF Dm Ss hwl),λ g' H3 ng' hC3 Q4=>A1),Aj,mj dk2 Uk Xm.ch hTb3[xKN H3][xxc hT2 λ e o h hn _=>Ga h[aJ h Vg[eM _ _]][aJ h Uk[eM _ _]]],RV=Ga hl[aJ hl Vg A2][aJ hl Uk A2],BK[Wb g' R H3[Fd s1][xFA[xqu hT2 sT ng']] pb RV hC3[λ c o n e n1 n2=>Ga[qz n HC] n1 n2] hTb3])
def blk (F:LE) (i:Nat):LE:=(F.drop[64*i]).take 64
def Bl (F:LE)(i:Nat)(R:LE):Prop:=PB xZQ xIk R
def lm (F:LE)(i):F.take[64*i]++xIk=F.take[64*(i+1)]:=jb blk[BJ[64*(i+1)][64*i+64][Nat.mul_succ 64 _]] Oj
def xva (h:x4y[64*i]):EI xZQ 192:=by
 show jb wn Je Jc;lia
def xpK {F:LE}(h:x4y[64*(i+1)]):grp i xZQ xIk=wn F[i+1]:=by
 unfold grp wn;by_cases z:(i+1)%4=0
 ·show([Ju z,Lj],Gb[G6 [_,_,_,_][rz 64[Ρ[wK xi]]][UK Hc[UK xi[wK[zx 4 Cv]]]][xBU SL][qJ[IR z]] G8[qJ[xGw[LL _ _]]]])
 ·rw [Jk z,<-lm,MC[pI Jc],BJ[(i+1)/4][i/4][Nat.succ_div_of_mod_ne_zero z]]
def xqH {F:LE}(h:x4y[64*(i+1)]):BD xIk 64:=by
 show jb blk Jc Je;lia
def xp9 {F:LE}(h:x4y[64*(i+1)])(hb:Dl F):TW xIk xZQ:=
 (LB[JZ gw],Hd[xqH h],Hd[xqH h],LB[JK xBr],xva[Nat.le_of_add_right_le h])
inductive spFeed (Tb C CO CK:Qq) (vs:Sy) (H:Hp) (Q:VK) (QL:XK):Prop
 |mk (p a co ck:Qq) (A:LE) (bg:Bool) (T:LE) (h0:vs=Tr) (h1:x6P CO CK H p co ck A bg) (h2:Υ=Hj) (h3:(D4)) (h4:IK[DV A T]) (h5:QX) (h6:Xx l Qq Rs yO[Bv->PO+Rs.length=nb[A++T]->(∀j R,Vm->Bl[A++T][PO+j] R)->B0=BA[xLJ gJ]->x6P CO CK H' p co ck[A++T] true->(∀e o,xCu->T3->mf->xHP->xHO->xED e)->xCd->B8]):spFeed Tb C CO CK vs H Q QL
def xzo:XL ["self","text","signs","told","begin"] xFw xvh:=Tm
inductive xj0 (CK:Qq) (CO:Qq) (C:Qq) (Tb:Qq) (H:Hp) (p:Qq) (a:Qq) (co:Qq) (ck:Qq) (bg:Bool) (dx:Qq) (wt:Qq) (l2:Qq) (F':LE) (n0:Nat) (l3:Qq) (m:Nat) (σ:St) (H4:Hp):Prop
 |mk (j:Nat) (Rs:yO) (g4:Qq) (h0:m=xBa-(n0+j)) (h1:σ=[u5,BL,π l2,xX9,Α[64*j]]) (h2:n0+j≤xBa) (h3:x5h j) (h4:x97[69*j]) (h5:(∀i R,AD Rs R->Bl F'[n0+i] R)) (h6:H4 l3=BA[xLJ gJ]) (h7:H4 l2=BA[x3l n0]) (h8:kF[H4 p] yc2) (h9:lO H4 g4[F'.take[64*(n0+j)]][n0+j][wn F'[n0+j]]) (h10:(∀e o,xCu->T3->mf->xHP->Uz xHO[H4 e])) (Ug:xKN H4):xj0 CK CO C Tb H p a co ck bg dx wt l2 F' n0 l3 m σ H4
def xbL (F:Bq "feed" "Presser.feed" xvh)(Z:xZ3 c CK QP CO C)(hC:Vn)(hBm:jQ)(hK:yX):Cc 42 xFw[spFeed Tb C CO CK]:=by
 show(Tl T0 Z.T X Z.Cr.Y.Z.X.R.X,xm Un Z.un Mo Z.mark Nx Z.next,(tb,hbs)=Z.bs,xm W Z.Cr.Y.Z.whole Ri Z.Cr.Y.Z.isrow Nr Z.Cr.Y.Z.needrow,D2 xzo[λ QE A outer st H vs Q E hr h=>?_],(p,a,co,ck,A',bg,T,rfl,hP,ha,Ux,hlen,hT,k)=h,A3 QW F9 CJ W8[Dk 4] CJ[Gy[Fm[zX Η T0.cl Un[xje Un.F T0]][ID 2 xzo.nd[rY B5[Ih[ok_needrow Nr Z.Cr.Y.Z.X.R] W8 Nr 1]] 3 xzo.nd[zX Η T0.cl Mo[xqb Mo.F T0 X]][Gn 4 xzo.nd ag[zd[HX xwy[y4[lX Ζ] Bb][FK 64 hbs tb]][Fm[xZp AZ[BO[xwd Η T0.cl Nx[wf Nx.F Z hC hBm hK] hr[BO[xDd Ζ Bb[xOI[FK 64 hbs tb]]]]]]][eI 4 xzo.nd[xOI[FK 64 hbs tb]]]]][nZ[qd Ζ Bb][Gz AZ]]]]]],((dx,wt,g,hp,hw,Yn),hA)=id hP,xJp (_,rfl,p,dx,_,rfl,hp,Ep,p,dx,co,wt,bg,rfl,hp,A1),Bu (_,rfl,p,C,dx,_,_,rfl,hp,T0.cl,T0.nW,oZ,_,rfl,a,T,rfl,ha,Ux,xNV),fw s1 rU n1 Ug[kS H l1 rU l1=Hj],az H l1 rU H1,SC hn64[64*mW≤A'.length][by show(ip,JG _ 64)] (wt,l1,_,_,rfl,rfl,x7H,Ug,bV[by show(EP IS Je,Ε IQ hlen[CM [_,_,_][m8 DG][iK Uf] WF Bc hlen fj])],λ l2 n2=>A1),Aj,Wv[A5[A'.drop[64*mW]]++rU=A5[xBT A' T[64*mW]]][by rw [<-Ji,MC hn64]],[e2],YD s2[xBT A' T[64*mW]] n2 Xc[(ZX H1 l2[xBT A' T[64*mW]]) l2=BA[xBT A' T[64*mW]]],s02=Fy,az H1 l2[A5[xBT A' T[64*mW]]] H2);clear s1 s2 n1 n2 Ug;show(DF Q1[s02 _ _ hp] Xm[lO H2 g[xIi A' T[64*mW]] mW[wn xIG mW]][by
  show(Sc e[xIi A' T[64*mW]=A'.take[64*mW]][KP hn64] e'[wn xIG mW=wn A' mW][Fq wn e],XV e e'[Yn.keep λ c o z _=>s02 _ _ z])] hF[fE xIG][IB[wU hy[hA y][Ux y]]],xNp hnF[mW≤nb xIG][Bz nb IQ[zQ 64 [_,_,_,_][xFX x5r][Aw xWr] SL DB zV]] hFl[64*nb xIG≤DV A' T/\DV A' T<64*nb xIG+64][by show(ip,AU DB[Nat.lt_mul_div_succ _ Z9])] xIG F',Cz mW n0[yD (_,rfl,p,dx,_,rfl,Q1,Ep,p,dx,co,wt,bg,false,rfl,Q1,λ l3 H3 n3 RE RV Q4=>A1)],x8w,DW dxo Vg Xm.ob dk hck2 Xm.ch,De npc co p[SZ[by show(gH Q1 Vg,xKQ Vg Vg Vg _ _ z);cases(x3k x9F)]] npk x7O[SZ[by show(gH Q1 hck2,xKQ hck2 hck2 hck2 _ _ z,xNK z,xMs)]],De ngp g p[aJ Xm.gr Q1 A2] nl2p[vj l2][aJ Xc Q1 A2],(nH3:B7 l3)=none_of s02 n3,ZT g1[Cm[xj0 CK CO C Tb H p a co ck bg dx wt l2 F' n0 l3] (xBa-n0,0,[],g,rfl,rfl,hnF,rfl,B1,λ i R e=>xWC,Di RV,Ga Xc nl2p,RE,Xm.keep λ e o z hz=>Ga z[by show(dm hz,xAd npc npk,ngp)],
   λ e o _ z n _ _=>Ga[s02 _ _ z] n,xxc[hT.same s02] λ e o z hn _=>Ga z[wY Q1[eM _ _]])])
 rintro m σ H4 ⟨j,Rs,g4,rfl,rfl,hj,W0,hR69,hRs,hl34,hl24,YU,hCo4,fr4,hT4⟩;refine(_,rfl,l2,_,rfl,BN hl24,_,rfl,_,_,rfl,rfl,_,_,rfl,rfl,_,rfl,xg hc hc)
 ·show(Aj,A3 hj1[64*(n0+j+1)≤F'.length][by
   have:=xXT;show Ua Je this;lia] hjb[n0+j+1≤xBa] Z5 xRT);dsimp only;show Iu tw[xp9 (i:=n0+j) hj1 hF] e64[ST[64*j]+64=ST[64*j+64]][xJ9[Fv xM4 xM4] xM4 xM4][xzK g2 (_,rfl,xq hl34,_,rfl,p,dx,_,rfl,YU,Ep,_,rfl,_,rfl,_,rfl,_,rfl,_,_,rfl,rfl,_,rfl,l2,_,rfl,QK.of hl24,UF ls nls)]
  try dsimp only
  show([e64,xyg _ Z5[by show(mY Je,Bj [_,_,_,_][UK[AS iV] Uf][Aw[Ξ x5F]] xM4 SL hj1 W1)],BJ[64*j+64-64*j] 64[M2 _ 64],-LY,KS,-LO,show 64*n0+64*j=64*(n0+j) by show qL x52 x5Y x5Y x52],DF s5[wH[xWI[n0+j]] nls] hls[(qP ls[xWI[n0+j]]) ls=BA[xWI[n0+j]]] ad e5[qP ls[(x3l[n0+j]).take 64]=qP ls[xWI[n0+j]]] rfl,[e5]);clear e5;show(az H4 ls[A5[xWI[n0+j]]] H5,χ hT5[hT4.same s5] (p,dx,co,wt,ck,g4,ls,true,false,_,_,_,n0+j,rfl,x6Y,hCo4.keep λ e o z _=>Bn z,hls,tw,hT5,λ l6 g6 R H6 n6 ng6 pb hl6 hC6 kp6 hT6=>?_),Hs hR ykc hl35[Bn hl34] hl25[Bn hl24] W9 x6Y,DW dxo4 hco4 hCo4.ob dk4 hck4 hCo4.ch,(nlst:cj e xs[H5 e=Fh][H6 e=Fh])=SZ[xRY[hT5.ne z[xL0 y y]] z[wY[Bn hco4] Xy][wY[Bn hck4] Xy]],Tl Vf[nlst hl35] hl26[nlst hl25],χ hp6[xRY[hT5.ne W9[xL0 y y]] W9 npc.symm npk.symm] (l3,l6,_,_,rfl,rfl,Vf,hl6,bV[by
   show((hmk:EI gJ 3)=by cases bg<;>decide,EP IS IQ,DE [_,_,_,_,_,_][xQT[Ξ[uX[wK[AS xMZ]] HM]]][uX Dm[DT 69 nV[xQT[fz[.n 69]]]]] xF2 Bc[lV hlen] hR69[oM 2 hj1[IP hR.2 hmk]])],bf),YK,De n36 l3 l6[ai hl35 n6] nl23[l2≠l3][by
   show(Sf,FD z Xc n3 n3)],SC e66[ST[64*j]+64=ST[64*(j+1)]] Z3 (_,rfl,_,_,rfl,rfl,xBa-(n0+(j+1)),Kz _ _ hjb,j+1,Rs++[R],g6,rfl,?_,hjb,xTr,?_,fK i R',?_,?_,?_,?_,λ e o n z n1 n2 n3'=>?_,?_))
  ·try dsimp only
   show Ar e66
  ·show(AR Ld[show [R].flatten=R by simp],HI hR.2[IP hR69 hR.2])
  ·show iq i Rs.length h h
   ·show Ε[JP h] e[hRs i R' e]
   ·show(xU[Jz h] e hi0[i-Rs.length=0][by
     rcases M3[i-Rs.length] with q|q
     ·show HL
     ·show yb[J6 xTr]],yb hi0);have:i=j:=(IT[xKi hi0] h).trans W0;show xZv pb
  ·rw [ad,Ld,<-IU,Ji (l₁:=xLJ gJ)];simp
  ·show Δ nl23 hl26
  ·show Δ[xRB hp6 A2] hp6
  ·show([show n0+(j+1)=n0+j+1 by show qL Dw rS rS Dw,-lm,-xpK hj1],hC6.keep λ e o z hz=>?_,xKk hco6 hC6.ob hck6 hC6.ch,Δ[by
    show dm hz
    ·exact xRB hco6 Xy
    ·exact xRB hck6 Xy
    ·exact sF hl35 ng6] z)
  ·show CZ z nH3[xRY n[Bn[fr4 _ _ n z n1 n2 n3']] n2 n3']
  ·exact xxc hT6 λ e o z _ hn=>Δ[wY Vf eM] z
 ·show(SC hnb[n0+j=xBa][by
   show((h1:¬(A6 64≤o7[A5[x3l n0]]-ST[64*j]))=xNH xHW,Ua Je h1);lia] A1,Aj,(_,rfl,_,rfl,_,rfl,l2,_,rfl,QK.of hl24,UF lw nlw))
  try dsimp only
  show([xxl,-LY,KS,show 64*n0+64*j=64*xBa by show Em x5Y gv x52 gv[qJ hj][EZ gv x5Y gv x52[qJ yjs]]],DW dxo4 hco4 hCo4.ob dk4 hck4 hCo4.ch,Tl s5[wH xNs nlw] hco5[Bn hco4],(hlw:(qP lw xNs) lw=BA xNs)=ad,Hs W9 x6Y hT5[hT4.same s5] hCo5[hCo4.keep (H':=qP lw xNs) λ e o z _=>Bn z] hl35[Bn hl34],(fr5:∀e o,xCu->T3->mf->xHP->Uz xHO[(qP lw xNs) e])=λ e o n z n1 n2 n3=>Bn[fr4 _ _ n z n1 n2 n3],Cz[qP lw xNs] H5 (_,rfl,p,C,dx,_,rfl,W9,T0.cl,T0.nW,zK,?_),RZ xyO Tc[cj e xs[H5 e=Fh] mf][SZ[wY W9 Xy]][BV[k l3 Rs _ nH3[IT[CM [_,_,_,_] xV6 Fs WF Uf hj[IR W0]][CM [_,_,_,_] xY[Ξ Hk] Uf WF[IR W0.symm] yjs]] hRs[Δ[Tc hl35] hl35] ((dx,lw,g4,ad,Δ[Tc hlw] hlw,?_),hF)[λ e o n z n1 n2 n3=>Δ n1[xX0 _ n z n1 n2 n3]][xxc hT5 λ e o z hn _=>Δ[wY W9[eM _ _]] z]]])
  ·show Bg hnb[hCo5.keep λ e o z hz=>Δ[by show(dm hz,xAd npc npk,Tc hCo5.gr)] z]
def xzw (A R:LE):Prop:=(A.length%64=0/\R=[])\/(A.length%64≠0/\PB[wn A PO][A.drop[64*PO]] R)
def xpZ (hb:xJl)(h:A.length%64≠0):TW[A.drop[64*PO]][wn A PO]:=
 (LB xBr,by show([Je],ip);exact Bg OD[Ol h],by show([Je],ip);exact Bg OD[Jy xG9],LB[JK xBr],xva[by show(ip,JG _ 64)])
inductive spFin (Tb C CO CK:Qq) (vs:Sy) (H:Hp) (Q:VK) (QL:XK):Prop
 |mk (p co ck:Qq) (A:LE) (bg:Bool) (h0:vs=Cg) (h1:x6P CO CK H p co ck A bg) (h2:IK A.length) (h3:QX) (h4:Xx l Qq R LE[Bv->xzw A R->B0=BA[gJ++R++tailR A.length[cD A]]->(∀e o,xCu->T3->mf->xHP->xHO->xED e)->xCd->B8]):spFin Tb C CO CK vs H Q QL
def scPFin:xzZ[Ax "told"] xuj:=Tm
def xcJ (F:Bq "finish" "Presser.finish" xuj)(Z:xZ3 c CK QP CO C)(hC:Vn)(hBm:jQ)(hK:yX):rm 42[spFin Tb C CO CK]:=by
 show(Tl T0 Z.T X Z.Cr.Y.Z.X.R.X,C6 Un Z.un Mo Z.mark,C6 Nx Z.next Ta Z.Cr.tail,D2 scPFin[λ QE A outer st H vs Q E hr h=>?_],(p,co,ck,A',bg,rfl,((dx,wt,g,hp,hw,Yn),hA),hlen,hT,k)=h,tP QW F9 hr9 9,gp[Fm[zX Η T0.cl Un[xje Un.F T0]][nZ cu[DP 1 scPFin.nd[zX Η T0.cl Mo[xqb Mo.F T0 X]][qk[FW xwV x5q][aB[xZp τ[BO[xwd Η T0.cl Nx[wf Nx.F Z hC hBm hK] hr xGS]]]]][xYo[x7g Z.Cr.cl Ta[xmB Ta.F Z.Cr] hr9]]]]] (_,rfl,p,dx,_,rfl,hp,Ep,p,dx,co,wt,bg,rfl,hp,A1),DW dxo Uw Yn.ob dk WD Yn.ch,De npc co p[SZ[by show(gH hp Uw,xKQ Uw Uw Uw _ _ z);cases(x3k x9F)]] npk x7O[SZ[by show(gH hp WD,xKQ WD WD WD _ _ z,xNK z,xMs)]],A3 ngp[vj g][fD Yn.gr A2] nwp x66[fD hw A2][yD (_,rfl,p,C,dx,_,rfl,hp,T0.cl,T0.nF,zK,A1)],Aj,[xum],Sc RD[kF[(x8D) p][xKI true]] ad k1[∀e o,T3->Uz mf[(x8D) e]][λ e o z n=>Xz z],(no1:∀e,Θ[(x8D) e]->B7 e)=λ e z=>by
  by_cases n:e=p
  ·show FD n RD z z
  ·show Ε zi z z,uf x8D[yD (_,rfl,p,dx,_,rfl,RD,Ep,p,dx,co,wt,bg,true,rfl,RD,λ l3 H3 n3 RE RV Q4=>A1)],Aj,(k3:∀e o,T3->mf->Gr[H3 e])=λ e o z n=>Ga[k1 _ _ z n] n,υ nH3[no1 _ n3] hCo3[lO H3 g[A'.take[64*mW]] mW[wn A' mW]][Yn.keep λ e o z hz=>og z[by show(dm hz,xAd npc npk,ngp)]],υ hw3[og hw nwp] hT3[xKN H3][xxc hT λ e o z hn _=>og z[wY hp[eM _ _]]])
 clear Q4 k1 RD no1;show(DK Ei J[∀R S G b g5 H5,xzw A' R->S=A'->lO H5 g5 S b G->xwC 100->H5 l3=BA[gJ++R]->kF[H5 p][xLU true]->(∀e o,xCu->T3->mf->xHP->xHO->xNG e)->xKN H5->R1 [u5,xX9] H5][by
  intro R S G b g5 H5 hLB eS hC5 hR hl5 W9 fr5 hT5;subst eS;show(zJ A1 dxo5 hco5 hC5.ob,ω (_,rfl,_,rfl,p,C,dx,_,_,rfl,W9,T0.cl,T0.nC,xD9,co,dxo5,_,rfl,hco5,xEa,co,ck,g5,_,G,b,rfl,hC5,λ lt H6 nt s56 QF=>?_) (l3,lt,_,_,rfl,rfl,xRW hl5,QF,bV[by
   show((hmk:EI gJ 3)=by cases bg<;>decide,EP IS IQ,tX[_+11],Bj [_,_] Ω[fz[.n 100]][xK6 WF] Bc hR hmk)],Ex),χ s67[Dn[A5[gJ++R]++A5 Yx] nl][Wb R _ ?_ hLB[by rw [ad,<-Ji]][λ e o n z n1 n2 n3=>xX1 _[xRW[xX0 _ n z n1 n2 n3]]][(hT5.same s56).same s67]],(n5:Θ[H5 l])=Fd s56);cases e:pV with
  |none=>rfl
  |some o=>
   exfalso;by_cases z1:l=p
   ·show FD z1 W9 n5 n5
   ·by_cases z2:l=co
    ·show FD z2 hco5 n5 n5
    ·by_cases z3:l=ck
     ·show((_,hk5)=hC5.ch,FD z3 hk5 n5 n5)
     ·by_cases z4:l=Tb
      ·show(ydg h hT5,FD z4 h n5 n5)
      ·show AQ[xX0 _ z4 e z1 z2 z3] n5 n5],Aj,(_,rfl,p,C,dx,_,_,rfl,RE,T0.cl,T0.nW,oZ,wt,_,rfl,BN hw3,_,_,rfl,rfl,_,rfl,xg hc hc))
 ·show(eN h0[A'.length%64≠0][by
   have:=xXT;show(Ua Je this,x4z nb this)] tw[xpZ hA h0],ω (_,rfl,xq RV,_,rfl,p,dx,_,rfl,RE,Ep,_,rfl,p,C,dx,_,_,rfl,RE,T0.cl,T0.nW,oZ,?_) (p,dx,co,wt,ck,g,wt,true,true,_,_,_,mW,rfl,RE,hCo3,hw3,tw,hT3,λ l6 g6 R H6 n6 ng6 pb hl6 hC6 kp6 hT6=>?_),XF hR ykc.2 hco3 hCo3.ob hck3 hCo3.ch,xKk hco3 hco3 hck3 hck3,Tl Vf[xRY[hT3.ne RV[xL0 y y]] RV[aJ RV hco3 Xy][aJ RV hck3 Xy]] hp6[xRY[hT3.ne RE[xL0 y y]] RE npc.symm npk.symm],ω (l3,l6,_,_,rfl,rfl,Vf,hl6,bV[by
   show((hmk:EI gJ 3)=by cases bg<;>decide,mY IS,Bj [_,_] Ω[fz[.n 69]] WF Bc hR hmk)],?_)[J R _ _ _ g6 _[x4 h0 pb][JJ _ _][hC6.keep λ e o z hz=>?_][uJ hR] xIO[Δ[xRB hp6 A2] hp6][λ e o n z n1 n2 n3'=>?_][xxc hT6 λ e o z _ hn=>Δ[wY Vf eM] z]])
  ·show(xKk hco6 hC6.ob hck6 hC6.ch,Δ[by
    show dm hz
    ·exact xRB hco6 Xy
    ·exact xRB hck6 Xy
    ·exact sF RV ng6] z)
  ·show CZ z nH3[xRY n[og z n1] n2 n3']
 ·show SC h0[A'.length%64=0][by
   show((h1:¬(FX<pf[A5[A'.drop[64*mW]]]))=xNH xHW,Ua Je h1,x4z nb h1)][J [] _ _ _ g H3[.inl[Gs h0]][Jo[by show(ip,ED [_,_,_] HM[xDs x2d] cF[IR h0][xGw[LL _ _]])]] hCo3 Z9[LT JM RV] RE[λ e o _ z n _ _=>og z n] hT3]
def xsf (T Z:LE):Prop:=∃(Rs:yO) (R:LE),x5h[nb T]/\(∀j R,Vm->Bl T j R)/\xzw T R/\Z=xLJ [184,66,1]++R++xXH
inductive xkg (Tb:Qq) (vs:Sy) (H:Hp) (Q:VK) (QL:XK):Prop
 |mk (a:Qq) (T:LE) (h0:vs=F5) (h1:Υ=Hj) (h2:(D4)) (h3:yP) (h4:QX) (h5:Xx l Qq Y LE[Bv->xsf T Y->B0=Az xLR->(∀e o,xCu->T3->xED e)->xCd->B8]):xkg Tb vs H Q QL
def xso:XL ["text","presser","bale"] x3w xqU:=Tm
theorem xnD (hb:Dl F):∀(Rs:yO) i,i+Rs.length≤nb F->(∀j R,Vm->Bl F[i+j] R)->x97[69*Rs.length]
 | [],_,_,_=>B1
 |R::Rs,i,h,hR=>by
  show(HG Jn,υ h1[xnD hb Rs[i+1][EZ Dw Uf gc Uf h] λ j R' e=>by
   have:=hR[j+1] R' xLt;show LT[show i+1+j=i+(j+1) by show qL gc Dw Dw gc] this] h0[Bl F i R][hR 0 R rfl],h2=(h0.facts[xp9[by show(XO nb,Bj [_,_,_,_][UK xMX x5F][rz 64 SL][wK SB] SL[qJ h] DB)] hb]).2,AR Ky Jn,Bj [_,_,_] Ω[CN[XY 69] 69] WF[.m 69 xi] h1 h2)
def xzw.len (h:xzw A R)(hb:xJl):xwC 69:=by
 rcases h with⟨_,rfl⟩|⟨h0,h⟩
 ·decide
 ·exact(h.facts[xpZ hb h0]).2
def xf9 (F:Ο "pressed" xqU x3w)(Z:xZ3 c CK QP CO C)(hC:Vn)(hBm:jQ)(hK:yX):Cc 43 x3w[xkg Tb]:=by
 show(T0=Z.T,x3L,C6 Fe Z.feed Fi Z.finish,D1 xso[λ QE A outer st H vs Q E hr h=>?_],Fw a T rfl ha hb hl hT k,xDe hr7 7,Gw[ID 1 xso.nd[Q7[xid FI Z] hr7 T0.m bI bA] 2 xso.nd[xS7 T0.cl Fe[xbL Fe.F Z hC hBm hK] hr gP][Gz[rY Ζ[xxt τ T0.cl Fi[xcJ Fi.F Z hC hBm hK] hr]]]] Zk Ei)
 intro p dp np ndp nep;show(B9 s0[FN C np ndp][jE p dp ad[λ co ck H1 nco nck hP Tt=>xYl]],(s1:qa)=λ e o z=>SX[pH z][ai z np],Tl ncoH[Yf nco] WE x36);clear Tt s0;show(xEh Ei,((TF,wt1,gg1,RD,_,_),_)=id hP,VB (_,rfl,p,TF,_,rfl,RD,Ep,_,rfl,p,a,co,ck,[],false,T,rfl,hP,ay,hb,hl,xT9,λ l Rs H2 nl W0 hRs Q0 hP2 fr2 hT2=>A1),((Y3,wt2,gg2,Q1,_,_),_)=id hP2,A3 hRl'[x5h[nb T]][by
  show(RC[nb ([]:LE)=0],aG this Kq W0 W0)] hRs'[∀j R,Vm->Bl T j R][λ j R e=>gN[hRs j R e][BJ[nb ([]:LE)+j] j[Kq j]]] (_,rfl,_,rfl,p,Y3,_,rfl,Q1,Ep,p,co,ck,T,true,rfl,hP2,hl,hT2,λ l5 R H5 nl5 hLB hl5 fr5 hT5=>?_),xwM Tc[cj e xs[H2 e=Fh][mf/\xHP/\xHO/\xCu]][SZ[by
  show(((_,_,_,h,_,Yn),_)=hP2,xKk Uw Yn.ob WD Yn.ch,E3[wY h Xy][wY Uw Xy][wY WD Xy][hT2.ne z[xL0 y y]])]] m1 m2 m3 m4[Tc Q0],Tl hl25[xX0 _ m4 Q0 m1 m2 m3] hfl[xnD hb Rs 0[xX Re SL kM[IR hRl']] λ j R e=>LT Kq[hRs' j R e]],υ hRlen[hLB.len hb] hnb[nb T≤15][by show(ip,BM[zQ 64 [_,_] xWg xAS[.n 15] hl DB])],SC ht11[BD xXH 11] rfl (l,l5,_,_,rfl,rfl,hl25,hl5,bV[by
  show([IS,IS,IQ,IQ,IQ,ht11],tX[3+_+(0+_+11)],DE [_,_,_,_][ZY 69[Ρ[Ξ[FJ 69]]]][rz 69[ZY 69[BZ 69[.m 69[.n 15]]]]][.a yv[xK6[EL 0]]] Bc[IV 69[IR hRl']] hfl[IP hRlen[IV 69 hnb]])],UF l6 n6),Iu s6[Dn[A5[xLJ[mk false]]++A5[mk true++R++xXH]] n6] frA[∀e o,xCu->T3->xNG e][λ e o n z=>by
  show(De n1 e p[ai z np] n2 xHP[ai z ncoH],DC n3 xHO[ai z WE][xX0 _ n[fr2 _ _ n[IL z] n1 n2 n3] n1 n2 n3])][k l6 _ _[xqu hT5 frA n6] (Rs,R,hRl',hRs',hLB,rfl) ?_[λ e o n z=>kj[frA _ _ n z]][hT5.same s6]],[ad,-Ji]);show some[HO.lst[A5[xLJ [184,66,1]++([]++R++xXH)]]]=_;rw [Kd,<-IU]
universe K27.Ck
namespace HT
open PySem PySem.Spec PyProof.Rows
def xej {lo hi:UB}{Q:Ak}(ht:x5Z t)(hs:x0F vl vu .none)(pl:x2L lo)(pu:x2M hi)
  (hw:aF=0/\yfm jU) (h:Q Z1 s):uc[yeR Z1]:=by
 show Zl os hos Yi hds[id hs] hTs[s.TypeIs x1u "slice"] (os,hos,Yi);unfold getItem
 try with_reducible refine x76
 first|show Gp yG|skip
 show(qc[yf6 Z9 ?_][Lz (name:=yga) ht.typeIs KY
  (yjX KY ht.typeIs ?_[ygF _])],oP[yfY>>= _],qc[yhF ?_][yhG ?_],iS Z9[xlD hs pl pu ?_],(hyes:IC[xYA==0&&Il==1&&x2w[jU-aF]])=nQ hw.1 hw.2,xEu[xYA==0&&Il==1&&x2w[jU-aF]] _ _,iS hyes ?_,gD Builtin.Tuple.tupleIsExact[wpAny_typeOf ht.typeIs yG],iS[by rfl][Nf ?_])
 first|show Bw[BV[Jr h]]|show Bw[BV h]
universe HT
namespace L2
open PySem PySem.Spec PyProof.Rows QQ
def xdZ (K:Frag):V->UB->xZc:=λ x lo hi H Q=>∃a xs,x=AO/\xDM/\xCZ=0/\x0L xW9/\Fc AO
def xbM:xB1[xdZ X.K]:=by
 intro QD s σ H x v vl vu lo hi sl Q I rx hs pl pu h;show(XT a xs rfl hx h1 h2 q,Z2,aV r ht hz hx,SC hlen yjJ[LT Jj r.length.symm][TX "tuple" _ KY.lookup ht.typeIs],HT.xej ht hs pl pu[xZu (h1,h2)][Xw AO I q])
def xjj (K:Frag):R2:=λ x y H Q=>∃(p q:Qq) (ns ms:Za),x=FR/\y=ig/\w4 p Aq/\w4 q yav/\ns.length=ms.length/\wo[! CG ns ms]
def xpx {X:Cx}(hu:xO3):x2Y[xjj X.K]:=by
 intro QD s σ H x y v u Q I rx ry h;show((p,q,ns,ms,rfl,rfl,ha,hb,hl,k)=h,xHi,aV rv pl hz ha,(Rm,YN,X9,Vc)=I.tuple hb,Tl l1 rv.length l2 YN.length);rw [IS] at l1 l2;refine SeqAt.RcNeAt.tuples (e:=λ j=>CG ns[j]? ms[j]?) (x14 p pl)[x85 q Rm.toArray X9][tS [_,_] xM3 SB hu][Μ j h1 h2] _ _ _ _ ?_
 ·show(Sc j1[xAO j][by show(x4R,yc [_,_,_] tF Φ xTO h1)] j2[j<ms.length][yc [_,_,_] tF Φ yq j1],XH u1 e1 r1[xH9 j[V.int ns[(j)]][by simp [j1]]] u2 e2 r2[ydJ j (x:=V.int ms[(j)]) (by simp [j2])],Sc g1[xT2 j=u1][by
   show(xEX z e1,zk)] g2[x2O j=u2][by
   show(xEX z e2,zk)],[g1,g2],υ e[xux (A:=X.A.in1) (s:=s) r1 r2 rfl rfl] ee[eqV[V.int ns[(j)]][V.int ms[(j)]]=CG ns[j]? ms[j]?][by
   rw [IW j1,IW j2];show(ns[(j)]==ms[(j)])=_;show Di NS],Ε ee e e)
 ·refine yk[.bl _] I ?_ k;show xAh=xAh;congr 1;congr 1;rw [Jj,Jj,<-l1,<-l2,<-hl,Nat.min_self,NS];simp only [MW,Qa,ND,decide_eq_true_eq,beq_self_eq_true,and_true];show(ZU[SZ[K6[Hy j]]][λ z j _=>xQe],iq j ns.length q q)
  ·exact z j q
  ·rw [J6 q,J6[ED [_,_,_] EH DG SL Rd q]]
universe L2
namespace K27.Ck
open PySem L2 QQ W17 W16 BP
seal PE PA PS PSs PT PW PG PI
abbrev xvO:QC:=se 35 3
abbrev xvB:QC:=xWM 3
abbrev xrP:QC:=top 118
abbrev xrK:QC:=top 119
abbrev xq2:QC:=top 120
abbrev xrG:QC:=top 122
structure Prt (K:Frag)(mg:Ι)(C QP CO:Qq):Prop where
 H:xZh C QP
 R:Crs K mg C CO
 tuple:ycz
 mark:∃d,mg "MARK"=zm/\∀H,w4 d [xG5,xHZ,CC]
 signs:IE "BLOCK_SIGNS" 64
 tbytes:IE "TAIL_BYTES" 11
 headof:xIL "head_of" xyd
 bsize:Ν "block_size" xyr xF8
 nmark:Ν "need_mark" xrP xAV
 nexth:Ν "next_head" xrK x2D
 partat:Ν "part_at" xq2 Jai
 nlast:Ν "need_last" xrG xVI
 ctwin:XA "twin" "Check.twin" xvO
 otwin:aL CO "twin" "Course.twin" xvB
abbrev mk3:LE:=[184,66,1]
inductive xkd (cM:Qq) (vs:Sy) (H:Hp) (Q:VK) (E:XK):Prop
 |mk (a:Qq) (B:LE) (h0:vs=F5) (h1:Υ=uK) (h2:zF=xEW->vi) (h3:zF≠xEW->BB cM):xkd cM vs H Q E
def xkZ:XL ["bale","begin"] xAV xrP:=Tm
def xoe (F:Ο "need_mark" xrP xAV)(Z:xJN)(Er:Sd):xPf xAV[xkd cM]:=by
 show(x23,(d,hm,hd)=Z.mark,kz xkZ[λ QE A outer st H vs Q E hr h=>?_],vP a B ha k1 k2,hu=hr.units,Fx[DS 1 xkZ.nd[xLA xlA Z.tuple On[BO[kU Η[Ez xzA X.len OM[BO[xMM Ed hm]]]]]][ae[uD[HX[xpx hu] τ[xzb[SlR.or xcg xbM][xMM Ed hm] xtj[xxx[Ez xzA X.len OM oF]]]] Er.mM Er.xM]]][Wl (_,rfl,d,_,rfl,x4A H,_,rfl,a,_,rfl,QK.of ha,Ex)],(ec:cutV sO none[some[o7 ([xG5,xHZ,CC]:Sy)]]=xWP)=by rw [CA[pf ([xG5,xHZ,CC]:Sy)][ST 3],xxj,LO],dW,χ s1[wH zF nl][sV l _[Zp xFQ[λ t nt=>AA]]],CF,υ s2[xQS xWP] ht[jB[(Hf[dI zF] t xWP) t] xWP] ad,x4O Sv Fy[Hf[dI zF] t xWP] H2,A3 hl[EI zF 3][Gb G8] em[x65=xEW][by
  show iq B.length 3 q q
  ·rw [Jo[Jy q]]
  ·rw [Jc,J9 q,Jo[HA[zS 3]],Jo[dC[zS _] q]]] (_,rfl,_,rfl,t,_,rfl,.inr rR,_,rfl,?_),Sc inj[∀{u v:LE},(u.map xGu)=(v.map xGu)->u=v][jl[PJ (f:=λ b:Nat=>(b:Int)) (λ _ _ e=>Int.ofNat.inj e)|>.mp h]] fin[∀(q:Qq) (H3:Hp) (R:VK),xYe H3->QV K H3 q[A5 x65]->R[.bl[! CG zF xEW]] H3->xjj K Z1 ig H3 R][λ q H3 R s3 hq r=>by
  refine(t,q,ky zF,ky x65,rfl,rfl,?_,?_,?_,?_)
  ·show Bg iA[QV.of[Ge ht]]
  ·show Bg iA hq
  ·show Iv IS IS[Jc (l:=mk3)] (J9 hl).symm
  ·show LT[xJZ[CG[ky zF][ky x65]][CG zF xEW][xQq[Bg em[inj z]][by rw [em,<-z]]]] r],(fin2:∀{A B':Prop},((BB cM)->A)->((vi)->B')->Uc[! CG zF xEW] A B')=λ a b=>by
  by_cases e:zF=xEW
  ·show LT[IZ e][bp[b[k1 e]]]
  ·show xCX e[bZ[a[k2 e]]],[IS],iq (zF).length 3 q q)
 ·show xVB[vE d rfl[hd H2] ?_[UF p np]]
  ·rw [HT.RG];rintro⟨_,z⟩;show((z:min (zF).length 3=3)=z,BM[mh [_,_][tG Xg][BI Ω][IP q[ym z.symm G8]]])
  ·show LT xxj[fin p _ _[am np][QV.of[Ai ad LO]][BV[fin2[jl[X3[Sv.trans[am np]]]][jl[X3[Sv.trans[am np]]]]]]]
 ·show(SC q3[BD zF 3][IT hl q][.inr[zE d _ rfl[hd H2] ?_[fin d H2 _ Zi[LT q3[hd H2]][BV[fin2[jl[X3 Sv]][jl[X3 Sv]]]]]]],Ai HT.RG q3)
def xkb:XL ["row","many_signs","head"] x2D xrK:=Tm
def xu4:XL ["bale","place","many_signs","head_end","head","end"] Jai xq2:=Tm
def xhk:XL xVI xVI xrG:=Tm
inductive xmr (C:Qq) (vs:Sy) (H:Hp) (Q:VK) (QL:XK):Prop
 |mk (p dx:Qq) (s:Nat) (h0:vs=Cg) (h1:G5[xXZ s]) (h2:∀x dk H',B7 x->Χ->je[H' x] C dk[xXZ s]->oA E4):xmr C vs H Q QL
def xmi:xzZ ybp xvO:=Tm
def xav (F:Bq "twin" "Check.twin" xvO)(Z:Chk K mg C):rm 4[xmr C]:=by
 show((X,T,(_,_,W),_,_,_,(_,_,_,FI,bI,M),_)=Z,D2 xmi[λ QE A outer st H vs Q E hr h=>?_],xv0 p dx s rfl hp k,Fx[DP 1 xmi.nd[xxg M[ybD W T X] hr Z7 T.m bI .nil bA xGS] xWA τ] (_,rfl,p,C,dx,_,_,rfl,hp,T.cl,T.nW,xnA _ _,λ x dk nx Yg nek=>?_),χ s0[xI5 C][Hx x dk 16 45 wp16 ad[λ H1 hx kp=>Ej]],SC s1 qa[λ b o e=>kp b o xSd xBy] (_,rfl,p,C,dx,_,_,rfl,kY,T.cl,T.nS,xqm _ _,_,rfl,x,C,dk,_,rfl,hx,T.cl,T.nS,xiD _ _,?_),LT xiB[BV[k x dk _ nx[λ c o e=>Eh nx HC] ad]])
def xdU (b m)(ck ck' g):xz3 ck' zA=fO b m ck' g:=by
 show DY[xFf pD][xPq::DY[xFf pC][G7 pC m::yN[xFf xKu]]]=_;show gA[Jk xoM][Jk FM] CD
inductive xlg (CO CK:Qq) (vs:Sy) (H:Hp) (Q:VK) (QL:XK):Prop
 |mk (p ck g:Qq) (S G:LE) (b:Nat) (h0:vs=Cg) (h1:fU H p g S b G) (h2:∀p' ck' g' H',B7 p'->B7 ck'->B7 g'->x9c H' p' ck' g' S b G->Χ->oA[.ref p']):xlg CO CK vs H Q QL
def xmj:xzZ ybp xvB:=Tm
def xhD (F:Bq "twin" "Course.twin" xvB)(Z:ycF CK):rm 6[xlg CO CK]:=by
 show(Tl R Z.R CT R.Y.Z.T,fh R.init,C6 Tw Z.ctwin Wi R.win,D2 xmj[λ QE A outer st H vs Q E hr h=>?_],(p,ck,g,S,G,b,rfl,hC,k)=h,A3 W8[Dk 4] CJ QW F9 CJ[Gy[Gn 1 xmj.nd[Q7[xqv FI R] hr R.m bI bA] xWA[ac xWA
  (ac[xVK[x7g CT.cl Tw[xav Tw.F R.Y.Z] W8]]
  (yj[xVK[zX Η R.cl Wi[ye2 R]]] τ))]]])
 intro x dk nx Yg nek;show(χ s0[xI5 CO][jE x dk ad[λ ck1 g1 H1 nck ng hC1 Tt=>Ej]],(s1:qa)=λ b o e=>Tt b o xSd xBy,DW dx hp hC.ob dck WD hC.ch,(TF,W6)=hC1.ob);clear s0 Tt Yg nek;show((YO:xZU)=x7i,χ RD kY (_,rfl,p,CO,dx,_,_,rfl,RD,R.cl,R.nB,xo7 _ _ _ _,_,rfl,x,CO,TF,_,rfl,W6,R.cl,R.nB,xD7,?_),Γ xjM (_,rfl,p,CO,dx,_,_,rfl,xk YO RD,R.cl,R.nM,xuT _ _ _ _,_,rfl,x,CO,TF,_,rfl,ad,R.cl,R.nM,xD7,?_),[xja,xwQ],Sc s2[gk[Xh H1 x CO x4f]][λ c o e=>Eh nx HC] hx2[je[(Xh H1 x CO x4f) x] CO TF x4f] ad,Cz[Xh H1 x CO x4f] H2 (_,rfl,p,CO,dx,_,_,rfl,ES hp,R.cl,R.nC,xoP _ _ _ _,ck,dck,_,rfl,ES WD,xRw,ck,dck,_,rfl,ES WD,λ c dc H3 nc s3 hc=>?_),qm ncx[FL x][sF hx2 nc] (_,rfl,x,CO,TF,_,rfl,Ge hx2,R.cl,R.nC,xD7,?_) xdU,Sc s4[gk[Xh H3 x CO xXA]][λ c o e=>Eh nx xIs] hx4[je[(Xh H3 x CO xXA) x] CO TF xXA] ad,xAI hc4[je[(Xh H3 x CO xXA) c] CK dc[xXZ[cD S]]][xk ncx hc][Xh H3 x CO xXA] H4,SC hC4[fU H4 p g S b G][xHf c o e[X4 e]] (_,rfl,p,dx,_,rfl,X4 hp,xEa,p,ck,g,S,G,b,rfl,hC4,Ex),DF s5[Dn FE nl] hl5[(IJ H4 FE) l=Az FE] ad nlx[XB x][TQ hx4],Cz[IJ H4 FE] H5 (_,rfl,x,CO,TF,_,rfl,Bn hx4,R.cl,R.nG,xD7,?_),LT xuZ[BV[k x c l _ nx[none_of s2 nc][Fd s4] ((TF,ad),(dc,xk ncx[Bn hc4]),xk nlx hl5,hC.byt) λ c o e=>Eh nx[xXr e]]])
abbrev xqI:QC:=xG7 0
abbrev xvm:QC:=xG7 1
abbrev xvt:QC:=xG7 2
abbrev xvk:QC:=xG7 3
abbrev xr7:QC:=xG7 4
abbrev xqO:QC:=xG7 5
abbrev xvs:QC:=xG7 6
structure CRe (K:Frag)(mg:Ι)(C:Qq):Prop where
 cl:Es
 nC:f9 "course"
 nW:ykL
 nB:f9 "begun"
 nF:yjM
 m:mg "Reading"=zl
structure xtq (K:Frag)(mg:Ι)(B D Gx CW C0 C1 C2 C3 CK QP CO C G Ce cM cH cK cT:Qq):Prop where
 er:Sd
 pr:ycF CK
 bk:Tbk K mg CK QP C G C0 C1 C2 C3
 wl:xJY Gx
 tt:CRe K mg Ce
 take:IG[xW3 "take_block" xrZ ybM f fd]
 init:IG[yhV xqI/\xNl/\xVM Ce]
 twin:aL Ce "twin" "Reading.twin" xvm
 mark:aL Ce "read_mark" "Reading.read_mark" xvt
 tail:jV Ce "read_tail" "Reading.read_tail" xvk x2a
 block:jV Ce "read_block" "Reading.read_block" xr7 ybr
 parts:aL Ce "read_parts" "Reading.read_parts" xqO
 thru:jV Ce "go_through" "Reading.go_through" xvs Jal
structure xsv (Ce CO CK:Qq)(H:Hp)(p co ck g wt:Qq)(S:LE)(b:Nat)(G W:LE)(bg fn:Bool):Prop where
 ob:∃dx,xh p Ce bX
 cr:lO H g S b G
 ws:H wt=vZ
def xsv.ne (h:xJ3 S b G W bg fn):vj co/\x7O/\vj g/\x66/\wt≠co/\wt≠ck:=by
 show(xz0 dx hp hw h,xKk Uw hC.ob WD hC.ch,(A4,A4,fD hC.gr A2,fD hw A2,aJ hw Uw A2,aJ hw WD A2))
 ·show(gH hp Uw,xKQ Uw Uw Uw _ _ z);cases(x3k x9F)
 ·show(gH hp WD,xKQ WD WD WD _ _ z,xNK z,xMs)
def xyA.off (h:lO H g S b G)(s:∀c o,Ψ->CY->Cf)(h1:vj co)(h2:x7O)(h3:vj g):lO H' g S b G:=h.keep λ c o e hc=>s c o e[by rcases hc with rfl|rfl|rfl<;>assumption]
inductive xjV (Ce CO CK:Qq) (vs:Sy) (H:Hp) (Q:VK) (QL:XK):Prop
 |mk (p dx:Qq) (h0:vs=Cg) (h1:xh p Ce []) (h2:∀co ck g wt H',B7 co->xW7->uw H' g wt [] 0 [] [] false false->lN[Ψ->CY->Cf]):xjV Ce CO CK vs H Q QL
def xiS:gQ xqI:=Tm
def xnb (F:yhV xqI)(T:CRe K mg Ce)(R:xDW):rm 6[xjV Ce CO CK]:=by
 show(fh R.init,D2 xiS[λ QE A outer st H vs Q E hr h=>?_],yV p dx hp k,D9[nZ[Q7[xqv FI R] hr R.m bI bA][nZ rE[xCD cu cu]]])
 intro x dk nx Yg nek;show(Iu s0[xI5 CO] YO xZU x7i[jE x dk ad[λ ck g H1 nck ng hC Tt=>Ej]],DF RD[SX[pH hp] YO] k1[∀b o,zc->xRm][λ b o e=>SX iE xBy] WE xW7 x36);clear Tt s0;show((_,rfl,p,Ce,dx,[],rfl,RD,T.cl,T.nC,xEt,?_),Sc Q1[AX[(xRu y6) p] Ce y6] ad k2[∀b o,xRm->xR2[(xRu y6) b]][λ b o e n=>Xz e],Cz[xRu y6] H2[nU Z9 wt nwt],fw s3 [] nwt hw3[kS H2 wt [] wt=Az []],υ RE[Ge Q1] nwp x66[sF Q1 nwt],Cz[Fj H2 wt []] H3 (_,rfl,p,Ce,dx,_,rfl,RE,T.cl,T.nW,pk,?_),Tl Td[dw "course" E4 []] Q0[ykb yeq y6],υ RV[dw "begun" XS[x19 wt y6]] hl0[BD ([]:ug) 0] rfl,ω (_,rfl,p,Ce,dx,_,rfl,ad,T.cl,T.nB,(Bx [_,_,_][Ξ EH][Fg[Y9 Β]] SB Dm Td Q0[IR hl0]),?_) (_,rfl,p,Ce,dx,_,rfl,ad,T.cl,T.nF,(Bx [_,_,_,_][Ξ x5t][Fg[gK[Y9 dQ]]] SB Dm Td Q0[aM RV hl0]),?_),[xwQ,xwQ,xwz],SC k3[∀b o,xRm->xR2[(xBI H3[yae x wt]) b]][λ b o e n=>Xz[Ge[k2 _ _ e n]]][k x ck g wt _ nx WE[TU ad[hC.off k3 YO.symm[SZ[FZ hp WE WE]][SZ[by have:=hC.gr;show Tg RD]]][Δ nwp hw3]] λ b o e n=>og[k1 _ _ e] n])
def xd4 (co co' wt)(bg fn):BG "course" co' bX=xx6 co' wt bg fn:=zG[yN[pE="course"]=_] CD
inductive xjY (Ce CO CK:Qq) (vs:Sy) (H:Hp) (Q:VK) (QL:XK):Prop
 |mk (p co ck g wt:Qq) (S:LE) (b:Nat) (G W:LE) (bg fn:Bool) (h0:vs=Cg) (h1:xJ3 S b G W bg fn) (h2:∀p' co' ck' g' X7 H',B7 p'->B7 co'->B7 ck'->x9e H' p' co' ck' g' X7 S b G W bg fn->Χ->oA[.ref p']):xjY Ce CO CK vs H Q QL
def xj5:xzZ ybp xvm:=Tm
def xh1 (F:Bq "twin" "Reading.twin" xvm)(Z:vR):rm 8[xjY Ce CO CK]:=by
 show(Tl T Z.tt X Z.pr.H.N.X,x3L,x1K Tw Z.pr.otwin xj5[λ QE A outer st H vs Q E hr h=>?_],(p,co,ck,g,wt,S,b,G,W,bg,fn,rfl,((dx,hp),hC,hw),k)=h,A3 hr7[Dk 7] CJ hr6[Dk 6] CJ[Gy[Gn 1 xj5.nd[Q7[xnb FI T Z.pr.R] hr7 T.m bI bA][xVK[ykT Tw[xhD Tw.F Z.pr] hr6]][ac[xVK[xPr xGS]]
  (ac xWA
  (yj xWA τ))]]])
 intro x dk nx Yg nek;show(χ s0[xI5 Ce][jE x dk ad[λ co1 ck1 g1 wt1 H1 _ _ h1 Tt=>Ej]],xMv s1 qa[λ b o e=>Tt b o xSd xBy] TF W6 h1.ob);clear s0 Tt Yg nek h1;show(sL dxo Uw hC.ob (_,rfl,p,Ce,dx,_,_,rfl,kY,T.cl,T.nC,xD9,co,dxo,_,rfl,IL Uw,xEa,co,ck,g,S,G,b,rfl,xHf c o e HC,λ co2 ck2 g2 H2 nco nck ng Y0 s2=>?_),De nxo co2 x[sF W6 nco] nxk[ck2≠x][sF W6 nck],qm nxg[g2≠x][sF W6 ng] (_,rfl,x,Ce,TF,_,rfl,ES W6,T.cl,T.nC,zK,?_) xd4,Sc s3[gk[Xh H2 x Ce xZG]][λ c o e=>Eh nx[ES HC]] hx3[je[(Xh H2 x Ce xZG) x] Ce TF xZG] ad,(hC3:x9c[Xh H2 x Ce xZG] co2 ck2 g2 S b G)=Y0.off[λ c o e n=>Xz e] nxo nxk nxg,Cz[Xh H2 x Ce xZG] H3 (_,rfl,p,Ce,dx,_,_,rfl,Ge hp,T.cl,T.nW,oZ,wt,_,rfl,BN[Ge hw],Ex),DF s4[Dn lW nl] YV[(IJ H3 lW) l=vZ] ad nlx[XB x][TQ hx3],Tl hC4[hC3.keep λ c o e _=>X4 e] s4 xFi,(hx4:(IJ H3 lW) x=_)=xk nlx.symm hx3,az H3 l lW H4,SC YO xZU x7i (_,rfl,x,Ce,TF,_,rfl,hx4,T.cl,T.nW,zK,?_),Γ xyO (_,rfl,p,Ce,dx,_,_,rfl,xk YO[X4 hp],T.cl,T.nB,zn _ _ _ _,_,rfl,x,Ce,TF,_,rfl,ad,T.cl,T.nB,zK,?_),rK xui xwQ (_,rfl,p,Ce,dx,_,_,rfl,xk YO[X4 hp],T.cl,T.nF,xD8,_,rfl,x,Ce,TF,_,rfl,ad,T.cl,T.nF,zK,?_),XV xum xwQ[BV[k x co2 ck2 g2 l _ nx[xFA nco][xFA nck] ((TF,ad),hC4.off[λ c o e n=>Xz e] nxo nxk nxg,Δ nlx YV) λ c o e=>Eh nx[X4 e]]])
inductive xjW (Ce CO CK cM:Qq) (vs:Sy) (H:Hp) (Q:VK) (E:XK):Prop
 |mk (p co ck g wt:Qq) (S:LE) (b:Nat) (G W:LE) (h0:vs=Cg) (h1:xJ3 S b G W false false) (h2:W.take 3≠yhm->BB cM) (h3:W.take 3=yhm->W.length<3->vi) (h4:∀Y X7 H',W=184::66::1::Y->uw H' g X7 S b G Y true false->lN[Ψ->CY->Cf]):xjW Ce CO CK cM vs H Q E
def xa0:gQ xvt:=Tm
def xgV (F:Bq "read_mark" "Reading.read_mark" xvt)(Z:vR):pS 32 Jab[xjW Ce CO CK cM]:=by
 show(Tl T Z.tt X Z.pr.H.N.X,(_,_,Nm)=Z.pr.nmark,(d,hm,hd)=Z.pr.mark,TZ xa0[λ QE A outer st H vs Q E hr h=>?_] _,(p,co,ck,g,wt,S,b,G,W,rfl,hR,kE,k0,k)=h,(n1,n2,n3,n4,_)=hR.ne,xz0 dx hp hw hR,Gw[Fm[vL[xoe Nm Z.pr Z.er] Nm.m Nm.F.kp Nm.b xGS][xQg[HX xwy x5q[lX[xMM Ed hm]]][xCD cu[qd B5[lX[xMM Ed hm]]]]]] (_,rfl,p,Ce,dx,_,_,rfl,hp,T.cl,T.nW,oZ,wt,W,rfl,hw,Μ h3 H1 s1,kE) (_,rfl,p,Ce,dx,_,_,rfl,kY,T.cl,T.nW,oZ,wt,_,rfl,BN x7H,d,_,rfl,x4A H1,_,_,rfl,rfl,_,rfl,xRD[jl[k0 h3[Lr[SZ[h[IZ ?_]]]] _ s1]]))
 rotate_left
 ·show(EF IS[A6 3≤_],kX[HH DH Re DH Re z])
 show(Dd h rC IS h,(h:zS W.length)=by
  have:A6 3≤xTM:=h;show qZ DH DH[yad this],vk Y Y[W=184::66::1::Y] (W.drop 3,jL[JJ 3 W] h3[Jo h] this.symm),(_,rfl,p,Ce,dx,_,rfl,kY,T.cl,T.nB,zK,?_),Γ xui (_,rfl,p,Ce,dx,_,_,rfl,ad,T.cl,T.nW,oZ,d,_,rfl,x4A _,_,rfl,wt,_,rfl,QK.of[xk n4 x7H],Ex),(ec:xSM[A5[184::66::1::Y]][o7 ([xG5,xHZ,CC]:Sy)] none=xLR)=xxl _ 3,dW,qm Tc xHJ[SZ[FZ ad nl nl]] (_,rfl,p,Ce,dx,_,rfl,xk Tc.symm ad,T.cl,T.nW,zK,?_) xyO,DC kp[∀c o,Ψ->px[xBI[IJ[xRu yc2] xLR][xEL l true false] c]][λ c o e n=>by
  show((h1:Gr[(xRu yc2) c])=tJ HC,XV zi[xIo h1 nl] h1)][k Y l _ rfl[TU ad[x2S n1 n2 n3][xk Tc ad]] kp])
inductive xjX (Ce CO CK cT:Qq) (vs:Sy) (H:Hp) (Q:VK) (E:XK):Prop
 |mk (p co ck g wt a:Qq) (S R:LE) (b:Nat) (G W:LE) (h0:vs=Tr) (h1:xJ3 S b G W true false) (h2:Υ=nN) (h3:R=Yx->vg[uw H' g wt S b G W true true][lN[Ψ->CY->Cf]]) (h4:R≠Yx->BB cT):xjX Ce CO CK cT vs H Q E
def xa9:XL x2a x2a xvk:=Tm
def xg5 (F:Bq "read_tail" "Reading.read_tail" xvk)(Z:vR):xPf x2a[xjX Ce CO CK cT]:=by
 show(xBO Z.tt,(_,_,Ta)=Z.pr.R.tail,TZ xa9[λ QE A outer st H vs Q E hr h=>?_] _,(p,co,ck,g,wt,a,S,R,b,G,W,rfl,hR,ha,k,kE)=h,(n1,n2,n3,n4,_)=hR.ne,xz0 dx hp hw hR,χ hu hr.units[Gy[ac[uD[HX xVY τ[ykT Ta[xmB Ta.F Z.pr.R] CJ]] Z.er.mT Z.er.xT]
  (xFy cu)]],sL dxo Uw hC.ob (_,rfl,_,rfl,p,Ce,dx,_,_,rfl,hp,T.cl,T.nC,xD9,co,dxo,_,rfl,Uw,xEa,co,ck,g,S,G,b,rfl,hC,λ l H1 nl s1 hl=>?_),WZ=ay);rw [iA] at WZ hl;show tI (a,l,_,_,rfl,rfl,QK.of WZ,x22,_,rfl,?_)[xJZ[CG x2H[ky Yx]][CG R Yx][xQq[PJ[λ _ _ z=>Int.ofNat_inj.1 z]|>.1 z] xQe]];by_cases e:R=Yx
 rotate_left
 ·show xCX e[bZ[kE e _ s1]]
 show(Γ[IZ e][bp (_,rfl,p,Ce,dx,_,rfl,kY,T.cl,T.nF,zK,?_)],[xum],DC kp[∀c o,Ψ->px[(xRu[xLU true]) c]][λ c o e n=>tJ HC][k e _[TU ad[x2S n1 n2 n3][Bo hw n4]] kp])
def xkD:XL[xAj "block" "text"] ybr xr7:=Tm
def nB (T:LE):Nat:=(T.length+63)/64
def xse (T:LE)(Rs:yO):Prop:=x5h DJ/\∀j R,Vm->Bl T j R
abbrev tl (T:LE):LE:=xXH
def xsf.all (h:xsf T Z):∃Rs,Ff/\Z=184::66::1::(xXq):=by
 show xv0 Rs R hl hRs hL rfl;unfold nb at hl;rcases hL with⟨h0,rfl⟩|⟨h0,pb⟩
 ·show Dj Rs (by show(ir,BW[zQ 64 [_,_,_,_][xFX[.a[AS[ud 63]] gv]][xOG[yt xWr]] SL[qJ yq][IP zV DB]][Zc 64 [_,_,_,_,_][xOG[BE[x1Y Rn]]][xFX[xDs[.a[XN 4 63][xOG Cv]]]] SL Re[qJ Rd][ym h0[aM DB (LL _ _).symm]]]),hRs)[Ar JM]
 ·show(pJ[Rs++[R]] (by show(EF IQ[_+1=_],ir);lia,fK j R')[Di Ld],iq j Rs.length h h)
  ·show Ε[JP h] e[hRs j R' e]
  ·show(xU[Jz h] e hj[j-Rs.length=0][xS5[UJ e]],yb hj,Hu[j=nb T][by show(ip,El[G6 [_,_,_,_][Aw iV][Ξ[xDs xY]] SL yq[IR hj] W1] [_,_,_] Φ HM SL Rd h)])
   unfold Bl blk;show LT[Jo[by show([Je],ip,Bg OD[Jy xG9])]] pb
def xs8 (h:64*i<F.length)(hb:Dl F):TW xIk xZQ:=DC hl[BD xIk[min 64[F.length-64*i]]][jb blk Jc Je] (LB[JZ gw],by lia,ED [_,_] WF[sN 64] XR yq G8,LB[JK xBr],xva[Jy h])
def rem (T:LE)(Rs:yO)(j:Nat):LE:=(x2o).flatten++Gd
def xxX (h:Vm):xID=R++jC[j+1]:=by
 show(Ik h'[xZ7 h],Up rem[Kt h'] Ky IU)
def xyB:xzZ ["self","signs","place","part","row"] xqO:=Tm
abbrev xq7:QC:=uG 127
abbrev xvq:QC:=uH 127
abbrev xvl:QC:=dN 127
abbrev xup:QC:=se 127 3
abbrev xvo:QC:=top 128
def xwR (r:Qq):ug:=[(("reading",eF))]
def xul (r):BG "reading" r []=xwR r:=rfl
def xjC (r):lh[xwR r] "reading"=xJf:=xHg xul ar
def xof (r){x:Str}(h:pz[x="reading"]):o4[xwR r] x:=by
 rw [<-xul,ar,Jk h];rfl
def xes (r r'):BG "reading" r'[xwR r]=xwR r':=zG[yN[Ig "reading"="reading"]=_] CD
structure COp (K:Frag)(mg:Ι)(C:Qq):Prop where
 cl:Es
 nR:f9 "reading"
 m:mg "Opener"=zl
 init:IG[yii xq7/\xNl/\Sq]
 feed:jV C "feed" "Opener.feed" xvq Jal
 over:XA "over" "Opener.over" xvl
 fin:XA "finish" "Opener.finish" xup
def xj4:XL[xAj "row" "signs"] Jal xvs:=Tm
def xap:gQ xq7:=Tm
def xu3:XL ["self","row","come","trial","signs"] Jal xvq:=Tm
def xa7:gQ xvl:=Tm
def xaO:gQ xup:=Tm
def xsi:XL ["row","opener","text"] Jam xvo:=Tm
theorem xse.facts (hb:D4)(hl:yP)(h:Ff):X1 xXq/\x97 1300:=by
 show A3 hf[∀j (hj:x4u j),me Rs[(j)]/\EI Rs[(j)] 69][λ j hj=>(bw j _ xNR).facts[xs8[by show xw7 EO;unfold nB at hj;show Bj [_,_,_][UK SB gv][xOG xBv][AS xKS] SL[qJ hj] DB] hb]] QZ[∀R∈Rs,me R/\xwC 69][λ R hR=>by
  show(Dr j hj[Pj hR],hf j hj)][FQ xIH]
 ·show aQ hx
  ·show Ie R hR hx[List.mem_flatten.1 z][(QZ R hR).1 x hx]
  ·show(xvv[UF b RJ] x z,sJ RJ RJ RJ)
   ·show sJ RJ RJ RJ
    ·exact xIj b RJ
    ·exact xtJ _ b RJ
   ·exact dR xHa b RJ
 ·have h1:∀L:yO,uB R L[xwC 69]->L.flatten.length≤69*L.length:=λ L=>by
   induction L with
   |nil=>exact λ _=>B1
   |cons R L ih=>
    intro h;have:=ih λ R' Yk=>lS R' Yk
    have:=yT R;show AR Ky Jn;lia
  have:=h1 Rs λ R hR=>(QZ R hR).2
  show(h2=EO,xMR nB,BM[zQ 64 [_,_,_,_][zx 69[xFX[ZY 4416[.m 69 x5F]]]][DT 69 Dm[UK[XY 69][rz 4416[.m 69 xBv]]]][.n 1300][IV 69 hl][IP[qJ this][oM 4416[IR h2][IV 69 DB]]]])
def xxp {a b c:Nat}(h:a^^^c=b^^^c):a=b:=by
 show wL (·^^^c) h;simp only [LM,NK,Nat.xor_zero] at this;show xMu
def xon (hw:xDZ)(ha:a<2^w)(hb:b<2^w)(h:a≠b):yf n a≠yf n b:=λ e=>by
 show(yaL h1 h2 h3,Wv[yf n[a^^^b]=0][by rw [CK.xrz,e,NK]],HI[CK.Tn_inj[Ja[by decide] h1] h2 h3[Kw ha hb] e2][h[xxp[this.trans (NK b).symm]]])
def xgn (hw:xDZ)(h:xDr):x*2^(w-8)<2^w:=by
 rcases hw with⟨rfl,rfl⟩|⟨rfl,rfl⟩<;>simp<;>lia
theorem ut (hw:xDZ):∀(D:LE) (s t:Nat),s<2^w->t<2^w->s≠t->(xCy d D d)->xRF D≠xHj t D
 | [],_,_,_,_,h,_=>h
 |d::D,s,t,hs,ht,h,hD=>by
  show(Tl hd[xX2[hD d Jl]] hp yaP,HU[ut hw D[zj s d][zj t d][xMg[xHY hd]][xMg[Kw ht hd]][xon hw[xHY hd][Kw ht hd] λ e=>h ?_][DX[hD x xM5]]][xxp e])
def xcY (hw:xDZ)(hA:xCy d A d)(hx:xDr)(hy:By y)(h:x≠y)(hD:xCy d D d):Uo[A++x::D]≠Uo[A++y::D]:=by
 show Hs hs[xtg hw hA] h1[xX2 hx] h2[xX2 hy] hp yaP;unfold chk crc;show rK Lx Lx[ut hw D _ _[xMg[xHY h1]][xMg[xHY h2]][xon hw[xHY h1][xHY h2] λ e=>h ?_] hD];rw [Nk,Nk[List.foldl _ _ _]] at e;show aH e[xxp e][Nat.eq_of_mul_eq_mul_right[LF[by decide]] e]
def xch {L:LE}(hk:pB k)(h:v≠L[(k)]):L.set k v≠L:=λ e=>by
 show(wL[λ l=>l[k]?] e,aG[KO hk][IW hk] this[h[JA this]])
def pp {L:LE}(hL:xJw)(hv:By v):Dl[L.set k v]:=DX[by
 rcases List.mem_or_eq_of_mem_set hx with z|rfl
 ·exact hL x z
 ·exact hv]
def xph (hN:Ff):jC DJ=Gd:=xG6 rem[Lj[IR Ap]]
abbrev bale (T:LE)(Rs:yO):LE:=GF xOY
def xfp (hN:Ff)(hb:D4)(hl:yP):X1 Gl/\BQ≤1900:=by
 show sL h1 h2[x1T hl][FQ xIH]
 ·show aQ[Dx x[GF[xXq]] hx]
  ·exact(by decide:Dl mk3) x z
  ·exact h1 x z
 ·show DV Rs.flatten Gd+3≤1900;show(EF IQ[_+11+3≤1900],yr 1300[fz x51] xF3 h2)
def Fits (S:LE)(b z e:Nat):Prop:=Zr z≤e/\Hh/\z8 b
inductive CpX (ok:Bool) (R:LE) (e:Nat):DQ[LE->cI LE]
 |done {t:Nat} {S:LE}:AB->xA8 e->xRM t S t S
 |sg {t t':Nat} {S S':LE}:tR->XE[t+9]->xBK 1=0->xRM[t+9][S++[yS[t+1]]] t' S'->xRM t S t' S'
 |cp {t t':Nat} {S S':LE}:tR->XE[t+13]->xBK 1=1->(x6Q[yS[t+1]][TP[t+9]+3] e->xRM[t+13][cpy S[yS[t+1]][TP[t+9]+3]] t' S')->(¬x6Q[yS[t+1]][TP[t+9]+3] e->xB6)->xRM t S t' S'
def CpX.le (h:xRM t S t' S'):x3h e:=by
 cases h<;>first|exact IR Z3|exact Jy Z3
inductive xln (cB:Qq) (vs:Sy) (H:Hp) (Q:VK) (E:XK):Prop
 |mk (a:Qq) (xs:Sy) (s e:Nat) (h0:vs=[AO,Iq,vN e]) (h1:Υ=Fh) (h2:xUr s≤e->xJq) (h3:e<xUr s->xzU cB H):xln cB vs H Q E
def xhA (F:Ο "need_room" xtN xF4)(Z:xJH)(mB:xK4=xX8)(xB:xYs):xPf xF4[xln cB]:=by
 show(kz xnr[λ QE A outer st H vs Q E hr h=>?_],Fw a xs s e rfl ha k kE,jJ[uD[qO[Gi[ycr Η] τ] Ζ] mB xB] (_,rfl,a,_,rfl,BN ha,_,rfl,_,_,rfl,rfl,_,rfl,_,_,rfl,rfl,_,rfl,xYV[kE[lz rC]][jl[k[JX[SZ[h[IZ[xn z]]]]]]]))
inductive spLayE (cB:Qq) (vs:Sy) (H:Hp) (Q:VK) (E:XK):Prop
 |mk (l:Qq) (S:LE) (b z e:Nat) (h0:vs=[Ct,qR,vN z,vN e]) (h1:pV=y0) (h2:IK e) (h6:x6Q b z e->xAC[dI[cpy S b z]]) (h7:¬x6Q b z e->xzU cB H):spLayE cB vs H Q E
def xpq (F:Ο "lay_copy" xqQ xUP)(Z:xJH)(mB:xK4=xX8)(xB:xYs):pS 32 xUP[spLayE cB]:=by
 show(C6 Nr Z.room Ac Z.add,Tl GN[xhA (P:=P) (w:=w) (base:=base) Nr Z mB xB] GA[xgI (P:=P) (w:=w) (base:=base) Ac Z.X],kz xdr[λ QE A outer st H vs Q E hr h=>?_],(l,S,b,z,e,rfl,hl,he,k,kE)=h,xEi,Fx[Fm[vL GN Nr.m Nr.F.kp Nr.b[Wt 0 2 3]][ac[uD[zo[CE τ][qO τ[ycr Η]]] mB xB]
  (rD[Br GA Ac[Wt 0 1 2]])]] (_,rfl,_,rfl,_,rfl,l,_,z,e,rfl,hl,Hy hz,λ hz=>kE[mZ q DO[xAc[Ε IS hz hz]]]));rw [IS] at hz;refine tT[xYV Zy aX]
 ·show DC h0[b=0][Int.ofNat.inj[V.int.inj rC]][kE[mZ q h0[K4[AV q]]]]
 rename_i hb0
 show SC Rl Hh[Nat.one_le_iff_ne_zero.2[SZ[hb0[LT z gU]]]] (_,rfl,_,rfl,l,_,rfl,BN hl,_,_,rfl,rfl,_,rfl,xRD aX)
 ·show x3 rC IS[kE[EA[xAc xwJ[EU q]]]]
 rename_i hb3
 show DC Tf[z8 b][JX[SZ[hb3[IZ[Gk[xn z]]]]]] (_,rfl,_,rfl,_,rfl,l,S,b,z,rfl,hl,Rl,Tf,IY hz he,k (hz,Rl,Tf))
inductive xks (ok:Bool) (cB C:Qq) (vs:Sy) (H:Hp) (Q:VK) (E:XK):Prop
 |mk (o r d x:Qq) (R W S:LE) (n t':Nat) (h0:vs=[Gv,eF,F6,E4]) (h1:rJ H 0) (h2:uQ=vZ) (h5:xVS uv 0 W t' S) (h6:wV) (h7:sr) (h8:AB->tE[B0=BA xTe->rJ H' t'->(∀c o,Ψ->ZN->Cf)->B8]) (h9:xB6->vg[∀c o,Ψ->ZN->Cf][xKX cB]):xks ok cB C vs H Q E
inductive IcpE (ok:Bool) (C:Qq) (H:Hp) (o r d x:Qq) (R W S':LE) (n t':Nat) (l:Qq) (m:Nat) (σ:St) (H2:Hp):Prop
 |mk (v7:EY) (v8:EY) (S:LE) (t:Nat) (h0:m=uv-S.length) (h1:xVS uv t S t' S') (h2:σ=[xJg,xJf,Α n,RH,qB,Α W.length,Α uv,v7,v8]) (h3:Vw=y0) (h4:rJ H2 t) (h5:∀c o,Ψ->ZN->ZL):IcpE ok C H o r d x R W S' n t' l m σ H2
def xfH (F:x7J "CopyWay.read" xrB)(Y:xJH)(Z:xJW)(mB:xK4=xX8)(xB:xYs):pS 33 Jad[xks ok cB C]:=by
 show(xVC,xTi Tk Z.tk,Tl GT[xW6 P w] TR Z.T,C6 La Y.lay Ao Y.ahead,Tl GA[xoc (P:=P) (w:=w) (base:=base) Ao X] GL[xpq (P:=P) (w:=w) (base:=base) La Y mB xB],(tl,hle)=X.least,TZ xy8[λ QE A outer st H vs Q E hr h=>?_] _,(o,r,d,x,R,W,S',n,t',rfl,hR,hx,hk,QY,hW,k,kE)=h,A3 RW hV CJ QW F9 CJ[Gy[ID 4 xy8.nd[yU GA Ao 3] 5 xy8.nd xMW[DP 6 xy8.nd[Gi qK Ζ][xzG OH[ZS xMW jy]
   (vm[CE xWQ][rD[fP Bb xWQ]][ID 7 xy8.nd xWQ 8 xy8.nd[Gi xWQ xPm][rD[vL GL La.m La.F.kp La.b[XM 4[Wt 7 8 6]]]]])][qd Bb qK]]]],((dx0,X'),hd0,_,_)=xXY,(no:∀t,Θ x6t)=λ t=>jk,xEh Ei,VB[zE _ rfl x W hx xRi],De S9 l r xWm Ui Tn xVk,tW[ZC l[BN ad] A1],Aj)
 try dsimp only
 show(Γ IS Ei,SC e0[xTM+BU=ST uv][S2 xAq xAq][F1 _ rfl _ _ _ rfl rfl A1],Aj)
 try dsimp only
 show([e0],tW[Cm[IcpE ok C H o r d x R W S' n t' l] (n,none,none,W,0,Em HM Φ Re SL W1[EZ Φ HM SL Re[NL.J'[Iz SL Ω]]],hk,rfl,ad,hR.keep λ c o e _=>xJX,λ c o e _=>xJX)])
 rintro m σ H2 ⟨v7,v8,S,t,rfl,hk,rfl,TC,SK,kp⟩;show χ hle2 hk.le (_,rfl,l,_,rfl,xYd,_,rfl,_,_,rfl,rfl,_,rfl,xg h h)
 ·show(Aj,Dd h' rC IS h',xMv QF[xSS uv][Ay [_,_,_] SB Φ SB Φ[lz h']] Y3 Uj SK.ob);clear h h';show SC t1[XE[t+1]][by cases hk<;>lia] xRT;dsimp only;show(zJ (_,rfl,r,Y3,_,rfl,Uj,qI,r,d,R,t,1,rfl,SK,Z9,t1,Μ H3 RS Q4) Uy S4 RS.ob,Yd=xON);cases hk with
  |done _ e=>exact yR [_,_,_][Fg Ω][HQ Ω][IP QF zL]
  |sg q1 q2 q3 q4=>
   show([q3],ω[aT _[xIF gU h]] (_,rfl,x8l,_,rfl,r,Uy,_,rfl,S4,qI,r,d,R,_,8,rfl,RS,Z9,Ay [_,_][HS 9] Bp xKT Bp q2,Μ H4 Si TH),χ h4l[VE Yd S9] (l,_,_,rfl,rfl,h4l,bW[uO[G6 [_,_,_] xGT[bE[BZ 192 DG]] Bc QY hW hle2]],_,?_,_,_,_,_,rfl,q4,rfl,xCS,?_,λ c o' e z=>?_))
   ·show GV[xOx QI]
   ·show(Si.keep λ c o e hc=>?_,Δ[by show(oH hc,x4L)] e)
   ·show Ye[VE[Ga xOd z] z]
  |cp q1 q2 q3 q7 q8=>
   show([q3],Ec[aT _[xR9 A2]][xvZ R2 q2'] (_,rfl,r,Uy,_,rfl,S4,qI,r,d,R,_,8,rfl,RS,Z9,Ay [_,_] x5p Bp xKT Bp q2,λ H4 Si TH=>q2' _ _ ?_));clear q2';show((dx4,W8)=Si.ob,Ec Zk[xvZ R2 q2'] (_,rfl,r,dx4,_,rfl,W8,qI,r,d,R,_,4,rfl,Si,Z9,Ay [_,_] x5p Bp x5O Bp q2,Μ H5 hR5 VR),SC ez[ST[TP[t+1+8]]+3=ST[TP[t+9]+3]][LT[show t+1+8=t+9 by show T5 xKT[HS 9][Fv[HS 9] xKT]][xJ9[Fv IH IH] IH IH]][ya _ rfl[q2' _ _ ?_]]);clear q2'
   try dsimp only
   show([ez],χ h5l[oh[VE Yd S9] S9] (_,rfl,_,rfl,_,rfl,_,rfl,l,S,yS[t+1],TP[t+9]+3,uv,rfl,h5l,Bj [_,_] Ω[CN XR 192] WF Dm QY hW,EA (_,?_,_,_,_,_,rfl,q7 q,rfl,ad,?_,λ c o' e z=>?_),EA[kE[q8 q] _ λ c o' e z=>oh[VE[Ga xOd z] z] z]))
   ·show LT xwa[xOx[Lc di]]
   ·show((show t+1+8+4=t+13 by show T5 x5O x5p[Fv x5p x5O])▸hR5.keep λ c o e hc=>?_,Δ[by show(oH hc,x4L)] e)
   ·show Ye[oh[VE[Ga xOd z] z] z]
 ·cases hk with
  |sg q1=>show jF[xDb[EZ SB Φ SB Φ q1]] h
  |cp q1=>show jF[xDb[EZ SB Φ SB Φ q1]] h
  |done eo e=>
   show(VB A1,SC ec[xSM[S'.map vN] xTM none=A5 yg6][by rw [xxl,<-LY]] (_,rfl,_,rfl,_,rfl,l,_,rfl,QK.of TC,UF l9 n9))
   try dsimp only
   show(dW,χ s9[wH yg6 n9][xDo l9 _ ?_ ad[SK.keep λ c o e _=>s9 _ _ e] λ c o e n=>s9 _ _[Bo e n]])
   cases e:H l9 with
   |none=>rfl
   |some o'=>
    by_cases z:l9=r
    ·show(xIM,((dx9,hr9),_)=SK,AQ hr9 n9 n9)
    ·show AQ xOd n9 n9
universe K27.Ck
namespace K27.M
open BP C9 C10 W17
inductive ShX (ok:Bool) (L:LE) (e:Nat):LE->Au->xRP Au
 |done {S:LE} {b:Au}:AB->xA8 e->xJK S b S b
 |sg {S T:LE} {q s:Nat} {b b':Au}:tR->bh L b q s->By q->xJK[S++[q]] xAD T b'->xJK S b T b'
 |cp {S T:LE} {q s:Nat} {b b':Au}:tR->bh L b q s->256≤q->xBd 8 xAD->(yjt[iZ s 8][q-256+3] e->xJK[ykE[iZ s 8][q-256+3]][(xAD).drop 8] T b')->(¬yjt[iZ s 8][q-256+3] e->xB6)->xJK S b T b'
def ShX.le (h:xJK S b T b'):x3h e:=by
 cases h<;>first|exact IR Z3|exact Jy Z3
universe K27.M
namespace K27.Ck
open PySem L2 QQ W17 W16 BP K27.M
seal PE PA PS PSs PT PW PG PI
inductive xk2 (ok:Bool) (cB C:Qq) (vs:Sy) (H:Hp) (Q:VK) (E:XK):Prop
 |mk (o r d x:Qq) (W:LE) (b b':Au) (n:Nat) (L T:LE) (b1:Au) (h0:vs=[Gv,eF,F6,E4]) (h1:Us) (h2:uQ=vZ) (h3:wV) (h4:sr) (h5:xDO b L b1) (h6:Gq) (h7:xAF) (h8:x3D uv W b1 T b') (h9:AB->tE[B0=BA x9Z->xPa b'->Wq->B8]) (h10:xB6->vg Wq[xKX cB]):xk2 ok cB C vs H Q E
inductive IshE (ok:Bool) (C G:Qq) (H:Hp) (o r d x:Qq) (W:LE) (b':Au) (n:Nat) (L T:LE) (l:Qq) (e:Nat) (p dp ep:Qq) (m:Nat) (σ:St) (H2:Hp):Prop
 |mk (v8:EY) (v9:EY) (S:LE) (b:Au) (h0:m=e-S.length) (h1:xJK S b T b') (h2:σ=[xJg,xJf,Α n,RH,qB,Α W.length,Α e,u5,v8,v9]) (h3:Vw=y0) (h4:xMF H2) (h5:xUj H2 p dp ep L) (h6:xA0 H2):IshE ok C G H o r d x W b' n L T l e p dp ep m σ H2
def xg9 (F:x7J "ShareWay.read" xqL)(D:xZi C G)(mB:xK4=xX8)(xB:xYs):pS 37 Jad[xk2 ok cB C]:=by
 show(Tl Z D.Z Y D.Y,xVC,xTi Tk Z.tkB,Tl GT[xW6 P w] TR Z.T,C6 La Y.lay Ao Y.ahead,C6 Ci D.codesin Ti D.thingin,Hs GA[xoc (P:=P) (w:=w) (base:=base) Ao X] GL[xpq (P:=P) (w:=w) (base:=base) La Y mB xB] GC[xgB (P:=P) (w:=w) (base:=base) Ci D] GI[xhh (P:=P) (w:=w) (base:=base) Ti D],DW tl hle X.least tf hfi X.first,TZ xxO[λ QE A outer st H vs Q E hr h=>?_] _,(o,r,d,x,W,b,b',n,L,T,b1,rfl,hR,hx,QY,hW,hI,hl,hG,hk,k,kE)=h,tP Yt[Dk 33] hr32 32,A3 RW hV CJ QW F9 CJ[Gy[ID 4 xxO.nd[yU GA Ao 3] 5 xxO.nd xMW[DS 6 xxO.nd[Gi qK Ζ][DP 7 xxO.nd[oV GC Ci 1][xzG OH[ZS xMW jy]
   (DS 8 xxO.nd[aE GI Yt Ti[jA 1 7]][vm[ZS xNT[FK 256 hfi tf]][rD[x1p Bb[sf 8]]][DS 9 xxO.nd xWQ[rD[dz GL hr32 La.m La.F.kp La.b bJ[XM 4[XM 9[aa[Gi[y4 xNT[FK 256 hfi tf]] xPm][sf 6]]]]]]]])][qd Bb qK]]]]],(dx0,t0,X')=hR.ob,(_,hd0)=hR.ls,(no:∀t,Θ x6t)=λ t=>jk,xEh Ei,VB[zE _ rfl x W hx xRi],De S9 l r xWm Ui Tn xVk,fw s0 lW nl h0l[(WA lW) l=vZ],υ hR0[hR.same s0] kp0[xA0[WA lW]][.of s0],az H l lW H0,tW[ZC l[BN h0l] A1],Aj)
 try dsimp only
 show([IS],tW[F1 _ rfl _ _ _ rfl rfl A1],Aj,(e0:xTM+BU=ST uv)=rfl)
 try dsimp only
 rw [e0];generalize he:uv=e at*;show(tW (_,rfl,r,d,b,L,b1,rfl,hR0,hI,hl,hG,λ p dp ep H1 np ndp nep hR1 hC1 Tt=>A1),Aj,DF h1l[SX h0l S9] Tc xHJ[ai h0l np] nldp[XB dp][ai h0l ndp],eN nlep[XB ep][ai h0l nep] Tt[kp0.tr Tt]);clear kp0 hR0 h0l s0 hI;show tW[Cm[IshE ok C G H o r d x W b' n L T l e p dp ep] (_,none,none,W,b1,rfl,hk,rfl,h1l,hR1,hC1,Tt)]
 rintro m σ H2 ⟨v8,v9,S,b,rfl,hk,rfl,TC,SK,Y0,kp⟩;show χ hle2 hk.le (_,rfl,l,_,rfl,xYd,_,rfl,_,_,rfl,rfl,_,rfl,xg h h)
 ·show(Aj,Dd h' rC IS h',(QF:tR)=lz h');clear h h';show(ybo xRT,kK)
  cases hk with
  |done _ h=>show E9 QF[Zs RA]
  | @sg _ _ q s _ _ _ hD hq hk=>
   show((_,rfl,_,rfl,p,dp,ep,r,d,b,L,q,s,rfl,Y0,hG,SK,hD,λ H3 RS Q4=>bf),YK,Vk Yd xON[u7 _ rfl _ _ _ rfl[xIF[IZ[BM[xn[HH SB HN SB HN hq]]]] h]] (_,rfl,x8l,_,rfl,l,_,_,rfl,rfl,Yd,bW[uO[G6 [_,_,_,_] x6s[bE[BZ 192[yt DG]]] Bc QY hW[ym he.symm hle2]]],_,?_,_,_,_,_,rfl,hk,rfl,xCS,RS.upd S9 Ui,?_,(x2R).up nl))
   ·show GV[xOx QI]
   ·show((Y0.but2 SK Q4).keep λ c o' e' hc=>?_,Δ[by show(dm hc,xAd Tc.symm nldp.symm,nlep.symm)] e')
  | @cp _ _ q s _ _ _ hD hq h8 hk hn=>
   show((_,rfl,_,rfl,p,dp,ep,r,d,b,L,q,s,rfl,Y0,hG,SK,hD,λ H3 RS Q4=>bf),YK,(Uy,t3,S4)=RS.ob,Yd=xON,Ec[u7 _ rfl _ _ _ rfl[xR9[by lia]]] kK (_,rfl,r,Uy,_,rfl,S4,qI,r,d,_,8,rfl,RS,Z9,h8,λ H4 Si TH=>bf),YK,VT[A6 q-256+3=ST[q-256+3]][by omega],χ h4l[VE Yd S9] (_,rfl,_,rfl,_,rfl,_,_,rfl,rfl,_,_,rfl,rfl,_,rfl,?_))
   try dsimp only
   show xEe (l,S,_,_,e,rfl,h4l,DE [_,_,_] xGT[bE[BZ 192 DG]] Re Dm QY hW[IR he.symm],EA (_,?_,_,_,_,_,rfl,hk q,rfl,ad,Si.upd S9 Ui,?_,((x2R).tr TH).up nl),EA[kE[hn q] _[(x2R).tr TH]])
   ·show LT xwa[xOx[Lc di]]
   ·show(((Y0.but2 SK Q4).but2 RS TH).keep λ c o' e' hc=>?_,Δ[by show(dm hc,xAd Tc.symm nldp.symm,nlep.symm)] e')
 ·cases hk with
  |sg q1=>show jF[xDb[Dp q1]] h
  |cp q1=>show jF[xDb[Dp q1]] h
  |done eo YX=>
   show(VB A1,SC ec[xSM rU xTM none=A5 x9Z][by rw [xxl,<-LY]] (_,rfl,_,rfl,_,rfl,l,_,rfl,QK.of TC,UF l9 n9))
   try dsimp only
   show(dW,s9=wH x9Z n9,Ie dx9 t9 hr9 SK.ob[xDo l9 _[xn5 kp n9[EX hr9]] ad[SK.same s9][kp.s s9]])
universe K27.Ck
namespace QQ
open PySem PyProof.Rows
inductive FlyJ (h:Qz) (e:Qq) (cls:Qr) (T:Qq) (v:Qr) (c:Qr):Prop
 |mk (vs:Hb) (oT:QB) (ts:Hb) (he:jI e UD) (h2:xEp 2 c/\xDA) (h1:vs[1]?=π T) (ne:T≠e) (gT:jI T oT) (dT:oT.data=x2e) (zT:Cs ts 3 v):FlyJ h e cls T v c
def FlyV (h:Qz)(e:Qq)(cls:Qr)(T:Qq)(v:Qr)(c:Qr):Prop:=FlyJ h e cls T v c
def FlyV.set (F:ybF e cls T v c)
  (h:d8[FlyV h' e cls T[fr.elim Value.none λ f=>rawInt f] c->(∀b o,DA->lF->Et)->(∀b o,DA->xC5)->xYH]):An[setFlight yw fr]:=by
 show((vs,oT,ts,he,h2,h1,ne,gT,dT,zT)=F,yeO[KJ he rfl h1 ?_],w6[qh[xYF][by simp]],ju z3 x6e gT' (Lm (Obj.mapFields (·.setIfInBounds 3[fr.elim Value.none λ f=>rawInt f])) gT x6w)[Mt gT dT z3[X3 (vs,_,_,?_,h2,h1,ne,gT',ydD,by simp [z3])[λ b o q hb=>?_][uS b o]]])
 ·show LT[xVF ne] he
 ·show vM xHu
 ·by_cases hb:b=T
  ·show YI hb _ gT'
  ·show AU o[vM xHu]
def xhF (F:ybF e cls T v c)
  (h:∀h' v',FlyV h' e cls T v' c->(∀b o,DA->lF->Et)->(∀b o,DA->xC5)->x0e e Zf):An (PySem.passOn what yw env:Sem α):=by
 unfold PySem.passOn;show(F'=F,(vs,oT,ts,he,h2,h1,ne,gT,dT,zT)=F',xAZ he rfl h1,Zz[xXI[IC[xAe T]][by simp]][IX[F.set λ h' f1 f2 f3=>wpAny_throw[xQr _ f1 f2 f3]]])
def xhL
  (Yb:x2A xHe) (hl:x0C xHe) (hf:yc0 L) (F:ybF e cls T v c)
  (h:∀h' T',xZE [e,T'] c->(T'=T\/xzW T')->(∀b o,s.heap.get? b=some o->b∉ [e,T]->b∉(env::outer).filterMap (·.frame)->h'.get? b=some o)->
   (∀b o,DA->b∉[e,T]->xSr)->(∀b o,DA->xC5)->xYH):
  An[leaving env yw]:=by
 show(F'=F,(vs,oT,ts,he,h2,h1,ne,gT,dT,zT)=F');unfold leaving;by_cases hv:IC[v==x26]
 ·show(x8n,Gp[IX[KJ he rfl h1 ?_]],iS[qh[xYF][by simp]][KJ gT dT zT ?_],Γ[Ju hv][Jr[F.set λ h' f1 f2 f3=>?_]],(vs',oT',ts',a1,a2,a3,a4,a5,a6,a7)=f1,xQr T (vs',a1,a2,.inr (T,oT',ts',a3,a4,a5,a6,a7,rfl)) bK[λ b o q hb _=>f2 b o q[Yz EV]][λ b o q hb=>xFm[f2 b o q[Yz EV]]] f3)
 ·show(Gp ?_,x8n,xAZ he rfl h1,iS[qh[xYF][by simp]][KJ gT dT zT ?_],mw[Jk hv][Mt gT dT x6e ?_],(Ts:∀b,lF->yfy b=xTu)=Bm xHu,υ gT'[yfJ gT x6w] nT[∀b o,DA->EN us[o.data≠ xUe]->lF][λ b o q nf z=>by
   show(FZ gT q q,nf ts dT)],SC sz[xTl yfw] ygd[xrL Yb[hl.of_keeps λ b o q nf=>ni o[xB9 b[nT b o q nf]]] hf[(Ts e[MJ ne]).trans he][x1s h1] h2
   λ h' T' f1 f2 f3 f4=>xQr T' f1[.inr[Ε sz f2 f2]][λ b o q hb hn=>?_][λ b o q hb=>?_][uS b o]])
  ·show(De b1 b e[Yz EV] b2 lF[Yz EV],f3 b o[xB9 b b2] b1 hn)
  ·show(De b1 b e[Yz EV] b2 lF[Yz EV],xR3[xB9 b b2] b1)
  ·by_cases hb:b=e
   ·show(ycc g' f1,YI hb _ g')
   ·by_cases hT:b=T
    ·subst hT;show aw sl e'[f4 b _ gT' hb] _ e'
    ·show aw sl e'[xR3[xB9 b hT] hb] _ e'
universe QQ
namespace QQ
open PySem
def xg4 {os:OsState}
  (hC:jI C[yan q C N bs bm hdct sn sub ab col dd k0 k1 k2 k3 k5 newId]) (hD:jI D[yh3 q' D N' bs' bm' hdct' sn' sub' ab' col' dd' j0 j1 j2 j3 j5 newId'])
  (he:jI e oe) (Yv:oe.cls=C4) (TN:Ty yht) (hm:AG[xLh C bm x3O]) (ne:C≠D)
  (hq:Q false[xDj h g d t]):jq[yjH x3O] Q[xDj h g d t]:=by
 show eN hcB[Ty[xLh D bm' xKg]][by rw [List.contains_cons,TN,Bool.or_true]] f tc_notTuple;unfold excMatches
 repeat (first|(with_reducible show tI[OK he ?_] Yv)|with_reducible refine OK hD ?_|(with_reducible show tI[Oa hD ?_] hcB)|(with_reducible show tI[Oa hC ?_] hm)|wp_step)
 exact hq
universe QQ
namespace L2
open PySem PySem.Spec PyProof.Rows QQ
def xdY (K:Frag)(D0:Qq)(E:XK)(tb:St->XK->TS):TS:=λ D σ H=>
 tb σ[λ cls _ H'=>∃C,cls=C4/\yM C/\C≠D0/\xGr[xBh C xUO]/\E cls none H'] D σ H
def xcd {D':oj}{P:Qv}{w:Qw}{K:Frag}{mg:Ι}{base:Qz}{N:CI}{qual:Str}{scope:Scope}{f:Qq}{cd:Qr}{A:Qy}{outer:rk}{s₀:Qu}{H₀:Hp}{E:XK}{X:Cx}(eX:X=ur[CXD D' P w] P w K mg N f cd A outer s₀ H₀ E)
  {x:Str} {D0:Qq} {b₀:QC} {body suite:kJ} {tb:St->XK->TS} {np SF pos:Pos} (hg:uj) (hm:yF=π D0) (hD:xVo D0)
  (hb:∀pn σ0 E',xGv[xyN X pn σ0 E' D'][tb σ0 E']) (hd:t8):
  ki[xUB [x9G[xEY np] none[b₀::suite] SF] [] [] pos][xdY K D0 E tb]:=by
 show(Sc RQ xXE[Ar eX] Yb xTq[Ar eX],Sc hX[X.ex=[]][Ar eX] hKK[X.K=K][Ar eX])
 intro QD s σ H D I h;refine yah[hb cy σ _ [] s σ H D[I.lift _] h][uS f s1][uS e s1]
 ·show vO[xJG s1][xwm.unlift q];cases f with
  |next=>exact Ng q'
  |brk=>show cZ
  |cont=>show cZ
  |ret u=>show cZ
 ·obtain⟨ea,cls,fp,H',rfl,I1,⟨c,dc,F,bk,bn⟩,fr,C,rfl,cC,RI,Xj,q⟩:=q;rw [<-hKK] at cC Xj;show(Sc I1[F7 s1][Inv.unlift (W:=X.xe) I1] fr[rG[xCp b]][Bm[let n:=xZN;(n.s0,n.h,n.loc,n.cel,xN5 xLf)]],SC hf[yb4 x9K][RQ▸I1.ok.frames][xo3 hf[RQ▸I1.stack] Yb F λ h' T F' hT f3 f4 f5=>?_],DF I2[yj1[LT RQ f3] f4 f5] nE[xCp ea][fr ea F.here] nT[xCp T][I1.new[by
   cases z:yao with
   |none=>rfl
   |some o=>show tN[xHn z hT]] yhe[Di hX]])
  obtain⟨vs,ge,z2,⟨_,r⟩|⟨T',oT,ts,v1,neT,gT,dT,zT,r⟩⟩:=id F'
  ·show iY
  ·show(iY,Zl G I2' bk0 unk[I2.ready (e:=ea) (c:=c) (ka bk b e[let n:=xPX;(n.s0,n.loc,n.cel,xN5 xLf)])] nE'[xze[xLp G] QD H' ea] (nE.s0,nE.h,nE.loc,nE.cel,nE.pin),υ I3[ykd ge z2 bk0] uh[∀σ6 H6 s6,xzJ[xFd ea[jZ G ea iF ea]] σ6 H6 s6->oG σ6 H6 s6][x3P[unk _ _ _[yiB nE' z]]])
   generalize hG3:jZ G ea iF ea=G3 at*;generalize hH3:jZ H' ea iF ea=H3 at*;show(yfN[xrr (X:=xW1) I3 hg hm ?_ hd][by intro q;cases q],(bm,N,nm,qn,bs,hdct,sn,sub,ab,col,dd,k0,k1,k2,k3,k5,hlC,hcC,_)=xyc cC,(bm',N',nm',qn',bs',hdct',sn',sub',ab',col',dd',j0,j1,j2,j3,j5,hlD,_,hfD)=xyc hD,eN hmem[AG[xLh C bm xUO]][by
    unfold mroIn at Xj;rw [hcC] at Xj;simpa using Xj] T'' (hfD _ I2.kIn).2,(hh1,gg,dr,tk,os1)=s1,ω[xg4[x5i C hlC][x5i D0 hlD] ge rfl[T''.hasType Z8] hmem RI[wpAny_handleBy_nil ?_]][xhF (v:=Value.none) (T:=T) (c:=c) (cls:=C4) (vs,oT,ts,ge,z2,v1,neT,gT,dT,zT) λ h3 v' F3 k3 t3=>?_],υ J3[I2.landed (h':=h3) (fp:=[T]) (Bm[by show(xGD JC,LT hb nT)])[λ b o g hb _=>k3 b o g[Yz EV]][λ b o g hb=>xFm[k3 b o g[Yz EV]]] t3] bn'[∀b,c=Bh->xYk][λ b e=>(xPX).s0],XF sE nE.s0 hE nE.h nE2 nE);clear hb I I1 I2 I2' I3 uh unk bn nE';subst eX;show xvT P w _[leaving _ xA4] _ _ _;show(xhL J3.ok.frames J3.stack rfl F3 λ h4 T4 F4 hT' g3 g4 g5=>?_,χ J4[J3.landed (h':=h4) (fp:=[ea,T]) (Bm[by
    show XJ hb z z
    ·show LT z nE2
    ·show LT xVb nT]) g3 g4 g5] (ea,_,[ea,T4],H',rfl,J4.os,J4.bare,J4.base,J4.hok,(c,dc,F4,bk,bn'),qE,q),XJ hb hb hb)
   ·show LT hb (sE,hE)
   ·show([xE3],II hT')
    ·show LT z (nT.s0,nT.h)
    ·show ZU ?_[J3.hok.fresh z];cases y:s₀.heap.get? T4 with
     |none=>rfl
     |some o=>
      show(x3f r[J3.base.there T4 o y[by simp [cxOf]]],tN[xHn r z])
universe L2
namespace L2
open PySem
def xxP.up0 (F:xI3 k):pS k ps sp:=by
 show ZU F.len[λ A outer s H args us vs Q E hr he hb hv h=>Oc[xUn A s H args us vs Q E hr he hb hv h][uS r s']];cases r with
 |error e=>exact q.elim
 |ok fl=>cases fl<;>exact q
universe L2
namespace K27.Ck
open PySem L2 QQ W17 W16 BP K27.M
seal PE PA PS PSs PT PW PG PI
structure Bdy (K:Frag)(mg:Ι)(cB cN:Qq):Prop where
 mB:xK4=xX8
 xB:xYs
 mN:mg "NoBits"=π cN
 xN:yM cN
 ne:cB≠cN
 mro:xGr[xBh cB[.ref cN]]
inductive TxX (ok:Bool) (R W:LE):dD[LE->gh]
 |raw:AB->xSi 0 R.length R C8
 |run {v t:Nat} {T:LE}:AB->xB5 v 0 [] t T->xSi 1 v T t
 |cpy {v t:Nat} {S:LE}:xVS x8e 0 W t S->xSi 2 v xTe t
 |shr {v t:Nat} {L S:LE} {b1:Au}:xDO xTW L b1->Gq->xAF->x3D x8e W b1 S xCT->xJE->xSi 3 v xTe t
inductive spRdX (ok:Bool) (cB C:Qq) (u:Nat) (vs:Sy) (H:Hp) (Q:VK) (E:XK):Prop
 |mk (o r d x:Qq) (R W T:LE) (n t:Nat) (h0:vs=[Gv,eF,F6,E4]) (h1:rJ H 0) (h2:uQ=vZ) (h5:wV) (h6:sr) (h7:xSi u n T t) (h8:AB->tE[B0=Hj->rJ H' t->Wq->B8]) (h9:xB6->vg Wq[xKX cB]):spRdX ok cB C u vs H Q E
structure RdX (P:Qv)(w:Qw)(K:Frag)(mg:Ι)(base:Qz)(ok:Bool)(cB C Cu:Qq)(u:Nat):Prop where
 cl:xOQ Cu
 read:IG[Meth K Cu "read" f/\lL Jad/\pS 37 Jad[spRdX ok cB C u]]
def Rals.okX {ok:Bool}(Z:Rals K mg C G C0 C1 C2 C3)(c0:xOQ C0)(c1:xOQ C1)(c2:xOQ C2)(c3:xOQ C3)(hu:u<4)(Bd:Sn):RdX P w K mg base ok cB C[xZo u] u:=by
 show(D=Z.D,xKx u)
 ·show(xTa M Z.r0[vE c0 _ M.m M.b[((xhc M.F D.Z).up0.mono Z9).imp λ vs H Q E h=>?_]],(o,r,d,x,R,W,T,n,t,rfl,hR,hx,QY,hW,hk,k,kE)=h);cases hk with|raw eo=>
  exact(o,r,d,_,R,_,rfl,hR,QY,ρ,λ l H' nl hl Yk kp=>xDo l H' nl[Ε Ki hl hl] Yk kp)
 ·show(xTa M Z.r1[vE c1 _ M.m M.b[((xgA M.F D.Y D.Z).up0.mono Z9).imp λ vs H Q E h=>?_]],(o,r,d,x,R,W,T,n,t,rfl,hR,hx,QY,hW,hk,k,kE)=h);cases hk with
  |run eo q=>exact(o,r,d,_,R,T,n,t,rfl,hR,q,QY,xDo)
 ·show(xTa M Z.r2[vE c2 _ M.m M.b[((xfH (ok:=ok) M.F D.Y D.Z Bd.mB Bd.xB).mono Z9).imp λ vs H Q E h=>?_]],(o,r,d,x,R,W,T,n,t,rfl,hR,hx,QY,hW,hk,k,kE)=h);cases hk with
  |cpy q=>exact(o,r,d,x,R,W,_,n,_,rfl,hR,hx,q,QY,hW,k,kE)
 ·show(xTa M Z.r3[vE c3 _ M.m M.b[(xg9 (ok:=ok) M.F D Bd.mB Bd.xB).imp λ vs H Q E h=>?_]],(o,r,d,x,R,W,T,n,t,rfl,hR,hx,QY,hW,hk,k,kE)=h);cases hk with
  | @shr _ _ L S b1 q1 q2 q3 q4 q5=>
   show((o,r,d,x,W,_,_,n,L,S,b1,rfl,(R,0,hR,rfl),hx,QY,hW,q1,q2,q3,q4,λ eo l H' nl hl Yk kp=>xDo l H' nl hl ?_ kp,kE),(R',t',Yk,e)=Yk,(dx,hp)=hR.ob,De nrd d r[fD hR.ls A2] eR[R'=R][xhj[HO.lst.inj[JA[Yk.ls.symm.trans[Bo hR.ls nrd]]]]]);subst eR;show(jz e'[vC e] Je Je K27.C.xxM e',ht=Yk.le,Hu[t=t'][BW[G6 [_,_,_,_,_][Gh[xo iV]][BE[.a xGU EG]] SL[IR e'.symm] W1[DI [_,_] Re Bp Re Bp q5]][Bx [_,_,_,_,_][BE[xo xGU]][Gh[.a iV EG]] SL Re[IR e'] W1[DI [_,_] Re Bp Re Bp ht]]],Yk)
 ·show rB xG4 D5 hu
inductive xlr (ok:Bool) (cB QP:Qq) (vs:Sy) (H:Hp) (Q:VK) (E:XK):Prop
 |mk (a h x dx:Qq) (R W T:LE) (u v y t:Nat) (h0:vs=[AO,pF,E4]) (h1:Υ=nN) (h2:wR) (h3:xh h QP[fH u v y]) (h4:uQ=vZ) (h5:sr) (h6:US v) (h7:u<4) (h8:xSi u v T t) (h9:AB->C8-t<8/\xHU%2^(C8-t)=0) (Ug:AB->tE[Χ->B0=Hj->B8]) (h12:xB6->BB cB):xlr ok cB QP vs H Q E
def xhg (F:Ο "text_in" xq9 x4g)(Z:Rals K mg C G C0 C1 C2 C3)(W:xJY G')(T:xyG K mg QP)(Bd:Sn):
  pS 38 x4g[xlr ok cB QP]:=by
 show(Tl D Z.D.Z Y Z.D.Y,fh D.init,C6 N D.need Wy W.ways,C6 Ae D.atend L D.left,C6 O D.ones Ba D.bits,kz xsk[λ QE A outer st H vs Q E hr h=>?_],(a,h,x,dx,R,Wn,T',u,v,y,t,rfl,ha,hb,hh,hx,hW,hv,hu,hk,h1,k,kE)=h,tP hr6[Dk 6] S4 3,xEi,XF GI[xiO (P:=P) (w:=w) (base:=base) FI N D.Y D.T] GW[xpJ (P:=P) (w:=w) (base:=base) Wy.F W] GA[xiG (P:=P) (w:=w) (base:=base) Ae.F Ba O L D.T D.Y.X],(cl,_,_,mR,bR,GR)=Z.okX (ok:=ok) (P:=P) (w:=w) (base:=base) W.raw.W.cl W.run.W.cl W.cpy.W.cl W.shr.W.cl hu Bd,Gw[Gn 3 xsk.nd[xxg MI GI hr6 Z7 D.m bI .nil bA gP][xcd rfl Z7 Bd.mN Bd.xN[λ pn σ0 E'=>eI 4 xsk.nd[xh9[xda (K:=K) rfl[xnJ GW QW Z7 Wy.m Wy.F.kp Wy.b .nil bA][x8a K rfl τ rfl] xvU] cl mR GR hr bR .nil[xoX rfl][XM 3[aa[x8a K rfl τ rfl] AP]]]]][yj[xHs[xxt AZ D.T.cl Ae GA S4]] Bb]] Zk[aq λ R1 g1=>BV[λ p dp np ndp nep=>?_]],B9 s0[FN C np ndp][Q6 p dp a R ad x7Q hb[λ d H2 nd hR kp=>xYl]],SC s2 yi[λ c o e=>Bo iE gm][aq λ R2 g2=>Ef rfl[λ l os ds H3 nl no hl ho s3=>?_]],υ hh3[xTQ hh] RS[xO0 H3 0][hR.keep λ c o e _=>Ge e],ω (_,rfl,h,QP,dx,_,_,rfl,hh3,T.cl,T.nW,xoC _ _ _,l,_,_,_,rfl,rfl,x22,aA (j:=u) (gx4 hu),?_) (os u,ds u,[],rfl,ho u hu,rfl,_,rfl,_,rfl,h,QP,dx,_,_,rfl,hh3,T.cl,T.nC,xuM _ _ _,_,rfl,os u,p,d,x,R,Wn,T',v,t,rfl,RS,xTQ hx,hv,hW,hk,λ eo l' H4 nl' h4 Si TH=>bf,λ eo H4 TH=>mO cB Bd.xB Bd.ne Bd.mro[kE eo H4 λ c o e=>VE xIs gm]),YK,xMv s4 xXo[λ c o e=>VE xIs gm] dp4 YU Si.ob,WC[aq λ R1 g1=>(_,rfl,p,dp4,_,rfl,YU,jk,p,d,R,t,rfl,Si,(h1 eo).1,(h1 eo).2,UF H5 s5)] xLb[bp[xOh[xDo l' H5[none_of AE nl'] x1N[Bn h4]]]])
universe K27.Ck
namespace K27.Ck
open PySem L2 QQ W17 W16 BP
seal PE PA PS PSs PT PW PG PI
def xuW (ok:Bool)(W T R:LE):Prop:=∃i n Rb t,i<4/\Vt/\wV/\ykA/\ykF/\me Rb/\R=vD[sM[64*i+n-1]] Rb/\TxX ok Rb W i n T t/\(AB->8*Rb.length-t<8/\val Rb%2^(8*Rb.length-t)=0)
inductive xlq (ok:Bool) (cK cB:Qq) (vs:Sy) (H:Hp) (Q:VK) (E:XK):Prop
 |mk (x z:Qq) (W R:LE) (h0:vs=[E4,.ref z]) (h1:uQ=nN) (h2:H z=vZ) (h3:CU T[xX3 W T R/\X1 W/\sr/\(AB->tE[Χ->B0=Hj->B8])/\(xB6->BB cB)]\/(X1 W/\sr/\X1 R/\sld[xOo R.length 2]≠R/\(∃a b r,R=lI++r/\ZO/\Hh/\my/\k8[b+2])/\BB cK)):xlq ok cK cB vs H Q E
def xfJ (F:Sa K "take_block" "take_block" xrZ dV f fd)(Z:Tbk K mg CK QP C G C0 C1 C2 C3)(Wa:xJY G')(Er:Sd)(Bd:Sn):
  pS 39 ybM[xlq ok cK cB]:=by
 show(xEZ N Z.H.need GN[ok_needrow (P:=P) (w:=w) (base:=base) N Z.H.N],C6 Ah Z.ahead Wn Z.win,C6 Nh Z.nhead Ho Z.headof,C6 Bs Z.bsize En Z.ends,C6 Wc Z.wcheck Ti Z.textin,DW t3 h3 Z.H.three t2 h2 Z.H.twoB,TZ xuA[λ QE A outer st H vs Q E hr h=>?_] _,Fw x z W R rfl hB hW hh);obtain⟨hwb,hwl,hb,a,b,r,hR,ha,Rl,Tf,WB⟩:X1 W/\sr/\X1 R/\∃a b r,R=lI++r/\ZO/\Hh/\my/\k8[b+2]:=by
  rcases hh with⟨T,⟨i,n,Rb,t,hi,Ya,TK,Td,Q0,hbb,eR,_⟩,h1,h2,_⟩|⟨h1,h2,h3,_,h4,_⟩
  ·show Ea (h1,h2,?_,_,Rb.length,Rb++gu[sM[64*i+n-1]++Rb],by show([eR],Fq sld IU),xoV hi Ya TK,Td,Q0,Ar IQ) eR[xvv[Bm[wU hb[bx[xoV hi Ya TK][JS Q0[by decide]] b][hbb b]]]]
  ·show E3 h1 h2 h3 h4
 show(tP Yt[Dk 33] hr6 6,A3 W8[Dk 4] CJ hr8[Dk 8] CJ[Gy[ID 2 xuA.nd[Ih GN W8 N 0] 3 xuA.nd[Ih[xl7 Ah Wn N Z.H.N] hr6 Ah 1][DP 4 xuA.nd[dz[sK Nh Ho Bs Z.H Er] Yt Nh.m Nh.F.kp Nh.b bJ AP][uD[xW[Ih[xnl En Wc Z.H.Y] hr8 En 2]] Er.mK Er.xK][vL[xhg (ok:=ok) Ti Z.Z Wa Z.H.T Bd] Ti.m Ti.F.kp Ti.b[aa[xDd Ζ xI4[xrW xrh[FK 2 h2 t2]]][jA 4 3]]]]]],uU W0[xNk[b+5]][Iv hR IQ WB xQd][VM x _ hB hb[λ l hn=>AA]],CF,fw s1 sR hn hll[(WA sR) l=nN],uf[WA sR][Wl[Q6 _ rfl _ W[.inr[Ef z[IL hW]]] hwb hwl[λ lw H2 s2 nw hw2=>AA]]],CF,Tl hl2'[ES hll] Sv Fy,T8 (_,rfl,l,a,b,r,rfl,hR▸hl2',ha,Tf,Rl,WB,λ p dx H3 np s3 RE=>AA),Tl s13 ybm RV[Ge hl2'],HV g[Q6 _ rfl l R RV hb[ED [_,_] Ω[bE ic] Dm Tf[IR W0]][λ H4 s4=>xLb]],VP=yju);rcases hh with⟨T,⟨i,n,Rb,t,hi,ht1,ht2,Td,Q0,hbb,eR,hx,hx2⟩,_,_,k,kE⟩|⟨_,_,_,hc,_,k⟩
 rotate_left
 ·show xCX hc[bZ[Ey VP]]
 generalize hX:sM[64*i+n-1]++Rb=X at*;have hXl:X.length=Rb.length+3:=xw8 hX IQ xQd
 subst eR;obtain⟨rfl,rfl⟩:a=64*i+n-1/\b=Rb.length:=by
  show(C7[sld X=sM[64*i+n-1]++(Rb++gu X)][by unfold sld;rw [<-hX,IU]],xCM[e.symm.trans hR] (Ms this).1.symm (Ms (Ms this).2).1.symm)
 show(Γ[IZ[by rw [xvz]]] xWY,CF,DK (_,rfl,_,rfl,_,rfl,_,rfl,l,_,rfl,QK.of[X4 RV],x8M) ec[jv[A5[sld X]] 3[-2]=xLC][by
  rw [xbn _[LT xyh[Dh Fz Re[.n 5] gZ[IR hXl.symm]]],xvz,<-hX];rfl],dW,s5=Dn xLC n5,aG[show(64*i+n-1)/64=i by show BW[zQ 64 [_,_,_,_][Aw[xFX dQ]][bE[BE x2d]] SL ht2[IP DB[DI [_,_] AM SL AM xWo ht1]]][Zc 64 [_,_,_,_][xQK[ZH x2d]][Aw[.a xM4 dQ]] SL Re ht1[IP zV W1]]][show(64*i+n-1)%64+1=n by lia] RE (_,rfl,_,rfl,l5,p,lw,dx,Rb,W,T,i,n,_,_,rfl,ad,hbb,xXr RE,xXr[Ge hw2],hwl,ht2,hi,hx,hx2,λ eo l' H' n' s6 h'=>xDo l' _[none_of[VP.trans s5] n'][yai s5 s6] h',λ eo H' s6=>kE eo _[yai s5 s6]))
universe K27.Ck
namespace K27.Ck
open PySem L2 QQ W17 W16 BP K27.M
def xzi:BY Pc
 | .sg s=>By s
 | .cp b z=>Hh/\xDJ/\aP/\SY
theorem GR.wg:∀{P:M'} {B:LE},GR B P->Ic P[xzi x]
 |y::P,B,h,x,hx=>by
  show qw x5D hx
  ·cases x with
   |sg s=>exact EO
   |cp b z=>show(((g1,g2,_,g4,g5),_)=h,E3 g1 g2 g4 g5)
  ·exact GR.wg (P:=P) (B:=om y) bw x hx
def sz (P:M'):Nat:=x2i Pc.size
def dJ (x)(P):sz[x::P]=x.size+sz P:=rfl
theorem GR.sz:∀{P:M'} {B:LE},BD[xHy B][dH[sz P]]
 | [],B=>rfl
 |y::P,B=>by
  have:=yeG P (B:=om y);show BD[xHy[om y]] _;rw [this,xtb,dJ,J8]
theorem xvy (h:Dl B):∀n,Dl[xAo B n]
 |0=>h
 |n+1=>DX[by
  show(Dd ih[xvy (b:=b) h n] K27.Ck.cpy hx,aQ hx)
  ·exact ih x z
  ·rw [x8W z,Jm];cases e:(xAo B n)[(xAo B n).length-b]? with
   |none=>decide
   |some y=>exact ih y xIn]
theorem xqP (hb:wR):∀{Pp:M'} {t} {S:LE},(Ic Pp[xzi x])->X1 S->xJE->xCT=xBg x6Z z->∃ok T,xVS x7R t S[t+vW] T/\(AB->T.length=x7R/\D4)
 | [],t,S,_,hS,_,_=>(true,S,xAG rfl,λ _=>ZV hS)
 |x::Pp,t,S,g,hS,ht,e=>by
  show υ gx[g x Jl] gr[Ee Pp[xzi y]][IB[g y Qt]]
  cases x with
  |sg s=>
   rw [dP,CA[pcP V5] [((0,1)),((s,8))],K5,K5,Kd,bC,bC,IU,IU] at e;show(XH a1 a2 a3[vp[show 0<2^1 by decide] e ht] b1 b2 b3[vp[Eo s[2^8] gx] a3 a1],Zl ok T h1 h2[xqP hb (S:=S++[s]) gr[IB[xv7 hy[hS y][EA[jg q gx]]]] b1 b3] el[DV S [s]+xNv=d9[V5::Pp]][XV IQ dJ xZ1],tB el,xBL ok T[.sg[by show(EF dJ[_<_+(1+_)],BM[Iz SB[xGm 1]])] b1 a2 ?_] h2,uA b2 dP aU[show t+(xNJ+vW)=t+1+8+vW by show LT[CA xNJ 9][yd[Iz[xGm 9] x5N][Iz x5N[xGm 9]]]] h1)
  |cp b y=>
   obtain⟨g1,g2,g4,g5⟩:=gx;rw [dP,CA[pcP wC] [((1,1)),((b,8)),((y-3,4))],K5,K5,K5,Kd,bC,bC,bC,IU,IU,IU] at e;show(XH a1 a2 a3[vp[show 1<2^1 by decide] e ht] b1 b2 b3[vp[show b<2^8 by show By _;show yr 255 SB HN g2] a3 a1],(c1,c2,c3)=vp[show y-3<2^4 by show _<16;show yE [_,_] x5E[EL 18][.n 16] g5[qj g4]] b3 b1,Sc ey[y-3+3=y][M1 g4] e9[TP[t+9]=y-3] c2,Sc QF[xSS[d9[wC::Pp]]][by show(EF dJ[_<_+(y+_)],Ay [_,_,_] DH SL SB Iy g4)] WL[Zr[TP[t+9]+3]≤d9[wC::Pp]][by rw [e9,ey,dJ];show _≤_+(y+_);show BM[xI [_,_,_] WF Iy]])
   by_cases hS2:z8 b
   ·show(Zl ok T h1 h2[xqP hb (S:=xAo S y) gr[xvy hS y] c1 c3] el[iT[xAo S y] xNv=d9[wC::Pp]][XV xwa dJ xZ1],tB el,xBL ok T[.cp QF[dC[t+1+8+4≤_] c1] a2 aX[RO (WL,LT b2 g1,LT b2 hS2)]] h2,[b2,e9,ey,dP,aU,show t+(x7T+vW)=t+1+8+4+vW by show LT[CA x7T 13][yd[Iz x6d x6y][Iz x6y x6d]]],h1)
   ·show E3 false S[.cp QF[dC[t+1+8+4≤_] c1] a2[mZ q[Bg b2[EU q]] hS2] QO][nofun]
theorem xrF:∀{Pp:M'} {S:LE},xC7->(Ic Pp[xzi x])->X1 S->∃ok T,x3D x7R S[xRn z] T z/\(AB->T.length=x7R/\D4)
 | [],S,_,_,hS=>(true,S,xAG rfl,λ _=>ZV hS)
 |x::Pp,S,k,g,hS=>by
  show(DF gx[g x Jl] gr[Ee Pp[xzi y]][IB[g y Qt]] k' xC7 (k.good,k.len,k.six,IB[k.has y Qt]),[xqA,xzB,IU]);cases x with
  |sg s=>
   show(yeF k2[k.at (B:=S) Jl[show gz S V5 from gx]],Zl ok T h1 h2[xrF (z:=z) (S:=S++[s]) k' gr[IB[xv7 hy[hS y][EA[jg q gx]]]]] el[DV S [s]+xNv=d9[V5::Pp]][XV IQ dJ xZ1],tB el,Γ[xMO[xBR V5][jc s dX dX][xLH cP]] (ok,T,.sg[by show(EF dJ[_<_+(1+_)],BM[Iz SB[xGm 1]])] xZm gx ?_,h2),XV[CA[th V5] s] dg h1)
  |cp b y=>
   show((g1,g2,g4,g5)=gx,yeF k2[k.at (B:=yhL 0) Jl[show gz[yhL 0] wC from(g1,g2,LT JQ ρ,g4,g5)]],xJo[xMO[xBR wC][jc Dc lT lT++dig b 8][xLH cP]],G9[num[xzO[jc Dc lT lT++(dig b 8++(xRn z))] lT 8]=b][by rw [dg,xx5[show b<2^8 by show By _;show yr 255 SB HN g2]]][Dc-256+3=y][BW[xX x34 x32 IH[DI DU DH Re HN xMt g4]][Dh x32 x34 SL IH W1]],Sc QF[xSS[d9[wC::Pp]]][by show(EF dJ[_<_+(y+_)],Ay [_,_,_] DH SL SB Iy g4)] WL[Zr[Dc-256+3]≤d9[wC::Pp]][by show xPz dJ;show _≤_+(y+_);show BM[xI [_,_,_] WF Iy]])
   by_cases hS2:z8 b
   ·show(Zl ok T h1 h2[xrF (z:=z) (S:=xAo S y) k' gr[xvy hS y]] el[iT[xAo S y] xNv=d9[wC::Pp]][XV xwa dJ xZ1],tB el,xBL ok T[.cp (q:=Dc) (s:=lT) QF xZm[Ay DU DH Re HN xMt g4][by show(AR dg QS,S1 Dv xNZ)] aX[RO (WL,aC g1,aC hS2)]] h2,uA e1 e2 dg dg h1)
   ·show E3 false S[.cp (q:=Dc) (s:=lT) QF xZm[Ay DU DH Re HN xMt g4][by show(AR dg QS,S1 Dv xNZ)][mZ q[Bg e1[EU q]] hS2] QO][nofun]
def PB.any (h:xSq)(t:oi)(hG:Dl G):∃ok T',xX3 G T' R/\(AB->ykM/\Dl T'):=by
 show((u,ps,Rb,hi,hp,r,eR,Td,Q0)=h.parts t,υ hx[xpY hp t r] mk[∀{ok T'},TxX ok Rb G u T.length T' Gj->xX3 G T' R][EA (u,T.length,Rb,Gj,hi,t.one,t.le,Td,Q0,r.byt,eR,q,λ _=>hx.2)],(gd,_)=hp.good t,xZR he hl hbt hv[xmI gd r],Sc h0[0≤8*Rb.length] B1 dl[∀{T':LE} {n},T'.length=G.length+n/\X1 T'->BD yhn n/\Dl yhn][λ {T' n} q=>ka[by rw [Je,DO,Kv]] x hx[GZ x xBr]],xKx u)
 ·show YC hx.1;generalize hT:T.length=n at*;generalize Tu:Gj=tt at*;cases q with
  |raw=>show E3 true _[mk[.raw rfl]][λ _=>(hT,t.tb)]
 ·show YC hx.1;cases q with
  |run q=>show E3 true _[mk[yem q]][λ _=>ZV t.tb]
 ·show(Dr Pp w hp,x2n g xQo,xwM hs[xGk xNv][jL[yeG Pp (B:=W)] er IQ (Pf this).symm] ok T' h1 h2[xqP r.byt[GR.wg g] hG h0 hbt]);rw [hs,Kq] at h1;show Ε hs h2 (ok,_,mk[.cpy h1],λ eo=>dl[h2 eo])
 ·show((Pp,L,It,b,w,sl,wi,rfl)=hp,x2n g xQo,Sc hs[xGk xNv][jL[yeG Pp (B:=W)] er IQ (Pf this).symm] h1 xTB[by
   cases Pp with
   |nil=>have:xGk[sz []]:=hs;have:=t.one;show RC[sz []=0];lia
   |cons=>exact Ml B1],Tl k[sl.tok g h1] hd[W13.xty wi]);rw [MK,Kd,<-k.len,Ki] at hd;show((ok,T',q,h2)=xrF (z:=xIN) k[GR.wg g] hG,Sc hI[xDO[K27.C.bt Rb] L[xRn xIN]][by
   show([hbt,xzB,IU],xtX[yka wi][xw8 hd k.len[IR rfl]] ?_,EK Kd hd[.done yid])] ez[x0g Rb[tots[sU++xFV]]=xIN][by rw [hbt,<-xzC,M7]])
  rw [hs] at q h2;show E3 ok _[mk[.shr hI k.len k.good[vM ez][LT hl Io]]][λ eo=>dl[h2 eo]]
 ·exact hp.elim
universe K27.Ck
namespace K27.Ck
open PySem L2 QQ W17 W16 BP
seal PE PA PS PSs PT PW PG PI
inductive xkR (ok:Bool) (Ce CO CK cK cB:Qq) (vs:Sy) (H:Hp) (Q:VK) (E:XK):Prop
 |mk (p co ck g wt a:Qq) (S:LE) (b:Nat) (G W R:LE) (h0:vs=Tr) (h1:xJ3 S b G W true false) (h2:Υ=nN) (h3:CU T[xX3 G T R/\X1 G/\xUN 192/\(AB->(D4)/\jW)/\(AB->∀l g' H',Bv->B7 g'->B0=Hj->uw H' g' wt[S++T][b+1] x8C W true false->(∀c o,Ψ->yZ->vY->Cf)->B8)/\(xB6->BB cB)]\/(X1 G/\xUN 192/\X1 R/\sld[xOo R.length 2]≠R/\(∃a b r,R=lI++r/\ZO/\Hh/\my/\k8[b+2])/\BB cK)):xkR ok Ce CO CK cK cB vs H Q E
def xl0 (F:Bq "read_block" "Reading.read_block" xr7)(Z:vR)(Bd:Sn):pS 40 ybr[xkR ok Ce CO CK cK cB]:=by
 show(Tl T Z.tt R Z.pr.R,x8X Tb Z.take FT Tb.F,C6 Wi R.win Go R.go,TZ xkD[λ QE A outer st H vs Q E hr h=>?_] _,(p,co,ck,g,wt,a,S,b,G,W,Rb,rfl,hR,ha,hh)=h,(n1,n2,n3,n4,n5,n6)=hR.ne,xz0 dx hp hw hR,A3 QW F9 CJ hr6[Dk 6] CJ[Gy[DP 2 xkD.nd[vL[xfJ (ok:=ok) FT Z.bk Z.wl Z.er Bd] Tb.m Tb.kp Tb.b[nj 1[zX B5 R.cl Wi[ye2 R]]]][aB[xwd B5 R.cl Go[xjz Go.F R] hr6 AP]] Ζ]],sL dxo Uw hC.ob (_,rfl,_,rfl,p,Ce,dx,_,_,rfl,hp,T.cl,T.nC,xD9,co,dxo,_,rfl,Uw,xEa,co,ck,g,S,G,b,rfl,hC,UF lw nlw),s1=Dn FE nlw);rcases hh with⟨T',pb,hgb,h2,hT,k,kE⟩|⟨h1,h2,h3,h4,h5,kE⟩
 rotate_left
 ·exact Hx a lw G Rb ay ad[.inr (h1,h2,h3,h4,h5,λ H' s2=>kE _ Fy)]
 show(Hx a lw G Rb ay ad[.inl (T',pb,hgb,h2,λ eo l H2 nl s2 hl=>?_,λ eo H' s2=>kE eo _ Fy)],Tl s2 Fy Y0[xHf c o e[ES e]],DW dxo2 Vg Y0.ob dk2 hck2 Y0.ch,sL htb h1[hT eo] (_,rfl,p,Ce,dx,_,_,rfl,ES hp,T.cl,T.nC,xD9,co,dxo2,_,rfl,Vg,xEa,_,rfl,co,ck,g,l,S,G,T',b,rfl,Y0,hl,htb,Bj [_,_] Ω[CN XR 192] WF Dm h1 h2,λ g' H3 ng hC3 kp=>?_),DC Q4[∀c o,Ψ->yZ->vY->xJC][λ c o e n m=>Bo[ES e] n m][BV[xDo l g' H3[Fd s1][none_of s2 ng][Bo hl[aJ hl Vg A2][aJ hl hck2 A2]][TU[Ga hp n1.symm n2.symm] hC3[Ga hw n5 n6]] Q4]])
def xo9 (a b c m:Nat):Prop:=FL T7\/(c=T7/\Hh/\my/\m%64≠0)
inductive xkx (QP cH:Qq) (vs:Sy) (H:Hp) (Q:VK) (E:XK):Prop
 |mk (x:Qq) (a b c m:Nat) (h0:vs=[E4,qS]) (h1:uQ=BA [a,b,c]) (h2:fE [a,b,c]) (h5:(c=T7/\my/\(b=0->a=0)/\(Hh->m%64=0)/\(b=0->vi)/\(Hh->∀p dx H',Χ->AX xDk QP[fH[a/64][a%64+1] b]->xYg))\/(xo9 a b c m/\BB cH)):xkx QP cH vs H Q E
def xgv (F:Ο "next_head" xrK x2D)(Z:xJN)(Er:Sd):pS 33 x2D[xkx QP cH]:=by
 show((_,_,O)=Z.headof,(t64,QY)=Z.signs,kz xkb[λ QE A outer st H vs Q E hr h=>?_],(x,a,b,c,m,rfl,hx,YY,hh)=h,D9[DP 2 xkb.nd[vL[xnP O Z.H Er] O.m O.F.kp O.b gP][uD[xP7[HX xpL Ζ xwU][FW xwO[xOA τ[FK 64 QY t64]]]] Er.mH Er.xH] Ζ])
 rcases hh with⟨hc,hb,Y2,hm,k0,k1⟩|⟨hc,k⟩
 rotate_left
 ·rcases hc with hc|⟨hc,Rl,Tf,hm⟩
  ·exact(_,rfl,x,a,b,c,rfl,hx,YY,x4 hc k)
  ·show((_,rfl,x,a,b,c,rfl,hx,YY,.inl (hc,Tf,Wg z xGQ,Wg z xGQ,λ z p dx H1 np s1 hp=>?_)),SC e[¬xt%64=0][SZ[hm[pU z]]][xNL (_,rfl,_,_,rfl,rfl,(HA[FX<64]),rfl,_,rfl,?_)])
   try dsimp only
   show xCX[SZ[e yaK]][bZ[Ey s1]]
 refine(_,rfl,x,a,b,c,rfl,hx,YY,.inl (hc,hb,Y2,Μ z H1 s1,λ z p dx H1 np s1 hp=>?_))
 ·exact tT[bp[gM[k0 z _ s1]]]
 ·show SC e[xt%64=0][Int.ofNat_inj.2[hm z]][xNL (_,rfl,_,_,rfl,rfl,(HA[FX<64]),rfl,_,rfl,?_)]
  try dsimp only
  show WQ[gM[k1 z p dx _ s1 hp]]
inductive xkf (QP cH:Qq) (vs:Sy) (H:Hp) (Q:VK) (E:XK):Prop
 |mk (x:Qq) (B y z':LE) (p m a b c:Nat) (h0:vs=[E4,xDp,qS]) (h1:uQ=uK) (hp:sC p) (hB:x3x++y=[a,b,c]++z') (h2:fE [a,b,c]) (hk:(c=T7/\my/\(b=0->a=0)/\(Hh->m%64=0)/\∃n,n=EM[b=0] 8[b+2]/\(qQ<n+3->vi)/\(n+3≤qQ->∀t v H',Χ->jB[H' t] [v,vN[p+(n+3)]]->((b=0/\SE v)\/(Hh/\∃h dx,v=pF/\AX[H' h] QP[fH[a/64][a%64+1] b]))->oA Z1))\/(xo9 a b c m/\(qQ<3->vi)/\(zS qQ->BB cH))):xkf QP cH vs H Q E
def xnq (F:Ο "part_at" xq2 Jai)(Z:xJN)(Er:Sd):pS 34 Jai[xkf QP cH]:=by
 show(x23,C6 Nh Z.nexth Bs Z.bsize,DW t3 h3 Z.H.three t11 Ug Z.tbytes,kz xu4[λ QE A outer st H vs Q E hr h=>?_],(x,B,y,z',p,m,a,b,c,rfl,hx,hpB,hB,YY,hh)=h,Xo QW F9[Gn 3 xu4.nd[xUZ xI4][rh[ZS xA2 AZ] xwU][DS 4 xu4.nd[vL[xgv Nh Z Er] Nh.m Nh.F.kp Nh.b[aa[xDd Η τ AZ] AP]][DP 5 xu4.nd[xUZ[xqY[xI7 Bb][FK 11 Ug t11][yU[xqS Bs Z.H] Bs 4]]][rh[ZS xA2 qK] xwU][cx[jA 4 5]]]]],SC e3[xIU+3=rH 3] rfl xC8)
 try dsimp only
 show([e3],ZT g (_,rfl,x,_,rfl,BN hx,_,rfl,_,_,rfl,rfl,_,rfl,xRD[jl AA]))
 ·show Dd h rC IS h;rcases hh with⟨_,_,_,_,n,_,kN,_⟩|⟨_,kN,_⟩
  ·exact kN[yE [_,_,_,_][ZH EH][yt xOj] Fz[lz h][Vp [_,_] hpB]] _ xZ
  ·exact kN[yE [_,_,_][Fg WF] x5W DH[lz h][Vp [_,_] hpB]] _ xZ
 show(CF,(h3':sC[p+3])=by
  show iq B.length[p+3] q q
  ·show jF[xDb[Dh SB Fz SB Fz q]] h
  ·show HL)
 clear h;show SC ec[jv sO xIU[rH 3]=A5 [a,b,c]][by
  show([xyg _ Io[Gk h3'],Kv,-LY,-LO],wL yaM hB,xSE[KP[xEd[CM [_,_,_] x5W x5l DH Re h3' W1]]],Ar this)] (_,rfl,_,rfl,_,rfl,_,rfl,_,rfl,x,_,rfl,QK.of hx,Ex)
 try dsimp only
 show(dW,s1=wH [a,b,c] nl);rcases hh with⟨hc,hb,Y2,hm,n,hn,kN,k⟩|⟨hc,_,k⟩
 rotate_left
 ·exact(_,rfl,l,a,b,c,m,rfl,ad,YY,x4 hc[λ H' s2=>k[Bj [_,_,_] x5W x5l DH Re h3' W1] _ Fy])
 show A3 lt[Ty[HY[o7 sO][rH[n+3]]]->qQ<n+3][jl[by
  show(h=rC,Ε IS h[CM [_,_,_,_][ZH EH][yt[Aw Fz]] SB Fz[lz h][Vp [_,_] hpB]])]] ge[¬(Ty[HY[o7 sO][rH[n+3]]])->n+3≤qQ][jl[by
  show iq B.length[p+(n+3)] q q
  ·show jF[xDb[EZ SB[Ξ xOj] SB[Ξ xOj] q]] h
  ·show Bj [_,_,_,_][yt[Aw IH]] xV1 IH SL q W1]] (_,rfl,l,a,b,c,m,rfl,ad,YY,.inl (hc,hb,Y2,hm,Μ z H2 s2,λ z ph dx H2 s2 hph=>?_))
 ·show SC hE[xIU+11=rH[n+3]][Ai hn[Ju z]][VM _ rfl _ rfl[bZ[ya _ rfl ?_]]]
  try dsimp only
  show Γ hE (_,rfl,x,_,rfl,BN[xXu hx],_,rfl,_,_,rfl,rfl,_,rfl,xYV[kN[lt h] _ Fy][jl[y3 _ ye[λ t nt=>k[ge h] t _ _[xLT xW5] ad[.inl[Gs z]]]]])
 ·show SC hE[xIU+ST[b+5]=rH[n+3]][Ai hn[Jk[K4 z]]][VM _ rfl _ rfl[bp (_,rfl,ph,dx,_,_,b,rfl,hph,_,_,rfl,rfl,?_)]]
  try dsimp only
  show Γ hE (_,rfl,x,_,rfl,BN[xXu hx],_,rfl,_,_,rfl,rfl,_,rfl,xYV[kN[lt h] _ Fy][jl[y3 _ ye[λ t nt=>k[ge h] t _ _[xLT xW5] ad[.inr[sP z ph dx[xW5 _ _ hph]]]]]])
universe K27.Ck
namespace L2
open PySem
def xxP.or2 (F:uM P w K CX k f fd ps sp)(G:uM P w K CX k f fd ps sp'):uM P w K CX k f fd ps λ vs H Q E=>qA\/sp' vs H Q E:=
 (λ vs H Q E h=>h.elim[x4m _ _ _][G.len _ _ _ _],λ A outer s H args us vs Q E hr he hb hv h=>h.elim[xUn A s H args us vs Q E hr he hb hv][G.run A outer s H args us vs Q E hr he hb hv])
universe L2
namespace K27.Ck
open PySem L2 QQ W17 W16 BP
seal PE PA PS PSs PT PW PG PI
inductive Res where
 |er (c:Qq)
 |fin (fn:Bool) (S W:LE)
structure Shp (S G:LE)(a n:Nat)(r:LE):Prop where
 a:ZO
 n1:Vt
 n2:wV
 m:S.length%64=0
 r:k8[n+2]
 gb:Dl G
 gl:xUN 192
inductive xsy (cH cK cB cT:Qq):DQ[LE->LE->xRP Res]
 |cut {b:Nat} {S G L:LE}:xGp 3->X1 L->xRI S G L[xEQ S L]
 |cutT {b:Nat} {S G r:LE}:r.length<8->xRI S G Tz[xEQ S Tz]
 |cutB {b a n:Nat} {S G r:LE}:ZO->Vt->wV->S.length%64=0->r.length<n+2->xRI S G UA[xEQ S UA]
 |badH {b a n c:Nat} {S G z:LE}:X1 [a,n,c]->xo9 a n c S.length->xRI S G[[a,n,c]++z][.er cH]
 |tl {b:Nat} {S G r z:LE} {res:Res}:k8 8->(Tz=Yx->res=xDw z)->(Tz≠Yx->res=.er cT)->Vs b S G[yK++(r++z)]
 |blk {b a n:Nat} {S G r z:LE} {res:Res} {o:Option LE}:Shp S G a n r->(Θ o->(X1 r/\sld[Ew UA[DV tH r] 2]≠UA/\res=.er cK)\/CU T[xuW false G T UA/\res=.er cB])->EN T[TD o T->ye3 G T UA/\(D4)/\jW/\x3h 1800]->EN T[TD o T->Vs[b+1][S++T] x8C z]->Vs b S G[tH++(r++z)]
def pad (h:xGp 3)(hb:xJw):∃y a n c z,L++y=[a,n,c]++z/\X1 [a,n,c]/\FL[xHt a n]:=by
 have key:∀a n,ZO->By n->∃c,X1 [a,n,c]/\FL[xHt a n]:=λ a n ha hn=>by
  by_cases e:xHt a n=0
  ·show Dj 1[by show xEw;simp at hx;rcases hx with rfl|rfl|rfl<;>first|assumption|decide][Hd e]
  ·show Dj 0[by show xEw;simp at hx;rcases hx with rfl|rfl|rfl<;>first|assumption|decide] yb9
 rcases L with _|⟨a,_|⟨n,_|⟨c,L⟩⟩⟩
 ·show Ie c h1 h2[key 0 0[by decide][by decide]] ([0,0,c],0,0,c,[],rfl,h1,h2)
 ·show Ie c h1 h2[key a 0[hb a Jl][by decide]] ([0,c],a,0,c,[],rfl,h1,h2)
 ·show Ie c h1 h2[key a n[hb a Jl][hb n[XQ Jl]]] ([c],a,n,c,[],rfl,h1,h2)
 ·show E9 h[by simp]
inductive xkS (Ce CO CK cH cK cB cT:Qq) (vs:Sy) (H:Hp) (Q:VK) (E:XK):Prop
 |mk (p co ck g wt:Qq) (Y:LE) (res:Res) (h0:vs=Cg) (h1:xJ3 [] 0 [] Y true false) (h2:Vs 0 [] [] Y) (h8:∀fn S W,res=ye4 S W->∀l b g' X7 G' H',Bv->B0=y0->uw H' g' X7 S b G' W true fn->(∀c o,Ψ->CY->yZ->vY->Cf)->B8) (h9:∀c,res=oO->vg[∀c o,Ψ->CY->yZ->vY->Cf][xKX c]):xkS Ce CO CK cH cK cB cT vs H Q E
inductive IrpX (Ce CO CK cH cK cB cT:Qq) (H:Hp) (p co ck wt l:Qq) (Y:LE) (res:Res) (m:Nat) (σ:St) (H4:Hp):Prop
 |mk (b pl:Nat) (fn:Bool) (g4:Qq) (S G:LE) (v3 v4:EY) (h0:σ=[u5,qB,Α pl,v3,v4]) (h1:zh=y0) (h2:uw H4 g4 wt S b G Y true fn) (h3:∀c o,Ψ->CY->yZ->Uz vY[H4 c]) (h4:pl≤Y.length) (h5:(AG fn/\m=x7j+1/\Vs b S G xAy)\/(Ty fn/\m=0/\res=xDw xAy)):IrpX Ce CO CK cH cK cB cT H p co ck wt l Y res m σ H4
def xdR {A B:Type}{X:A->BY B}{G:BY[A->BY B]}(h:∀I',(∀σ H,X σ H->I' σ H)->G I'):∃I',(∀σ H,I' σ H->X σ H)/\G I':=(X,xLI,h X xLI)
def xgN (F:Bq "read_parts" "Reading.read_parts" xqO)(Z:vR)(Bd:Sn):pS 41 Jab[xkS Ce CO CK cH cK cB cT]:=by
 show(Tl T0 Z.tt R0 Z.pr.R,xm Pa Z.pr.partat Ta Z.tail Bl Z.block,GB=(xl0 (P:=P) (w:=w) (base:=base) (ok:=true) Bl.F Z Bd).or2[xl0 (P:=P) (w:=w) (base:=base) (ok:=false) Bl.F Z Bd],TZ xyB[λ QE A outer st H vs Q E hr h=>?_] _,(p,co,ck,g,wt,Y,res,rfl,hR,hY,k,kE)=h,tP hr34[Dk 34] hr10 31,xJ1[DS 1 xyB.nd rE[Gn 2 xyB.nd ag[xzG OH[xW B5]
   (Gn 3 xyB.nd[dz[xnq Pa Z.pr Z.er] hr34 Pa.m Pa.F.kp Pa.b bJ[xOC[nj 2[xzc B5 rfl]]]][qk[xI7 AZ] xmQ][ID 4 xyB.nd[xDd B5 Ζ xGV] 2 xyB.nd xGV[vm[xI7 xGV][rD[xxi Η T0.cl Ta.m[xg5 Ta.F Z] hr10 Ta.b .nil bJ[sf 4]]][rD[xZp τ[BO[xxi Η T0.cl Bl.m GB hr Bl.b .nil bJ[sf 4]]]]]]])][nZ[qd B5 Ζ][Gz τ]]]][ka Z9 l nl A1],Aj,s0=xWT,((dx0,hp0),hC0,hw0)=xXY,xKk hco0 hC0.ob hck0 hC0.ch,De Tc l p[TQ hp0] nlo[XB co][TQ hco0],De nlk l ck[TQ hck0] nlw[XB wt][TQ hw0],xJp A1,tW[(λ(J:∀b pl fn g4 S G4 v3 v4 H4,H4 l=some (.lst (S.map vN))->xsv Ce CO CK H4 p co ck g4 wt S b G4 Y true fn->(∀c o,H c=some o->c≠p->c≠co->c≠ck->H4 c=some o)->res=.fin fn S (Y.drop pl)->R1 [some (.ref p),some (.ref l),some (vN pl),v3,v4] H4)=>?_)[λ b pl fn g4 S G4 v3 v4 H4 YV Si fr er=>A1]])
 rotate_left
 ·show((n1,n2,n3,n4,n5,n6)=Si.ne,xz0 dx hp hw Si,(_,rfl,p,Ce,dx,_,_,rfl,hp,T0.cl,T0.nW,oZ,_,rfl,_,rfl,wt,_,rfl,QK.of hw,UF lw nlw'))
  try dsimp only
  show([xxl,-LY],χ s5[wH xAy nlw'] (_,rfl,p,Ce,dx,_,rfl,x8d,T0.cl,T0.nW,zK,?_),[xyO],De nwp lw p[sF hp nlw'] kp[∀c o,Gr[H4 c]->px[xBI[qP lw xAy][xEL lw true fn] c]][λ c o e n=>tJ[Bn e]],BK[k fn S _ er l b g4 lw G4 _ nl[Bo YV Tc][TU ad[x2S n1 n2 n3][xk nwp ad]] λ c o e a1 a2 a3=>Bo[qy e a1 a2 a3] a1])
 show(Aj,yI[IrpX Ce CO CK cH cK cB cT H p co ck wt l Y res] (_,0,0,false,g,[],[],none,none,rfl,ad,((dx0,pH hp0),hC0.keep λ c o e _=>iE,pH hw0),λ c o e _ _ _=>iE,B1,xQL rfl hY))
 rintro m σ H4 ⟨b,pl,fn,g4,S,G4,v3,v4,rfl,YV,Si,fr,Rv,hc⟩;show((n1,n2,n3,n4,n5,n6)=Si.ne,xz0 dx hp hw[id Si],(dxo,Uw)=hC.ob);rcases hc with⟨rfl,rfl,hd⟩|⟨rfl,rfl,er⟩
 rotate_left
 ·exact(_,rfl,p,Ce,dx,_,_,rfl,hp,T0.cl,T0.nF,xD8,true,rfl,bp[J _ pl _ g4 S G4 v3 v4 H4 YV Si fr er])
 show ω (_,rfl,p,Ce,dx,_,_,rfl,hp,T0.cl,T0.nF,xD8,false,rfl,Zy)[xdR[UF I' gi]]
 dsimp only;show(Sc hdl[BD xAy x7j] Je cut[∀{R r:LE},xAy=R++r->xwC x7j/\jv xLR[A6 pl][ST[pl+R.length]]=sR/\Y.drop[x6k pl]=r/\x6k pl≤Y.length][λ {R r} e=>by
  show SC h[xwC x7j][by show([-hdl,e,IQ],Io)] (h,?_,?_,Bj [_,_,_,_][Ξ iV] xY WF Uf h[Vp [_,_] Rv])
  ·rw [xyg _ Io[uO[CM [_,_,_,_][Ξ iV] xY WF Uf h[Vp [_,_] Rv]]],Kv,<-LY,<-LO,e,Qn]
  ·rw [<-KS,e,M7]],Sc nope[res=xEQ S xAy->∀H5,K' H4 H5->R1 [u5,qB,Α pl,some .non,v4] H5][λ er H5 s5=>J b pl false g4 S G4 _ _ H5[Bn YV][TU x8d[xHf c o e[Bn e]][Bn hw]][λ c o e a1 a2 a3=>Bn[qy e a1 a2 a3]] er] bad[∀c,res=oO->∀H5,K' H4 H5->xzU c H5][λ c e H5 s5=>kE c e H5 λ c o e a1 a2 a3=>Bn[qy e a1 a2 a3]],xEh[aq λ R2 g2=>(_,rfl,p,Ce,dx,_,_,rfl,hp,T0.cl,T0.nW,oZ,_,rfl,_,rfl,p,Ce,dx,_,_,rfl,hp,T0.cl,T0.nC,xD9,co,CO,dxo,_,_,rfl,Uw,R0.cl,R0.nM,xuT _ _ _ _,?_)])
 generalize hL:xAy=L at*;cases hd with
 |cut h3 hb3=>
  show((y,a,n,c,z,e1,e2,e3)=pad h3 hb3,(wt,Y,y,z,pl,_,a,n,c,rfl,hw,Rv,LT hL e1,e2,.inr (.inl e3,λ _ H5 s5=>g2 _ _[xNL[yen H5 s5]],A9 h[Bg hdl[xAc h3]])))
 | @cutT _ _ _ r h8=>
  show DC hl[DV yK r=xBm 3] IQ (wt,Y,[],r,pl,_,0,0,_,rfl,hw,Rv,Ai hL JM,xIj,.inl[bQ Z9 QO[Ab] 8 rfl[λ h H5 s5=>g2 _ _[xNL[yen H5 s5]]][A9 h[by show([-hdl,hl],BM[xAc[HH SB Dv[AS yv][fz Dv] h8]])]]])
 | @cutB _ a n _ _ r ha h1 h2 hm Uj=>
  show DC hl[DV tH r=xBm 3] IQ (wt,Y,[],r,pl,_,a,n,_,rfl,hw,Rv,Ai hL JM,xRK h2,.inl[bQ h2[Wg z[K4 h1]] yeo[n+2] (Jk[K4 h1]).symm[λ h H5 s5=>g2 _ _[xNL[yen H5 s5]]][A9 h[by show([-hdl,hl],BM[xAc[Dh Β gZ[AS Xg][fz gZ] Uj]])]]])
 | @badH _ a n c _ _ z YY hB=>
  exact(wt,Y,[],z,pl,_,a,n,c,rfl,hw,Rv,by rw [hL,JM],YY,.inr (hB,A9 h[xw8 hdl IQ[Zs[JD 3 _]]],λ _ H5 s5=>bad _ rfl _ s5))
 | @tl _ _ _ r z _ h8 kt kf=>
  show(Sc Ug[DV yK r=11][Ai IQ h8] eL'[yK++(r++z)=(Tz)++z] (IU _ _ _).symm,(hle,ec,ed,hpl')=cut (R:=Tz) eL');rw [Ug] at hle ec ed hpl';show((wt,Y,[],r++z,pl,_,0,0,_,rfl,hw,Rv,Ai hL JM,xIj,.inl[bQ Z9 QO[Ab] 8 rfl[A9 h[Zs hle]][λ h t v H5 s5 ht hv=>?_]]),Hu[SE v][by rcases hv with⟨_,z⟩|⟨z,_⟩;show(xIJ,xCO)],ω[g2 _ _[tT AI]] (_,rfl,p,Ce,dx,_,_,rfl,x8d,T0.cl,T0.nW,oZ,_,rfl,_,rfl,_,rfl,t,_,_,_,rfl,rfl,rR,xp,_,rfl,wt,_,rfl,QK.of[Bn hw],UF lr S9),(ec:jv xLR[A6 pl][ST[pl+(8+3)]]=A5 Tz)=ec)
  try dsimp only
  show(dW,Tl s6[wH Tz S9] ht6[kj ht],eN hlr[(ZX H5 lr Tz) lr=BA Tz] ad s6 xK9,az H5 lr[A5 Tz] H6,ω (_,rfl,t,_,_,_,rfl,rfl,xLS,xp,?_) (_,rfl,t,_,_,_,rfl,rfl,xLS,tZ,rfl,_,rfl,Zy),ω (_,rfl,p,dx,_,rfl,x7N,Ep,_,rfl,p,co,ck,g4,wt,lr,S,_,b,G4,Y,rfl,TU x7N[xHf c o e[kj e]][kj hw],hlr,λ e H7 hR7 fr7=>?_,λ e H7 s7=>bad _[kf e] _ xAl)[gi _ _ (0,di,b,pl+11,true,g4,S,G4,_,_,rfl,fr7 _ _[kj YV] Tc,hR7,λ c o e a1 a2 a3=>fr7 _ _[kj[qy e a1 a2 a3]] a1,hpl',.inr[Ef rfl[LT ed[kt e]]])])
 | @blk _ a n _ _ r z _ o hs kN kT kn=>
  show((ha,Rl,Tf,hm,WB,hgb,hgl)=hs,Sc hRlen[DV tH r=n+5][XV IQ WB xQd] eL'[tH++(r++z)=(UA)++z] (IU _ _ _).symm,(hle,ec,ed,hpl')=cut (R:=UA) eL');rw [hRlen] at hle ec ed hpl';show((wt,Y,[],r++z,pl,_,a,n,_,rfl,hw,Rv,Ai hL JM,xRK Tf,.inl[bQ Tf[Wg z xGQ] yeo[n+2] (Jk xGQ).symm[A9 h[Zs hle]][λ h t v H5 s5 ht hv=>?_]]),vk h' h[v=pF][by
   rcases hv with⟨z,_⟩|⟨_,h,_,z,_⟩
   ·show E9 z xGQ
   ·show AU h z],Sc ec[jv xLR[A6 pl][ST[pl+(n+2+3)]]=A5 UA] ec Q0[∀{x},x∈UA->x∈tH\/x∈r] xZ6,(Yk:∃a' b' r',UA=QH a' b'++r'/\By a'/\AL b'/\US b'/\r'.length=b'+2)=(a,n,r,rfl,ha,Rl,Tf,WB),Cz UA R[g2 _ _[tT AI]],χ W9 x8d (_,rfl,p,Ce,dx,_,_,rfl,W9,T0.cl,T0.nW,oZ,_,rfl,_,rfl,_,rfl,t,_,_,_,rfl,rfl,rR,xp,_,rfl,wt,_,rfl,QK.of[Bn hw],UF lr S9))
  try dsimp only
  show(dW,fw s6 sR S9 hlr[kS H5 lr sR lr=nN],Tl s6 xK9 ht6[Dn sR S9 _ _ ht],az H5 lr sR H6,ω (_,rfl,t,_,_,_,rfl,rfl,xLS,xp,?_) (_,rfl,t,_,_,_,rfl,rfl,xLS,tZ,rfl,_,rfl,AI),Iu hl6[kj YV] hR6[uw H6 g4 wt S b G4 Y true false][TU x7N[xHf c o e[kj e]][kj hw]] (_,rfl,xq hl6,_,rfl,p,dx,_,rfl,x7N,Ep,_,rfl,?_));cases o with
  |none=>
   rcases kN rfl with⟨YY,WD,er⟩|⟨T,hx,er⟩
   ·show DZ (p,co,ck,g4,wt,lr,S,b,G4,Y,R,rfl,hR6,hlr,.inr (hgb,hgl,DX[by show(II[Q0 hx],xAd[xRK Tf x z][YY x z])],WD,Yk,λ H7 s7=>bad _ er _ xAl))
   ·show DM (p,co,ck,g4,wt,lr,S,b,G4,Y,R,rfl,hR6,hlr,.inl (T,hx,hgb,hgl,nofun,nofun,λ _ H7 s7=>bad _ er _ xAl))
  |some T=>
   show((hx,htb,Ss,hS)=kT T rfl,xVB (p,co,ck,g4,wt,lr,S,b,G4,Y,R,rfl,hR6,hlr,.inl (T,hx,hgb,hgl,λ _=>(htb,Ss),λ _ l7 g7 H7 n7 ng7 hl7 hR7 fr7=>?_,nofun)),χ hl76[fr7 _ _ hl6 nlo nlk] (l,l7,_,_,rfl,rfl,hl76,hl7,bV[by show(mY IS,Bj [_,_] Ω[CN XR 1800] WF Bc Ss hS)],?_))
   try dsimp only
   show([-Ji],(kp7:∀c o,Gr[H7 c]->Uz[FL l][(ZX H7 l[S++T]) c])=λ c o e n=>tJ e,((dx7,hp7),hC7,hw7)=hR7,gi _ _ (Y.length-(pl+(n+5))+1,Bj [_,_,_,_,_][BE[Ρ[Aw[XN 4 5]]]] xGX PL Β W1[rA [_,_,_][Ρ[xCz 5]][Ρ[xCz 5]] hpl'],b+1,pl+(n+5),false,g7,S++T,_,_,_,rfl,ad,((dx7,xRV hp7 Tc.symm),hC7.off kp7 nlo.symm nlk.symm[sF hl6 ng7],xRV hw7 nlw.symm),λ c o e a1 a2 a3=>xRV[fr7 _ _[kj[qy e a1 a2 a3]] a2 a3][Af nl],hpl',xQL rfl[LT ed[kn T rfl]]))
inductive xlb (cM cH cK cB cT cL:Qq):xRP Res
 |mark {L:LE}:xUU≠xS6->xIc[.er cM]
 |short {L:LE}:xUU=xS6->xGp 3->xIc[xEQ [] L]
 |er {Y:LE} {c:Qq}:xSk Y oO->xLs[GF Y] oO
 |cut {Y S W:LE}:xSk Y xCG->xLs[GF Y] xCG
 |bhd {Y S W:LE}:xSk Y[xDw W]->W≠ []->xLs[GF Y][.er cL]
 |good {Y S:LE}:xSk Y[xDw []]->xLs[GF Y][xDw []]
def xlb.inv (h:x7n):(xUU≠xS6/\res=.er cM)\/(xUU=xS6/\xGp 3/\res=xEQ [] L)\/∃Y r1,L=GF Y/\xSk Y r1/\EN c[r1=oO->res=oO]/\(∀S W,r1=xCG->res=xCG)/\(∀S W,r1=xDw W->(W≠ []->res=.er cL)/\(W=[]->res=xDw [])):=by
 cases h with
 |mark h=>show DZ[Gs h]
 |short h1 h2=>show DM[xKb h1 h2 rfl]
 |er h=>show x7P (_,_,rfl,h,λ c e=>rn e,nofun,nofun)
 |cut h=>show x7P (_,_,rfl,h,nofun,λ S W e=>rn e,nofun)
 |bhd h hn=>show x7P (_,_,rfl,h,nofun,nofun,λ S W e=>by show(xCN,AU QO[Wg z hn]))
 |good h=>show x7P (_,_,rfl,h,nofun,nofun,λ S W e=>by show(xCN,AU[RO rfl] QO))
inductive xku (cL:Qq) (vs:Sy) (H:Hp) (Q:VK) (E:XK):Prop
 |mk (a:Qq) (R:LE) (e:Nat) (h0:vs=zR[vN e]) (h1:Υ=nN) (h2:xwC e->xJq) (h3:UE e->xzU cL H):xku cL vs H Q E
def xl6 (F:Ο "need_last" xrG xVI)(Z:xJN)(mB:xFo=xOy)(xB:xOM):xPf xVI[xku cL]:=by
 show(x23,kz xhk[λ QE A outer st H vs Q E hr h=>?_],XT a R e rfl ha k kE,jJ[uD[qO xA2 τ] mB xB] (_,rfl,a,_,rfl,BN ha,_,rfl,_,_,rfl,rfl,_,rfl,?_),Gk[xYV[kE[lz rC]][jl[k[JX[SZ[h[IZ[xn z]]]]]]]])
inductive xlt (Ce CO CK cM cH cK cB cT cL:Qq) (vs:Sy) (H:Hp) (Q:VK) (E:XK):Prop
 |mk (p co ck g wt a:Qq) (L:LE) (res:Res) (h0:vs=Tr) (h1:xJ3 [] 0 [] [] false false) (h2:Υ=xO) (h3:xMC) (h4:x7n) (h5:∀fn S W,res=ye4 S W->∀l b g' X7 G' W' bg H',Bv->B0=y0->uw H' g' X7 S b G' W' bg fn->(∀c o,Ψ->CY->yZ->vY->Cf)->B8) (h6:∀c,res=oO->vg[∀c o,Ψ->CY->yZ->vY->Cf][xKX c]):xlt Ce CO CK cM cH cK cB cT cL vs H Q E
def xas (F:Bq "go_through" "Reading.go_through" xvs)(Z:vR)(Bd:Sn)(mB:xFo=xOy)(xB:xOM):pS 42 Jal[xlt Ce CO CK cM cH cK cB cT cL]:=by
 show(T0=Z.tt,xm Ma Z.mark Pa Z.parts La Z.pr.nlast,TZ xj4[λ QE A outer st H vs Q E hr h=>?_] _,(p,co,ck,g,wt,a,L,res,rfl,hR,ha,hl,hT,k,kE)=h,tP RW hV hr32 32,xDe hr41 41,(n1,n2,n3,n4,n5,n6)=hR.ne,xz0 dx hp hw hR,xJ1[nZ[rY B5 τ][ac[qk[xW B5][aB[xtR Η T0.cl Ma.m[xgV Ma.F Z] hr32 Ma.b .nil bJ]]]
  (DP 2 xj4.nd[xqY x5A[xtR Η T0.cl Pa.m[xgN Pa.F Z Bd] hr41 Pa.b .nil bJ] rE][qk x5A[aB[dz[xl6 La Z.pr mB xB] RW La.m La.F.kp La.b bJ[W5 B5]]]] Ζ)]] (_,rfl,p,Ce,dx,_,_,rfl,hp,T0.cl,T0.nW,oZ,_,rfl,wt,a,_,_,rfl,rfl,hw,ha,bV[by show 0+(sZ).length≤_;show uO[HH Re xF3 kM Bc hl]],UF l1 nl1),[CA[A5 ([]:LE)++sZ] sZ],Iu s1[Dn sZ nl1] Tc[vj l1][sF hp nl1] (_,rfl,p,Ce,dx,_,rfl,kY,T0.cl,T0.nW,zK,A1),Aj,[xyO],Sc Tt[∀c o,Ψ->px[xBI xXz xWB c]][λ c o e n=>tJ HC] RD[AX[xBI xXz xWB p] Ce xWB] ad,xAI hw1[xBI xXz xWB l1=xO][xk Tc ad][xBI xXz xWB] H1,υ hC1[hC.off Tt n1 n2 n3] hR1[uw H1 g l1 [] 0 [] L false false][TU RD hC1 hw1],SC nn[∀{c} {H2:Hp},(∀c o,Ψ->CY->ZL)->CU o[xKC p]->Θ[H2 c]->B7 c][λ {c H2} kp ⟨o,h⟩ n=>by
  cases e:H c with
  |none=>rfl
  |some o=>
   by_cases z:c=p
   ·show FZ h n n
   ·show AQ xOd n n][aq λ R2 g1=>(_,rfl,p,Ce,dx,_,_,rfl,RD,T0.cl,T0.nB,zn _ _ _ _,false,rfl,Zy)],Sc fr1[∀{H2:Hp},xHL->∀c o,Ψ->CY->yZ->vY->ZL][λ s2 c o e n _ _=>ES[SX e n]] t3[∀Y:LE,(184::66::1::Y).take 3=yfH[184::66::1::Y]][λ Y=>Ar[Jo[show xBd mk3.length[184::66::1::Y] from xZK]]])
 rcases hT.inv with⟨RI,er⟩|⟨he,h3,er⟩|⟨Y,r1,eL,hz,k1,k2,k3⟩
 ·exact(_,rfl,p,dx,_,rfl,RD,Ep,p,co,ck,_,l1,_,0,[],L,rfl,hR1,λ _ H2 s2=>kE _ er _[fr1 s2],Wg z RI,λ Y X7 H2 e=>absurd[WQ[t3 Y]] RI)
 ·show(VB (_,rfl,p,dx,_,rfl,RD,Ep,p,co,ck,_,l1,_,0,[],L,rfl,hR1,RO he,λ _ _ H2 s2=>A1,λ Y X7 H2 e=>absurd h3[WQ[Zs xZK]]),B9 Q1[ES RD][yD (_,rfl,p,Ce,dx,_,_,rfl,Q1,T0.cl,T0.nB,zn _ _ _ _,false,rfl,bp[ka Z9 l nl A1])],ju s3 xWT RE[Ge Q1] (_,rfl,p,Ce,dx,_,_,rfl,RE,T0.cl,T0.nF,xD8,false,rfl,gM[k false [] L er l 0 g l1 [] L false _[nn[λ c o e n=>ES[SX e n]][EX Q1] nl] ad[TU RE[hC1.keep λ c o e _=>xIs][xTQ hw1]][fr1 AE]]))
 ·show(VB (_,rfl,p,dx,_,rfl,RD,Ep,p,co,ck,_,l1,_,0,[],L,rfl,hR1,RO[LT eL[t3 Y]],λ _ z=>absurd z[LT eL[Zs xZK]],λ Y' wt2 H2 e SK YR=>A1),Hu[Y=Y'][List.append_cancel_left (as:=mk3) (eL.symm.trans e)],mj Y3 Q1 SK.ob kp12[∀c o,Ψ->CY->ZL][λ c o e n=>xJT[SX e n] n],xJp (_,rfl,p,Ce,Y3,_,_,rfl,Q1,T0.cl,T0.nB,zn _ _ _ _,true,rfl,bZ (_,rfl,p,Y3,_,rfl,Q1,Ep,p,co,ck,_,wt2,Y,r1,rfl,SK,hz,λ fn S W e1 l b g' X7 G2 H3 nl RV RS fr3=>A1,λ c e1 H3 fr3=>kE c[k1 c e1] H3 λ c o e a1 a2 a3=>fr3 _ _[kp12 _ _ e a1] a1 a2 a3)),mj Uy RE RS.ob frA[∀c o,Ψ->CY->yZ->vY->xJC][λ c o e a1 a2 a3=>fr3 _ _[kp12 _ _ e a1] a1 a2 a3],YQ=nn kp12[EX Q1] nl);cases fn with
  |false=>exact(_,rfl,p,Ce,Uy,_,_,rfl,RE,T0.cl,T0.nF,xD8,false,rfl,gM[k false S W[k2 S W e1] l b g' X7 G2 W true H3 YQ RV RS frA])
  |true=>
   show Ib kb kg[k3 S W e1] (_,rfl,p,Ce,Uy,_,_,rfl,RE,T0.cl,T0.nF,xD8,true,rfl,bZ (_,rfl,p,Ce,Uy,_,_,rfl,RE,T0.cl,T0.nW,oZ,X7,W,0,rfl,RS.ws,SZ[BV[k true S [][kg[O0[yir z]]] l b g' X7 G2 W true H3 YQ RV RS frA]],SZ[kE _[kb[List.ne_nil_of_length_pos z]] H3 frA]))
def xww (w p:Nat):dD Bool
 |0,_=>true
 |n+1,s=>(x6O p s !=1)&&xww w p n[x6O p s]
theorem xpm:∀{n s d:Nat},Ty[xww w p n s]->d<n->yf[d+1] s≠1
 |0,_,_,_,h=>absurd h[NM _]
 |n+1,s,d,h,hd=>by
  obtain⟨h1,h2⟩:=Bool.and_eq_true_iff.1 h;cases d with
  |zero=>exact bne_iff_ne.1 h1
  |succ d=>
   have:=xpm h2[Nat.lt_of_succ_lt_succ hd]
   rwa [<-BJ[yf[d+1+1] s][yf[d+1][x6O p s]][CK.xzk w p[d+1] 1 s]] at this
def xet:Ty[xww 8 29 30 1]:=Z8
def ord16:Ty[xww 16 45 560 1]:=Z8
theorem xps (w p):∀(D:LE) (s d:Nat),xHj[s^^^d] D=xRF D^^^yf xQm d
 | [],_,_=>rfl
 |x::D,s,d=>by
  show C7[zj[s^^^d] x=zj s x^^^yf 8 d][by
   show(xUV,[-CK.xrz,LM,LM,Nk d])]
  show xHj[zj[s^^^d] x] D=xHj[zj s x] D^^^_;rw [e,xps w p D,<-CK.xzk];rfl
def xjQ (w p s t x y):zj[s^^^t][x^^^y]=zj s x^^^yf 8[t^^^y*2^(w-8)]:=by
 show(xUV,[-CK.xrz,-CK.xeD,LM,LM,-LM t,Nk t,LM])
def xgS (hw:xDZ)(ho:Ty[xww w p n 1])(hb:b<8)(hc:c<8)(hm:8≤m)(hn:YJ[m+7]):yf m[2^b*2^(w-8)]≠2^c*2^(w-8):=λ e=>by
 show(yaL h1 h2 h3,(up:∀b,b<8->2^b*2^(w-8)=yf[b+(w-8)] 1)=Bm[by
  rw [CK.Tn_up[LT P1[O7[by decide][Bj [_,_,_][tG xHF][oy Uf] rS Uf hb[UO Dv Dv h1]]]],P1,LW]])
 rw [up b hb,up c hc,<-CK.xzk,show m+(b+(w-8))=(c+(w-8))+((m+b-c-1)+1) by show BW[CM [_,_,_,_,_,_][Vv WF][xJx[Vv Cv]] Iy[xIf xXl] W1 W1][CM [_,_,_,_,_,_][.a[Vv Cv] xXl][xL5 nV][xIf xXl] Iy[NL.J'[CM [_,_,_][Eg xi] xNZ Uf WF hc hm]][NL.J'[Bx [_,_,_,_][Fg[oy WF]][oy[Ρ xY]] AM Cv hc hm W1]]],CK.xzk] at e;refine xon hw[CK.xtz h3 ?_] ?_[xpm ho[DE [_,_,_,_,_][Fg[.a[ud 7][Gh SB]]][oy[Ξ[oI xY]]] SB SL hb hn[xVx fj[Bx [_,_,_,_][gK[oy HM]][oy[Aw xF1]] AM Cv hc hm W1]]]] e
 ·show yiC[by omega]
 ·show yiC[by omega]
def xbi (hw:xDZ)(ho:Ty[xww w p n 1])(hA:xCy d A d)(hx:xDr)(hy:By y)(hb:b<8)(hc:c<8)(hD:xCy d D d)(hF:xCy d F d)(hn:YJ[xQm+15]):Uo[A++(x^^^2^b)::(D++(y^^^2^c)::F)]≠Uo[A++x::(D++y::F)]:=by
 show(Tl hp yaP hs[xtg hw hA],Sc b8[∀{b},b<8->By[2^b]][jl[O7 (a:=2) (by decide) h]] p8[∀{a b:Nat},ZO->xIK->By[a^^^b]][λ h1 h2=>Kw (n:=8) h1 h2],Tl h0[xX2[b8 hb]] h9[xX2[b8 hc]],VT[∀u v,Uo[A++u::(D++v::F)]=xHj[zj[xHj[zj[Uo A] u] D] v] F][λ u v=>by
  unfold chk crc;rw [Lx,Pi,Lx,Pi]],xQh e1,Sc e2[zj[Uo A][x^^^2^b]=zj[Uo A] x^^^yf 8[2^b*2^(w-8)]][by
  have:=xjQ w p[Uo A] 0 x[2^b]
  rwa [Nat.xor_zero,Qk] at this] lB[∀s u,zj s u<2^w][λ s u=>by
  show(xUV,CK.T_lt hp)],[e2,xps,xjQ,-CK.xzk],De q[yf[xQm+8][2^b*2^(w-8)]^^^2^c*2^(w-8)] 0[SZ[xgS hw ho hb hc[L7 8 _][tS [_,_][CN HE 15][CN[Eg HE] 7] hn][xxp[z.trans (NK[2^c*2^(w-8)]).symm]]]] ql[yf[xQm+8][2^b*2^(w-8)]^^^2^c*2^(w-8)<2^w][Kw[xMg h0] h9],SC l8[yf 8[yf[xQm+8][2^b*2^(w-8)]^^^2^c*2^(w-8)]<2^w][xMg ql][ut hw F _ _[Kw[lB _ _] l8][lB _ _] A4 hF],(z0:yf 8[yf[xQm+8][2^b*2^(w-8)]^^^2^c*2^(w-8)]=0)=Ε Nk z[xxp[z.trans (Qk _).symm]],yaL h1 h2 h3,q[CK.Tn_inj[Ja[by decide] h1] h2 h3 ql z0])
def bent (A:LE)(j b:Nat):LE:=A.set j[(xIt)^^^2^b]
def xwb (A j b):BD[uy A j] A.length:=My
def xqe (hx:xDr)(hb:b<8):By[x^^^2^b]:=Kw (n:=8) hx[O7 (a:=2) (by decide) hb]
def xvS:x^^^2^b≠x:=λ e=>by
 have:2^b=0:=Ε Nk e[xxp[e.trans (Qk x).symm]]
 show E9 this[K4[LF[by decide]]]
def xmY {A:LE}(hA:xJl)(j):By xIt:=by
 rw [Jm];cases e:A[j]? with
 |none=>decide
 |some y=>exact hA y xIn
def xqx {A:LE}(hA:xJl)(hb:b<8):Dl[uy A j]:=pp hA[xqe[xmY hA j] hb]
def xre {A D:LE}:uy[A++x::D] A.length=A++(x^^^2^b)::D:=by
 show(x3K,[OS _ _ ρ,LU,Jm,Jz ρ,LU]);rfl
def xmP {A:LE}(h:xGq k):∃B x D,A=B++x::D/\B.length=k:=
 (A.take k,A[(k)],A.drop[k+1],xXb[Kt h],xMm Jc)
inductive Bt (R:LE) (k:Nat):BY LE
 |one {b:Nat}:b<8->Bt R k[uy R k]
 |two {b l c:Nat}:b<8->k<l->UE l->c<8->Bt R k[bent[uy R k] l c]
def Bt.facts (h:dO R)(hR:Dl R):Z.length=R.length/\X1 Z/\Z.take k=R.take k:=by
 cases h with
 |one hb=>show Dj xX4[xqx hR hb][Fq bent[N9 ρ]]
 |two hb hl _ hc=>show Dj[by rw [xwb,xwb]][xqx[xqx hR hb] hc][jb bent[N9[Jy hl]][N9 ρ]]
theorem Bt.chk (hw:xDZ)(ho:Ty[xww w p n 1])(hn:C8≤n+1)(h:dO R)(hk:UE k)(hR:Dl R):x1D p Z≠x1D p R:=by
 show((A,x,D,rfl,rfl)=xmP hk,Sc hA[fE A][IB[hR y[wz hy]]] hD[fE D][IB[hR y[vA Qt]]],(hx:xDr)=hR x[vA Jl]);cases h with
 |one hb=>show LT xre[xcY hw hA[xqe hx hb] hx xvS hD]
 | @two b l c hb hl hlR hc=>
  rw [xre];rw [IQ,Jn] at hlR hn;show((E,y,F,rfl,hE)=xmP (A:=D) (k:=l-(A.length+1)) (yc [_,_,_,_][ZH xMX][yt xV0] hlR[rA [_,_] SB SB hl]),(el:l=DV A[(x^^^2^b)::E])=by show(mE Jn hE,Em Re xV0 Re yp W1[EZ xV0 Re yp Re[VD [_,_] Β Β hl]]),[el,show A++(x^^^2^b)::(E++y::F)=(A++(x^^^2^b)::E)++y::F by show Ar IU,xre,IU],xbi hw ho hA hx[hD y[vA Jl]] hb hc[λ d hd=>hD d[wz hd]][λ d hd=>hD d[vA[XQ hd]]] ?_);rw [IQ,Jn] at hn;show Ay [_,_,_,_][HD[Aw[AS[Ρ dQ]]]] Β[CN HE 15] SL hn
def xqo (w p A x):x1D p[A++Dt]=zj[x1D p A] x:=xqp ..
def head0:x1E 29 [a,b,x1E 29 [a,b]]=0:=by
 show([CA [a,b,x1E 29 [a,b]][[a,b]++[x1E 29 [a,b]]],xqo],xUV,[CA[2^(8-8)] 1,Nat.mul_one,NK,CK.Tn_zero])
def xiX {X:LE}(hX:Dl X):xCa[sld X]=0:=by
 have hl:=xKW hX;unfold sld two;rw [show X++[xCa X/256,xCa X%256]=(X++[xCa X/256])++[xCa X%256] by show Ar IU,xqo,xqo];generalize xCa X=c at*;show(C7[c^^^c/256*2^8=c%256][by
  show cX[CK.xeA[c/256][c%256] 8[Im[by decide]]][show c/256*2^8+c%256=c by omega]
  calc c^^^c/256*2^8=(c/256*2^8^^^c%256)^^^c/256*2^8:=by rw [this]
   _=c%256:=by rw [Nk,<-LM,NK,Qk]],xUV,[CA[16-8] 8,e,CK.Tn_up (s:=c%256) (by show xC9[c%256*256];show Ay DU[xC2 256][.m 256 HN][AS[xBb 256]] ycZ[IV 256[Im di]]),NK,CK.Tn_zero])
universe K27.Ck
namespace K27.Ck
open PySem L2 QQ W17 W16 BP K27.M
def CpR.x:∀{t S t' S'},xRG t S t' S'->CpX true R e t S t' S':=by
 intro t S t' S' h
 induction h with
 |done h=>exact xAG h
 |sg a b c _ ih=>exact .sg a b c ih
 |cp a b c d e f _ ih=>exact .cp a b c[λ _=>ih][RO (d,e,f)]
def xdP:∀{S b T b'},xRH S b T b'->ShX true L e S b T b':=by
 intro S b T b' h
 induction h with
 |done h=>exact xAG h
 |sg a b c _ ih=>exact .sg a b c ih
 |cp a b c d e f g _ ih=>exact .cp a b c d[λ _=>ih][RO (g,e,f)]
theorem TxG.x (h:xRX u n T t):TxX true R W u n T t:=by
 cases h with
 |raw=>exact .raw rfl
 |run h=>exact yem h
 |cpy h=>exact .cpy h.x
 |shr a b c d e=>exact .shr a b c[xdP d] e
def xun {A B:LE}(h:xGq k):uy[A++B] k=uy A k++B:=by
 show(x3K,[List.set_append_left _ _ h,Jm,JP h,-Jm])
def xsQ {A B:LE}(h:x3i k):uy[A++B] k=A++uy B[k-A.length]:=by
 show(x3K,[OS _ _ h,Jm,Jz h,-Jm])
def Bt.left {A B:LE}(h:dO[A++B])(hk:xGq k):∃Y W,Z=Y++W/\Bt A k Y/\x5c A.length/\W.length=B.length:=by
 cases h with
 |one hb=>show Z0 _ _[xun hk] ye5 xX4 rfl
 | @two b l c hb hl hlR hc=>
  show([xun hk],iq l A.length q q)
  ·show Z0 _ _[xun[vM xwb]][.two hb hl q hc][by rw [xwb,xwb]] rfl
  ·show Z0 _ _[xsQ[vM xwb]] ye5 xX4 xX4
def Bt.right {A B:LE}(h:dO[A++B])(hk:x3i k):∃Y,Z=A++Y/\Bt B[k-A.length] Y:=by
 cases h with
 |one hb=>show iu[xsQ hk] ye5
 | @two b l c hb hl hlR hc=>
  show Ε IQ hlR[CS[by rw [xsQ hk,xsQ[IY hk[Jy hl]]]][.two hb[DE [_,_,_,_,_][ZH[Gh EH]][Gh xGX] SB SL hl W1[Vp [_,_] hk]][yc [_,_,_,_][ZH EH][yt DG] hlR[NL.J'[Dg [_,_,_] Dw Φ Uf hk hl]]] hc]]
structure GB (W T R:LE)(a n:Nat)(r:LE):Prop where
 eq:R=UA
 ha:ZO
 n1:Vt
 n2:wV
 hr:k8[n+2]
 ct:xGk[a%64+1]
 byt:Dl R
 ck:xCa R=0
 t64:jW
 le:xLZ n
 tb:D4
 good:ye3 W T R
 any:∀{G:LE},X1 G->∃ok T',xX3 G T' R/\(AB->ykM/\Dl T')
def PB.short (h:xSq):xwC[T.length+5]:=by
 show(Fw i ps Rb hi hm hp hr rfl,Tl hlen hr.len h1 (hm 0 Z9).1);rw [xx2 (u:=0) (ps:=ko) rfl,xwT,xx2 hp] at h1;rw [xyh,IQ];show 3+_+2≤_;show BM[Zc 8 [_,_,_,_][jt[BE EG]][xo[ou[ud 7]]] xWv ic x6j[xOT DB]]
def PB.gb (h:xSq)(t:oi):∃a n r,GB W T R a n r:=by
 show((u,ps,Rb,hi,hp,r,eR,Td,Q0)=h.parts t,Tl hx[xpY hp t r] h1 t.one,DF h2 t.le ha[By[E7[64*u]-1]][xoV hi h1 h2] hX[Dl[sM[E7[64*u]-1]++Rb]][ow[xRK Q0 x][r.byt x]],(E7[64*u]-1,Rb.length,Rb++two[xCa[sM[E7[64*u]-1]++Rb]],by show([eR],Fq sld IU),ha,Td,Q0,Ar IQ,by omega,(h.facts t).1,LT eR[xiX hX],h2,by have:=h.short;rw [eR,xyh,IQ] at this;have:x3W 3+2≤_:=this;show Ay [_,_] xWv ic Re SL this,t.tb,(u,T.length,Rb,Gj,hi,t.one,t.le,Td,Q0,r.byt,eR,(hx.1).x,λ _=>hx.2),λ hG=>h.any t hG))
def xrf (T:LE):DQ LE
 |0=>[]
 |j+1=>grp j mF xH0
theorem xsJ:∀j,xLZ[64*j]->mF=wn T j
 |0,_=>rfl
 |j+1,h=>by
  show grp j mF xH0=_;rw [xsJ j[tS [_,_][wK SB] xKS h],xpK h]
section
variable (cH cK cB cT:Qq)
inductive xjF (T:LE) (Rs:yO) (j:Nat):Prop
 |mk (R:LE) (a n:Nat) (r:LE) (e:Vm) (g:GB mF xH0 R a n r) (h:xMS[64*j]):xjF T Rs j
theorem xse.gb (hN:Ff)(hb:D4)(hj:j<DJ):xjF T Rs j:=by
 show(eN QY[xMS[64*j]][by unfold nB at hj;show Bj [_,_,_][UK SB gv][xOG xBv][AS xKS] SL[qJ hj] DB] e[IW[show x4u j by show LT Ap hj]],C5 a n r g[PB.gb[hN.2 j _ e][xs8 QY hb]] (_,a,n,r,e,LT[xsJ j[Jy QY]] g,QY))
def xyT (h:xMS[64*j])(hb:D4)(g:GB mF xH0 R a n r):Shp xPn mF a n r:=
 (g.ha,g.n1,g.n2,xMm Jc,g.hr,LT[xsJ j[Jy h]] (xs8 h hb).wb,LT[xsJ j[Jy h]] (xs8 h hb).wl)
def xnS (h:dO UA)(hk:k≤2)(ha:ZO)(hn:By n):∃x y c Z',Z=[x,y,c]++Z'/\(xr [x,y,c][By u])/\FL[xHt x y]:=by
 obtain⟨Y,W,e1,h3,el,_⟩:=h.left[Eo k (tH).length[Lf hk]];rcases Y with _|⟨x,_|⟨y,_|⟨c,_|⟨d,Y⟩⟩⟩⟩<;>try cases el
 show χ hh[bx ha hn] (x,y,c,W,e1,AV[h3.facts hh],λ ec=>h3.chk wp8 xet[HA[8*3≤31]][Eo k 3[Lf hk]] hh[XV ec head0 head0.symm])
def xpG {z:LE}(h:xMS[64*j])(hb:D4)(hl:yP)(g:GB mF xH0 R a n r)(k:Vs[j+1][ycG[j+1]][xrf T[j+1]] z):Vs j xPn mF[R++z]:=by
 show(C7[R++z=tH++(r++z)][xJo g.eq],Γ e[x1U[some xH0][xyT h hb g] nofun (UF T' z)[UF T' z]])
 ·show CR z (g.eq▸g.good,g.tb,g.t64,Gb[Dg [_,_] Ω xAS xF0 hl Fb])
 ·show(xCO,LT lm k)
theorem xx4 (hN:Ff)(hb:D4)(hl:yP):∀{j},j≤DJ->∀{z},Vs j xPn mF z->Vs 0 [] [][wa++z]
 |0,_,z,h=>h
 |j+1,hj,z,h=>by
  show(xwE R a n r e g QY hj,[Kj,e,NH,Ld,IU,NE],xx4 hN hb hl x6J[xpG cH cK cB cT QY hb hl g h])
def xhO (T:LE):ycG DJ=T:=Jo[by show(ir,Ay [_,_][xFS 63] xWr Re cF zV)]
variable (cM cL:Qq)
def Bad (L:LE)(i:Nat):Prop:=CU c[zy [cM,cH,cK,cB,cT,cL]/\xIc oO]\/(i=6/\∃S W,xIc xCG)
def xlE (h:xSk L oO)(hi: zy [cM,cH,cK,cB,cT,cL]):jN xB0 i:=xKb c hi[.er h]
def xiL {L:LE}{k v:Nat}(h:xv k v)(hk:k<3)(hv:mk3[k]?≠Ha):jN L 0:=by
 show(xQL cM[.mark A4],wL[λ l=>l[k]?] z,hl=UJ h,aG[show Cs[xUU] k v by rw [L5,Ju hk,h]][show(xS6)[k]?=mk3[k]? by show Vr L5 hl] this[hv this.symm])
def xbo {Z z:LE}(hN:Ff)(hb:D4)(hl:yP)(hj:Vm)(h:dO R)(hk:UE k):jN[GF[wa++(Z++z)]][d7[k≤2] 2]:=by
 show((hjn:j<DJ)=Bg Ap[UJ hj],xwE R' a n r e g QY hjn,Hu[R=R'][JA[hj.symm.trans e]],(l1,l2,l3)=h.facts g.byt,υ hR g.eq W0[xNk[n+5]][by show AR hR g.hr;show 3+_=_;show T5 x50 vy[Fv vy x50]])
 by_cases Uk:k≤2
 ·show(w6 Uk,HG hR,(x,y,c,Z',rfl,l2,hc)=xnS h Uk g.ha[sk g.n2],Ea[xGR cH _ _ _ _ _ _[xx4 _ _ _ _ hN hb hl x3Y ?_] rfl] IU[.badH l2[.inl hc]])
 ·show(iR Uk[xGR cK _ _ _ _ _ _[xx4 _ _ _ _ hN hb hl x3Y ?_] rfl],Sc e3[Z=tH++ydN][by
   show wL yaM l3;rw [N3,N3,J9[qZ xWn DH[Lr Uk]],hR,MT[CA (tH).length 3]] at this;show xU6 JJ] er[BD ydN[n+2]][by show([Je,l1,W0],BW[Dh IH ic Re xBY[NL.J'[Fv DH vy]]][Dh ic IH xBY Re W1])],xJo e3,(q1,q2,q3,q4,_,q6,q7)=xyT QY hb g,yfi (q1,q2,q3,q4,er,q6,q7)[λ _=>xKb[DX[l2 x xBr]] ?_ rfl] nofun nofun,[-e3],Sf,h.chk wp16 ord16[by rw [W0];have:=g.n2;show Ay DU HE[HD XR][HD vy][AS[.n 560]][wk q3]] hk g.byt ?_,EK g.ck z[xiX[DX[l2 x gw]]])
universe s
def plc (Rs:yO)(j:Nat):Nat:=3+ygD j
def xpH (h:Vm):Gl=(GF wa)++(R++jC[j+1]):=by
 show GF[xXq]=_;rw [<-xxX h];unfold rem;rw [IU,<-IU wa,<-Ld,JJ]
def xya (Rs)(j):cJ wa=Hi:=Ar IQ
def gB (T):BD Gd 11:=rfl
def xf8 (hb:D4):Dl Gd:=DX[DC h9[Dl[yK++four T.length++gu T]][ow[EA[xv7 q[xIj x][xtJ _ x]]][dR xHa x]][xv7 hx[h9 x][dR[xKW h9] x]]]
def xwY (Rs)(T):Gl=(GF Rs.flatten)++Gd:=lP[GF[xXq]=_] IU
def xaL {A Y W:LE}(h:xKH A.length≤m):xIi A[Y++W] m=A++(Y++W.take[m-(xKH A.length)]):=by
 rw [<-IU,MY,Jo[GV h],IQ,IU]
inductive xsG (T:LE) (Rs:yO) (k:Nat):gh
 |mark:k<3->xSe 0
 |tail {q:Nat}:k=Sg+q->q<11->xSe[d7[q≤2] 4]
 |blk {j q:Nat} {R:LE}:Vm->k=Hi+q->UE q->xSe[d7[q≤2] 2]
section
variable (cH cK cB cT cM cL:Qq)
def xyR (hN:Ff)(hb:D4)(hl:yP){z:LE}(h:Vs DJ T x8m z):Vs 0 [] [][xE1 z]:=by
 have:=xx4 cH cK cB cT hN hb hl (j:=DJ) ρ[LT xhO h]
 rwa [Jo[IR Ap]] at this
def xal (hN:Ff)(hb:D4)(hl:yP)(h:dO Gd)(hk:k<11):jN[GF[xE1[Z++z]]][d7[k≤2] 4]:=by
 by_cases Uk:k≤2
 ·show(w6 Uk,(x,y,c,Z',rfl,l2,hc)=xnS (a:=0) (n:=0) (r:=jj Gd) h Uk Z9 Z9,Ea[xGR cH _ _ _ _ _ _[xyR _ _ _ _ hN hb hl ?_] rfl] IU[.badH l2[.inl hc]])
 ·show(iR Uk[xGR cT _ _ _ _ _ _[xyR _ _ _ _ hN hb hl ?_] rfl],(l1,l2,l3)=h.facts x7D,Sc e3[Z=yK++ydN][by
   show wL yaM l3;rw [N3,N3,J9[qZ xWn DH[Lr Uk]]] at this;rw [BJ yK[Z.take 3] this.symm,JJ]] ne[Z≠Gd][SZ[h.chk wp16 ord16[Hd gB] hk x7D xQe]],XV e3 IU[.tl[Ai Je l1][Wg[e3.trans z] ne] QO])
def xao (hN:Ff)(hb:D4)(hl:yP)(h:dO Gl)(hd:xSe i)(hm:BQ≤m\/(k+11<BQ/\BQ≤m+11)):jN[Z.take m++z] i:=by
 show(hB=(xX5 hb hl).1,ak l1 l2 l3[h.facts hB] W4[14≤BQ][by rw [xwY,IQ,IQ,gB];show 14≤3+_+11;show S1 UR xBx])
 cases hd with
 |mark hk=>
  show((hkm:k<m)=by omega,vk A A[A=iC Gl k] CQ,A3 RI[∀v,Cs Z k v->mk3[k]?≠Ha][by
   intro v hv;show(Sc e0[mk3[k]?=(Gl)[k]?][lP[mk3[k]?=(GF xOY)[k]?][JP[Eo k mk3.length hk]]] QF[k<BQ][yc [_,_][BZ 14 SB] Fz W4 hk],e1=IW QF,[e0,e1]);intro e2;have e3:iC Gl k=(Gl)[(k)]:=Yy e1
   cases h with
   |one RJ=>
    unfold bent at hv;rw [KO QF,e3,<-JA e2] at hv;exact xvS[JA hv]
   |two RJ U1 _ _=>
    unfold bent at hv;rw [Mc[by omega],KO QF,e3,<-JA e2] at hv;exact xvS[JA hv]] hZ[k<Z.length][DE [_,_,_][Aw[BZ 14 SB]][Ξ xOj] SB SL xTO W4 hk][xiL (k:=k) (v:=Z[(k)]) _ _ _ _ _ _ ?_ hk[RI _[IW hZ]]],[JP[xMm Jc],L5,Ju hkm,IW hZ])
 | @tail q ek hq=>
  show((hm':BQ≤m)=by
   rcases hm with hm|hm
   ·exact hm
   ·rw [xwY,IQ,IQ,gB] at hm;have:Sg+q+11<Sg+11:=ek▸hm.1;exact yR [_,_][Ft[IM yv] 11] xBx this,[Jo[LT l1 hm']],HG xwY,(el:cJ Rs.flatten=Sg)=IQ,XG Y hY[h.right[LT el[EZ[HQ yv] SL yv SL zt]]]);rw [el,show k-(Sg)=q by show El[uW [_,_,_,_][xL3 x5S][HQ[IM x5S]] xMU[rA [_,_,_][m8 xWk] xWk zt]] [_,_,_,_][HQ[IM x5S]][xL3 x5S] SL zt W1] at hY;show XV IU IU[xal _ _ _ _ _ _ hN hb hl hY hq]
 | @blk j q R hj ek hq=>
  rw [xpH hj] at h l1 hm;show XG Y hY[h.right[LT xya[EZ EH SL Re SL zt]]];rw [xya,show k-Hi=q by show El[uW [_,_,_,_] gs x53 xMU[rA [_,_,_] HM Uf zt]] [_,_,_,_] x53 gs SL zt W1] at hY;show((Y,W,rfl,hY,el,eW)=hY.left hq,(hr:xBd 11[jC[j+1]])=Bz rem IQ[L7 11 _])
  rw [IQ,xya,IQ] at hm;show uA[xaL[by rw [xya,el];omega]] IU IU IU[xbo _ _ _ _ _ _ hN hb hl hj hY hq]
theorem xiC (hN:Ff)(hb:D4)(hl:yP):∀n j q,n+j=DJ->q<(xID).length->∃S W,x0y j xPn mF[(xID).take q] xCG
 |0,j,q,h,hq=>by
  show Hu[j=DJ][BW[xWc kM xA][d6 kM Re RA]]
  rw [xph hN] at hq ⊢;show(xGH gB,yB q 3)
  ·show iu _[.cut[Gb[CM [_,_] xM1 Xg SB DH z G8]][DX[x7D x gw]]]
  ·show(C7[yfK q=yK++xzO Gd 3[q-3]][gA[CA Gd[yK++jj Gd]] MY[Jo[show EI yK q from z]]],WQ[CS _[.cutT[Gb[Bx [_,_,_][gK[Ρ xOj]][BZ 11 DG] SB Dv hq G8[qj z]]]]])
 |n+1,j,q,h,hq=>by
  show xwE R a m r e g QY[show j<DJ by show tS [_,_,_] xGW SB xA];rw [xxX e] at hq ⊢;show yB q R.length
  ·show([KP[Jy z]],iq q 3 y y)
   ·show iu _[.cut[Gb[CM [_,_] xM1 Xg SB DH y G8]][DX[g.byt x gw]]]
   ·show(jz hR g.eq hR IQ g.hr z,(z:q<3+(m+2))=z,Iv hR MY[Jo[show EI[QH a m] q from y]][CS _[.cutB g.ha g.n1 g.n2 (xyT QY hb g).m[by rw [Jc,g.hr];show min[q-3] _<_;show DE [_,_,_,_][Fg[Ρ[ud 3]]][.a[BI xBY] xY] SB xBY z G8[qj y]]]])
  ·show([MY,Jo z],xGH IQ,ZQ S W k[xiC hN hb hl n[j+1][q-R.length][Em gc Uf Dw Uf xA[EZ Uf gc Uf Dw RA]][yc [_,_,_,_][Fg Hk] x53 hq[VD [_,_] SL SL z]]] S W[xpG _ _ _ _ QY hb hl g k])
def xa4 (hN:Ff)(hb:D4)(hl:yP)(hq:q<BQ):jN[fu q] 6:=by
 show(xVD Ej,yB q 3)
 ·show(Sc e[fu q=mk3.take q][KP[Jy z]] el[BD[mk3.take q] q][Gb[J9[Jy z]]],WQ[CS _[.short[by rw [el,Jo[LT el[HH SB DH Re DH z]]]][LT el z]]])
 ·show(C7[fu q=GF[Ew xOY q 3]][YB[(GF xOY).take q=_] MY[Jo[um mk3.length q z]]],(S,W,k)=xiC cH cK cB cT hN hb hl DJ 0[q-3] rfl[by show(RC[BQ=iT xOY 3],DE [_,_,_,_][Fg[BE IH]][BE x5W] SB SL hq Yp[qj z])],WQ (S,W,.cut k))
def xjf (z:LE):xRI T G[Gd++z][x9a T z]:=.tl (r:=jj Gd) rfl QO[mZ q rfl q]
def xb1 (hN:Ff)(hb:D4)(hl:yP):xLs Gl[x9a T []]:=x3[xyR cH cK cB cT hN hb hl[xjf cH cK cB cT (b:=DJ) (T:=T) (G:=x8m) []]] JM[.good this]
def xii (hN:Ff)(hb:D4)(hl:yP):jN[Gl++Dt] 5:=by
 show pY[.inl[xZx cL]][xyR cH cK cB cT hN hb hl[xjf cH cK cB cT (b:=DJ) (T:=T) (G:=x8m) Dt]];rw [<-IU] at this;exact .bhd this nofun
def xac (hN:Ff)(hb:D4)(hl:yP)(hr:k8 8)(RI:Tz≠Gd):jN[GF[xE1[Tz]]] 4:=by
 show pY[xGR cT _ _ _ _ _ _[xyR _ _ _ _ hN hb hl ?_] rfl][xsy.tl (cH:=cH) (cK:=cK) (cB:=cB) (cT:=cT) (b:=DJ) (S:=T) (G:=x8m) (r:=r) (z:=[]) (res:=.er cT) hr[mZ q q RI] QO]
 rwa [JM] at this
universe s
def ctR (R:LE):Nat:=R.headD 0%64+1
def cts (Rs:yO):Nat:=(Rs.map ctR).sum
def GB.cnt (g:GB W T R a n r):xGk[ctR R]:=xML g.ct g.eq
def xpc {G T':LE}(h:xUN[64*(b%4)])(h2:US T'.length):EI x70[64*((b+1)%4)]:=by
 unfold grp;by_cases z:(b+1)%4=0
 ·show oB z B1
 ·show Wf z IQ;omega
def xpr {G T':LE}(h:Dl G)(h2:Dl T'):Dl x70:=by
 unfold grp;by_cases z:(b+1)%4=0
 ·show oB z[nofun]
 ·show Zz z[ow[h x][h2 x]]
def xaB (hb:D4):Dl xH0:=LB[JZ gw]
theorem xjL (hb:D4):∀j,EI mF[64*(j%4)]/\Dl mF
 |0=>(B1,nofun)
 |j+1=>aw h1 h2[xjL hb j][xpc h1[Bz blk Jc G8]][xpr h2[xaB hb]]
def xah {n m c d:Nat}(hn:xC9 n)(hm:xC9 m)(h:tailR n c=x9h d):n=m:=by
 show(Tl h5[yeM[λ l=>l[5]?]] h6[yeM[λ l=>l[6]?]],Sc h5[xGl n/256=xGl m/256][JA h5] h6[xGl n%256=xGl m%256][JA h6]);omega
section
variable (cH cK cB cT cM cL:Qq)
theorem xpf (hl:yP):∀(Q:yO) {b S G},uB R Q[∃W T0 a n r,GB W T0 R a n r]->X1 G->xUN[64*(b%4)]->Zr[64*Q.length]≤1800->Zr[cts Q]≠T.length->∃i c,i<6/\zy [cM,cH,cK,cB,cT,cL]/\xRI S G[Q.flatten++Gd] oO
 | [],b,S,G,_,_,_,h8,RI=>by
  show pY[sP 4 cT[by decide] ?_][xsy.tl (cH:=cH) (cK:=cK) (cB:=cB) (cT:=cT) (b:=b) (S:=S) (G:=G) (r:=jj Gd) (z:=[]) (res:=.er cT) rfl[mZ q[xah[by have:Zr[64*0]≤1800:=h8;show Ay [_,_][Ρ cF] xF0 SB ycZ h8][Ay DU Re Dm SB ycZ hl][MQ[BJ Gd _ q]]] RI] QO]
  rwa [JM] at this
 |R::Q,b,S,G,hQ,hG,hG2,h8,RI=>by
  show((W,T0,a,n,r,g)=hQ R Jl,xJo Ky);rw [Jn] at h8;by_cases hm:S.length%64=0
  rotate_left
  ·show(sP 1 cH[by decide] ?_,XV g.eq IU[.badH[bx g.ha[sk g.n2]][ja rfl g.n1 g.n2 hm]])
  show xwM hs[Shp S G a n r] (g.ha,g.n1,g.n2,hm,g.hr,hG,ED [_,_][Ρ[wK Β]][x1Y[wK D5]][.n 192] hG2[qJ[Im di]]) ok T' hx ho[g.any hG];rw [g.eq] at hx;cases ok with
  |false=>
   show(sP 3 cB[by decide] ?_,XV g.eq IU[yfi hs[x20[ni T' hx]] nofun nofun])
  |true=>
   show((el,RJ)=ho rfl,υ QY g.t64 ec[cts[R::Q]=T'.length+cts Q][by rw [el,<-g.cnt];rfl])
   rw [ec] at RI;show((i,c,hi,hc,k)=xpf hl Q (b:=b+1) (S:=S++T') (G:=x70) (λ R' h=>hQ R'[XQ h])[xpr hG RJ][xpc hG2[LT el QY]][GV[Bx [_,_,_,_][xHq[wK xi] WO][BZ 1800[ud 64]][xL5 gv] xF0 h8[IR el] QY]][xMm IQ],TX i c hi hc,XV g.eq IU[x1U[some T'] hs nofun (λ T1 z=>CR z (hx,RJ,LT el QY,Ay [_,_][Ρ[wK Β]] xF0 Re xF0 h8))[λ T1 z=>CR z k]])
theorem xuq (hN:Ff)(hb:D4):∀n j,n+j=DJ->cts x2o=T.length-64*j
 |0,j,h=>by
  show(EF[Lj[LT Ap[xX Re[EL 0] Re RA]]][0=_],(NR[by show([BJ j DJ[yb0[Kq j]]],ir,Ay [_,_][xFS 63] xWr Re cF zV)]).symm)
 |n+1,j,h=>by
  show(xwE R a m r e g QY[show j<DJ by show tS [_,_,_] xGW SB xA],Ik hj[xZ7 e],EF[Kt hj][ctR Rs[(j)]+cts[Rs.drop[j+1]]=_],[xuq hN hb n[j+1][Em gc Uf Dw Uf xA[EZ Uf gc Uf Dw RA]],g.cnt],[-Je,-Je,CA[64*(j+1)][64*j+64],-KS,-IQ],vC[JJ 64 _])
def xcK (hN:Ff)(hb:D4):∀R∈x2o,∃W T0 a n r,GB W T0 R a n r:=λ R h=>by
 show(Dr i hi[Pj[JZ h]],(R',a,n,r,e,g,_)=x9b[show i<DJ by show Bg Ap hi],yb xW4,Z0 _ _ a n r g)
def xhI (L:LE):Prop:=∃i,i<7/\jN L i
def xn2 (hN:Ff)(hb:D4)(hl:g9)(hj:j≤DJ)(hi:i≤DJ)(RI:xT1[64*j]+(T.length-64*i)≠T.length):xPx[wa++jC i]:=by
 show((g1,g2)=xjL hb j,Sc el[BD xPn[xT1[64*j]]] Jc hn[DJ≤4][by show(ir,BM[zQ 64 [_,_] xWg[x6V xBv] D5 hl DB])],DR n c h1 h2 h3[xpf cH cK cB cT cM cL (T:=T) gY[Rs.drop i] (b:=j) (S:=xPn) (xcK hN hb) g2 g1[by show([el,Je,Ap],DE [_,_,_,_][Aw[rz 64[Ρ cF]]][x6V[UK D5[Aw x5F]]][Ρ cF] xF0 hl[qJ hn][IP Fb[qJ fj]])][XV el[xuq hN hb[DJ-i] i[Em WF Uf WF Uf[Vp [_,_] hi][EZ Uf WF Uf WF W1]]] RI]] (n,Ay DU SB[.n 6] SB[.n 7] h1,xlE _ _ _ _ _ _[xx4 _ _ _ _ hN hb gY hj h3] h2))
def xbY (hN:Ff)(hb:D4)(hl:g9)(hj:j<DJ):xPx[wa++jC[j+1]]:=
 xn2 _ _ _ _ _ _ hN hb hl xNo hj[x4z nB hj]
def xL (hN:Ff)(hb:D4)(hl:g9)(hj:j<DJ):xPx[x8V[j+1]++xID]:=
 xn2 _ _ _ _ _ _ hN hb hl hj xNo[x4z nB hj]
def xce (hx:x<64):ye3 G[yaB 5][vD xYS [16,x*4]]:=by
 show(Sc hv[val [16,x*4]=4096+x*4][by show(0*256+16)*256+x*4=_;show T5[.a[xBU[CN[.m 0 HN] 16]] xOb][BZ 4096 xOb][Fv[BZ 4096 xOb][.a[xBU[CN[.m 0 HN] 16]] xOb]]] b0[bt [16,x*4] 0 6=4][by show val [16,x*4]/2^10%2^6=4;show(EF hv[(4096+x*4)/1024%64=4],[Nat.div_eq_of_lt_le (k:=4) (JD 4096 _)[LP (Nat.mul_lt_mul_of_pos_right hx[by decide]:x*4<64*4) 4096|>SZ[Ja z[by decide]]]])],SC b6[bt [16,x*4] 6 8=x][by show val [16,x*4]/2^2%2^8=x;show(EF hv[(4096+x*4)/4%256=x],uA[BJ[4096+x*4][(1024+x)*4] (LV 1024 x 4).symm][Nat.mul_div_cancel _ (by decide:0<4)][CA[1024+x][256*4+x]] Qe[Lq[MN hx[by decide]]])] (1,5,[16,x*4],14,by decide,by decide,by decide,(show AL 2 by decide),(show US 2 by decide),UF b h,rfl,yem[.run[by decide][show 14≤16 by decide][Hd b0] ?_],λ _=>FQ[show 2<8 by decide]))
 ·show qw[x0p h] h
  ·decide
  ·show jg h[HH[xC2 4][.m 4 XR][AS xOb] HN[IV 4 hx]]
 ·show Iv b0[CA[0+6] 6] b6 xAG
 ·show val [16,x*4]%2^2=0;show(EF hv[(4096+x*4)%4=0],LT[BJ[4096+x*4][(1024+x)*4] (LV 1024 x 4).symm][P6 _ _])
def xaY (hN:Ff)(hb:D4)(hl:g9)(hj:j<DJ)(hx:x<64):xPx[wa++(vD xYS [16,x*4]++xID)]:=by
 show(xwE R a n r e g QY hj,pJ 1[by decide][xGR cH _ _ _ _ _ _[xx4 _ _ _ _ hN hb gY xNo ?_] rfl],(q1,q2,q3,q4,_,q6,q7)=xyT QY hb g,rK[BJ[vD xYS [16,x*4]][xYS++([16,x*4]++gu[xYS++[16,x*4]])][IU ..]] IU[x1U[some[yaB 5]][zE[by decide][by decide][by decide] q4 q6 q7] nofun (UF T' z)[UF T' z]])
 ·show CR z (Bg IU[xce hx],IB[LT (List.mem_replicate.1 hy).2[HH SB XR SB HN hx]],Hd JQ,Gb[Dg [_,_] Ω[EL 230] xF0 hl Fb])
 ·show(xCO,[xxX e,g.eq,IU],.badH[bx g.ha[sk g.n2]][ja rfl g.n1 g.n2 ?_],iB JQ);omega
def xaS (h1:AL c)(h2:US c):xuW false G [][vD[QH[128+c-1] 2] BX]:=by
 show A3 b1[bt BX 0 1=1][by decide] b8[bt BX[0+1] 8=0][by decide] (2,c,BX,0,by decide,h1,h2,by decide,by decide,by decide,rfl,?_,nofun);have:=TxX.cpy (ok:=false) (R:=BX) (W:=G) (v:=c) (t:=0) (S:=G) (.cp[Ay [_,_] AM SL SB WF h1][by decide] b1[mZ q[AV q][Hd b8]] QO)
 rwa [P7] at this
def xaI (hN:Ff)(hb:D4)(hl:g9)(hj:j<DJ)(h1:AL c)(h2:US c):xPx[wa++(vD[QH[128+c-1] 2] BX++z)]:=by
 show(xwE R a n r e g QY hj,pJ 3[by decide][xGR cB _ _ _ _ _ _[xx4 _ _ _ _ hN hb gY xNo ?_] rfl],(q1,q2,q3,q4,_,q6,q7)=xyT QY hb g,hx=xaS (G:=mF) h1 h2);rw [BJ[vD[QH[128+c-1] 2] BX][QH[128+c-1] 2++(BX++gu[QH[128+c-1] 2++BX])][IU ..]] at hx ⊢;show LT IU[yfi[zE[yE [_,_] Ω[bE[EL 128]] HN h2 fj][by decide][by decide] q4 q6 q7][x20[ni [] hx]] nofun nofun]
universe s
universe K27.Ck
namespace K27.Ck
open PySem L2 QQ W17 W16 BP
seal PE PA PS PSs PT PW PG PI
inductive OpX (Cp Ce CO CK:Qq) (H:Hp) (p:Qq) (S:LE) (b:Nat) (G W:LE) (bg fn:Bool):Prop
 |mk (dx r co ck g wt:Qq) (h0:xh p Cp[xwR r]) (h1:x9e H r co ck g wt S b G W bg fn):xPv H p S b G W bg fn
inductive xlc (Cp Ce CO CK:Qq) (vs:Sy) (H:Hp) (Q:VK) (QL:XK):Prop
 |mk (p dx:Qq) (h0:vs=Cg) (h1:xh p Cp []) (h2:vg[xPv H' p [] 0 [] [] false false][lN[Ψ->CY->Cf]]):xlc Cp Ce CO CK vs H Q QL
def xh8 (F:yii xq7)(Z:vR)(O:Sw):rm 8[xlc Cp Ce CO CK]:=by
 show(x3L,D2 xap[λ QE A outer st H vs Q E hr h=>?_],yV p dx hp k,D9[xFy[Q7[xnb FI Z.tt Z.pr.R] hr Z.tt.m bI bA]]);intro x dk nx Yg nek;show(χ s0[xI5 Ce][jE x dk ad[λ co ck g wt H1 nco nck hR Tt=>Ej]],(s1:qa)=λ b o e=>Tt b o xSd xBy,χ RD kY (_,rfl,p,Cp,dx,[],rfl,RD,O.cl,O.nR,Z9,?_),[xul],xz0 TF W6 hw hR,Sc kp[∀c o,xLD c->px[(mQ H1 p Cp[xwR x]) c]][λ c o e n=>tJ e] ne[∀{c},B7 c->CY][λ n z=>FZ hp n n],DC hq[∀{xs:Sy} {c},H1 c=Fh->CY][λ e=>xDl RD A2][Ey (dx,x,co,ck,g,wt,ad,((TF,Bo W6[ne nx]),x2S[ne[Yf nco]][ne x36][hq hC.gr],Bo hw[hq hw])) λ c o e n=>Bo HC n])
inductive xlY (Cp Ce CO CK cM cH cK cB cT cL:Qq) (vs:Sy) (H:Hp) (Q:VK) (E:XK):Prop
 |mk (p a:Qq) (L:LE) (res:Res) (h0:vs=Tr) (h1:xPv H p [] 0 [] [] false false) (h2:Υ=xO) (h3:xJw) (h4:xMC) (h5:x7n) (h6:∀fn S W,res=ye4 S W->∀l b G' W' bg H',Bv->B0=y0->xPv H' p S b G' W' bg fn->(∀c o,Ψ->CY->Cf)->B8) (h7:∀c,res=oO->BB c):xlY Cp Ce CO CK cM cH cK cB cT cL vs H Q E
def xaK (F:Bq "feed" "Opener.feed" xvq)(Z:vR)(O:Sw)(Bd:Sn)(mB:xFo=xOy)(xB:xOM):pS 43 Jal[xlY Cp Ce CO CK cM cH cK cB cT cL]:=by
 show(T0=Z.tt,xm N' Z.pr.H.need Tw Z.twin Th Z.thru,TZ xu3[λ QE A outer st H vs Q E hr h=>?_] _,(p,a,L,res,rfl,(dx,r0,co,ck,g,wt,hp,((dr,X'),hC,hw)),ha,hb,hl,hT,k,kE)=h,tP W8[Dk 4] hr8 8,Fx[ID 2 xu3.nd[dz[ok_needrow N' Z.pr.H.N] W8 N'.m N'.F.kp N'.b bA oF] 3 xu3.nd[x7g T0.cl Tw[xh1 Tw.F Z] hr8][DP 4 xu3.nd[xxi AZ T0.cl Th.m[xas Th.F Z Bd mB xB] hr Th.b .nil bJ AP][x0i AZ] Bb]][VM a _ ha hb[UF l1 nl1]],fw s1 sZ nl1 Td[kS H l1 sZ l1=xO],uf xXz (_,rfl,p,Cp,dx,_,_,rfl,kY,O.cl,O.nR,xjC _,r0,dr,_,rfl,IL X',Ep,r0,co,ck,g,wt,_,0,[],[],false,false,rfl,((dr,IL X'),xHf c o e HC,x7H),λ q co2 ck2 g2 wt2 H2 nq no nk SK s2=>?_),(dq,hq)=SK.ob,Iu s2' Fy kp0[∀{H3:Hp},(∀c o,ZL->FL q->FL co2->FL ck2->xJC)->gk H3][λ fr c o e=>qy[s2' _ _ e][ai HC nq][ai HC no][ai HC nk]] (_,rfl,q,dq,_,rfl,hq,Ep,_,rfl,q,co2,ck2,g2,wt2,l1,L,res,rfl,SK,ES Td,hl,hT,λ fn S W e l3 b3 g3 wt3 G3 W3 bg3 H3 nl3 RV RS fr3=>?_,λ c e H3 fr3=>kE c e H3[kp0 fr3]),Tl kp[kp0 fr3] hp3'[Bo hp],tI (_,rfl,_,rfl,p,Cp,dx,_,rfl,hp3',O.cl,O.nR,pk,?_) xes,Sc ne[∀{c},UQ c->CY][λ n z=>FZ kY n n] Q4[∀c o,xJC->px[(mQ H3 p Cp[xwR q]) c]][λ c o e n=>tJ e],(hq':∀{xs:Sy} {c},H3 c=Fh->CY)=λ e=>xDl hp3' A2,((Uy,hx3),hC3,hw3)=RS,BK[k fn S W e l3 b3 G3 W3 bg3 _[none_of s2' nl3][Ga RV[hq' RV]] (dx,q,co2,ck2,g3,wt3,ad,((Uy,Ga hx3[ne nq]),hC3.off Q4[ne no][ne nk][hq' hC3.gr],Ga hw3[hq' hw3])) λ c o e n=>Ga[Bo e] n])
inductive xli (Cp Ce CO CK:Qq) (vs:Sy) (H:Hp) (Q:VK) (QL:XK):Prop
 |mk (p:Qq) (S G W:LE) (b:Nat) (bg fn:Bool) (h0:vs=Cg) (h1:xPv H p S b G W bg fn) (h3:wo fn):xli Cp Ce CO CK vs H Q QL
def xiU (F:Bq "over" "Opener.over" xvl)(T:CRe K mg Ce)(O:Sw):VI[xli Cp Ce CO CK]:=by
 show(D2 xa7[λ QE A outer st H vs Q E hr h=>?_],(p,S,G,W,b,bg,fn,rfl,(dx,r,co,ck,g,wt,hp,hR),k)=h,Ib dr X' hR.ob (_,Gz[xzc B5 rfl],_,rfl,p,Cp,dx,_,_,rfl,hp,O.cl,O.nR,xjC _,r,Ce,dr,_,_,rfl,X',T.cl,T.nF,xD8,k))
inductive spFinX (Cp Ce CO CK cC:Qq) (vs:Sy) (H:Hp) (Q:VK) (E:XK):Prop
 |mk (p:Qq) (S G W:LE) (b:Nat) (bg fn:Bool) (h0:vs=Cg) (h1:xPv H p S b G W bg fn) (h2:Ty fn->xJq) (h3:AG fn->xzU cC H):spFinX Cp Ce CO CK cC vs H Q E
def xaH (F:Bq "finish" "Opener.finish" xup)(T:CRe K mg Ce)(O:Sw)(mC:x3y=π cC)(xC:yM cC):xPf Jab[spFinX Cp Ce CO CK cC]:=by
 show((_,_,Ov)=O.over,TZ xaO[λ QE A outer st H vs Q E hr h=>?_] _,(p,S,G,W,b,bg,fn,rfl,ho,k,kE)=h,yaN dx r hp ho,xEi,jJ[uD[xW[zX Η O.cl Ov[xiU (CO:=CO) (CK:=CK) Ov.F T O]]] mC xC] (_,rfl,p,dx,_,rfl,hp,xof _,p,S,G,W,b,bg,fn,rfl,ho,_,rfl,?_));cases fn with
 |true=>exact bp[k rfl]
 |false=>exact bZ[kE rfl]
inductive xlh (cM cH cK cB cT cL cC:Qq) (vs:Sy) (H:Hp) (Q:VK) (E:XK):Prop
 |mk (a:Qq) (L:LE) (res:Res) (h0:vs=F5) (h2:Υ=xO) (h3:xJw) (h4:xMC) (h5:x7n) (h6:∀S W,res=xDw W->uq l[B0=y0->Χ->B8]) (h7:∀S W,res=xCG->BB cC) (h8:∀c,res=oO->BB c):xlh cM cH cK cB cT cL cC vs H Q E
def xmE (F:Ο "opened" xvo Jam)(Z:vR)(O:Sw)(Bd:Sn)(mB:xFo=xOy)(xB:xOM)(mC:x3y=π cC)(xC:yM cC):pS 44 Jam[xlh cM cH cK cB cT cL cC]:=by
 show(fh O.init,C6 Fe O.feed Fi O.fin,kz xsi[λ QE A outer st H vs Q E hr h=>?_],(a,L,res,rfl,ha,hb,hl,hT,k,kC,kE)=h,A3 hr9[Dk 9] CJ RW hV CJ[Gy[DS 1 xsi.nd[Q7[xh8 FI Z O] hr9 O.m bI bA][DP 2 xsi.nd[xxi τ O.cl Fe.m[xaK Fe.F Z O Bd mB xB] hr Fe.b .nil bJ gP][aB[xtR τ O.cl Fi.m[xaH (CO:=CO) (CK:=CK) Fi.F Z.tt O mC xC] RW Fi.b .nil bJ]] Ζ]]])
 intro p dp np ndp nep;show(χ s0[FN Cp np ndp][jE p dp ad[λ H1 ho Tt=>Ej]],(s1:qa)=λ b o e=>Tt b o xSd gm,yaN dx r hp ho,(_,rfl,p,dx,_,rfl,hp,xof _,_,rfl,p,a,L,res,rfl,ho,ay,hb,hl,hT,λ fn S W e l b G' W' bg H2 nl Q0 ho2 fr=>?_,λ c e H2 s2=>kE c e H2 Fy),yaN Y3 r2 Q1 ho2,SC s2 yi[λ c o e=>qy HC gm] (_,rfl,p,Y3,_,rfl,Q1,xof _,p,S,G',W',b,bg,fn,rfl,ho2,SZ xLb,A4))
 ·show DN z[k S W e l H2 Q0 s2]
 ·show DN z[kC S W e H2 s2]
abbrev xrH:QC:=top 121
abbrev xrJ:QC:=top 123
abbrev xrQ:QC:=top 124
structure Lks (K:Frag)(mg:Ι):Prop where
 cend:IE "COUNT_END" 7
 npart:Ν "need_part" xrH Jai
 ntail:Ν "need_tail" xrJ xUc
 blocks:Ν "blocks_in" xrQ xAV
def ptE (n:Nat):Nat:=EM[n=0] 8[n+2]+3
inductive PtV (QP:Qq) (H:Hp) (a n:Nat):BY V
 |tl:n=0->PtV QP H a n .non
 |bl {h dx:Qq}:Vt->xh h QP[fH[a/64][a%64+1] n]->PtV QP H a n pF
inductive xsd (QP:Qq) (vs:Sy) (H:Hp) (Q:VK) (E:XK):Prop
 |mk (x:Qq) (B r:LE) (p m a n:Nat) (h0:vs=[E4,xDp,qS]) (h1:uQ=uK) (h2:x3x=UA) (h3:ZO) (h4:wV) (h5:n=0->a=0) (h6:Vt->m%64=0) (h7:sC[p+ptE n]) (h8:∀t v H',Χ->jB[H' t] [v,vN[p+ptE n]]->PtV QP H' a n v->oA Z1):xsd QP vs H Q E
def xka:XL ["bale","place","many_signs","part"] Jai xrH:=Tm
def xnK (F:Ο "need_part" xrH Jai)(Z:xJN)(Er:Sd):pS 35 Jai[xsd QP]:=by
 show((_,_,Pa)=Z.partat,kz xka[λ QE A outer st H vs Q E hr h=>?_],(x,B,r,p,m,a,n,rfl,hx,hB,ha,hn,h0,hm,hl,k)=h,D9[DP 3 xka.nd[vL[xnq Pa Z Er] Pa.m Pa.F.kp Pa.b[Wt 0 1 2]][yn[xI7 AZ]] AZ])
 unfold ptE at hl k;refine(_,rfl,_,rfl,_,rfl,x,B,[],r,p,m,a,n,_,rfl,hx,tS [_,_,_][Ρ xOj] Re hl,LT JM hB,xRK hn,.inl[bQ hn h0 hm _ rfl[Wg z[BM[Zs[CM [_,_,_,_][yt[Aw Fz]] x5t Fz Re hl W1]]]][λ _ t v H' s ht hv=>tT[gM[k t v H' s ht ?_]]]]);rcases hv with⟨z,rfl⟩|⟨z,h,dx,rfl,hh⟩
 ·exact .tl z
 ·exact .bl z hh
inductive xlo (vs:Sy) (H:Hp) (Q:VK) (E:XK):Prop
 |mk (a:Qq) (m c:Nat) (h0:vs=zR qS) (h1:Υ=BA CL) (h2:xC9 c) (h3:vi):xlo vs H Q E
def xhq:XL xUc xUc xrJ:=Tm
def xig (F:Ο "need_tail" xrJ xUc)(Z:xJN)(Y:Tbk K mg C QP C' G C0 C1 C2 C3)(L:Lks K mg):Cc 9 xUc xlo:=by
 show(xm Fo Z.R.four En Y.ends Wc Y.wcheck,DW t3 h3 Z.H.three t7 h7 L.cend,D1 xhq[λ QE A outer st H vs Q E hr h=>?_],XT a m c rfl ha hc k,υ hu hr.units Uj[Dk 2] CJ,jJ[yn[zo[HX xVY[xDd Η xI4[FK 7 h7 t7]][Ih[xpb Fo Z.R] Uj Fo 1]][xW[oV[xnl En Wc Z.H.Y] En 0]]]] (_,rfl,_,rfl,_,rfl,a,_,rfl,QK.of ha,Ex),(ec:jv[A5 CL] 3 7=A5 xw6)=xyg (m:=3) (n:=7) _[by decide][HA[7≤11]],dW,YD s1 xw6 nl h1[(dI xw6) l=BA xw6],uf[dI xw6][xNi m[λ l2 H2 n2 s2 h2=>?_]],χ Sv Fy (l,l2,ky xw6,ky xw6,rfl,rfl,xGz iA xNq,xGz iA h2,_,rfl,?_),RZ gU h9[Dl[yK++xw6++bz]][ow[EA[xv7 q[xIj x][xtJ _ x]]][dR hc x]][bp[Q6 _ rfl a _[xD1 ha][ow[h9 x][dR[xKW h9] x]][HA[IK 11]][λ H3 s3=>xLb]]],LT[IZ[by rw [CA CL[vD[yK++xw6] bz],xvz]]][bp[Ey ybm]])
inductive Bk:LE->cI B4
 |tl {m c:Nat}:xC9 c->Bk CL m []
 |bl {a n m:Nat} {r z:LE} {ds:B4}:ZO->Vt->wV->m%64=0->k8[n+2]->Bk z[m+(a%64+1)] ds->Bk[tH++(r++z)] m[((a,n))::ds]
def pl (ds:B4)(i:Nat):Nat:=3+(XW[ds.take i] d[d.2+5]).sum
def xt7 {ds:B4}(h:PC ((a,n))):xES[i+1]=xAm+(n+5):=by
 unfold pl;rw [Kj,h,NH,Ji,Mw,<-J8];rfl
def BlA (QP:Qq)(H:Hp)(ts:AH)(ds:B4):Prop:=tK i Nat t Qq xQb[∃a n h dx,PC ((a,n))/\Y8 [xCc,pF]/\xh h QP[fH[a/64][a%64+1] n]]
def BlA.keep (h:xWJ H ts ds)(s:∀c o,Ψ->FL l->Cf)(hl:cg[pV=Fh]):xWJ H' ts ds:=λ i t e=>by
 show((a,n,h',dx,e1,e2,e3)=h i t e,Ib xs hl hl (a,n,h',dx,e1,FV e2[aJ e2 hl A2],FV e3[aJ e3 hl A2]))
inductive xkG (QP:Qq) (vs:Sy) (H:Hp) (Q:VK) (E:XK):Prop
 |mk (x:Qq) (L:LE) (ds:B4) (h0:vs=xQM) (h1:uQ=BA xB0) (h2:Bk L 0 ds) (h3:ybe) (h4:∀l ts H',Bv->Χ->B0=jX->xU7 ds.length->xWJ H' ts ds->B8):xkG QP vs H Q E
def xwr:XL ["bale","blocks","many_signs","place","part"] xAV xrQ:=Tm
inductive PaA (QP:Qq) (H:Hp) (t:Qq) (p:Nat):BY B4
 |tl:Y8 [.non,vN[p+11]]->x6R H t p []
 |bl {a n:Nat} {h dx:Qq} {ds:B4}:Y8 [pF,vN[p+(n+5)]]->xh h QP[fH[a/64][a%64+1] n]->x6R H t p[((a,n))::ds]
def Bk.part {B:LE}(h:Bk L m ds)(hB:x3x=L)(hp:sC p)(hx:uQ=uK)(k:uq t[Χ->x6R H' t p ds->oA Z1]):xsd QP [E4,xDp,qS] H Q E:=by
 have hl:L.length=qQ:=by rw [<-hB,Je]
 cases h with
 |tl hc=>
  refine(x,B,jj[x9h _],p,m,0,0,rfl,hx,hB,Z9,Z9,QO,nofun,?_,λ t v H' s ht hv=>k t H' s ?_)
  ·have hl:11=qQ:=hl;show p+11≤_;show Bj [_,_,_][BZ 11 HM] DG x51 SL yq[Vp [_,_] hp]
  ·cases hv with
   |tl=>exact .tl ht
   |bl z=>show E9 z[by decide]
 | @bl a n _ r z ds ha h1 h2 hm hr=>
  show SC e[ptE n=n+5][Fq ptE[Jk[by omega]]] (x,B,r++z,p,m,a,n,rfl,hx,hB,ha,h2,mZ q q[by omega],yeo,?_,λ t v H' s ht hv=>k t H' s ?_)
  ·rw [IQ,IQ,hr] at hl;show((hl:3+(n+2+z.length)=qQ)=hl,DE [_,_,_,_,_,_][Ξ[.a[BI[oI[ud 2]]][Vv Re]]][.a[ud 5][Vv Uf]] WF Uf[IR e] yq[Vp [_,_] hp])
  ·rw [e] at ht;cases hv with
   |tl z=>show E9 z[by omega]
   |bl _ hh=>exact .bl ht hh
inductive Ibk (QP:Qq) (H:Hp) (x:Qq) (B:LE) (ds:B4) (l:Qq) (k:Nat) (σ:St) (H4:Hp):Prop
 |mk (m i:Nat) (t:Qq) (ts:AH) (h0:k=ds.length-i) (h1:i≤ds.length) (h2:σ=[RH,qB,CB,xN3,xQE]) (h3:Bk xUu m xUp) (h4:sC xAm) (h5:x6R H4 t xAm xUp) (h6:zh=jX) (h7:xU7 i) (h8:xWJ H4 ts ds) (h9:xXo):Ibk QP H x B ds l k σ H4
def xhm (F:Ο "blocks_in" xrQ xAV)(Z:xJN)(Y:Tbk K mg C QP C' G C0 C1 C2 C3)(L':Lks K mg)(Er:Sd)(mB:xFo=xOy)(xB:xOM):pS 36 xAV[xkG QP]:=by
 show(x23,C6 Nm Z.nmark Np L'.npart,C6 Nt L'.ntail Nl Z.nlast,(d,hm,hd)=Z.mark,kz xwr[λ QE A outer st H vs Q E hr h=>?_],Fw x L ds rfl hx hk Xu k,A3 RW hV CJ hr9[Dk 9] CJ[Gy[Fm[dz[xoe Nm Z Er] RW Nm.m Nm.F.kp Nm.b bJ gP][ID 1 xwr.nd rE 2 xwr.nd ag[DS 3 xwr.nd[lX[xMM Ed hm]][Gn 4 xwr.nd[vL[xnK Np Z Er] Np.m Np.F.kp Np.b[Wt 0 3 2]][xzG OH[HX xpL tD xwU]
   (Fm[fP τ[cx[nj 3 tD]]][ID 2 xwr.nd[Gi Ζ[xzc tD rfl]] 3 xwr.nd tD[eI 4 xwr.nd[vL[xnK Np Z Er] Np.m Np.F.kp Np.b[Wt 0 3 2]]]])][Fm[aE[xig Nt Z Y L'] hr9 Nt[aa[xDd Η AZ tD] AP]][Fm[dz[xl6 Nl Z mB xB] RW Nl.m Nl.F.kp Nl.b bJ[nj 0 tD]][Gz τ]]]]]]]],Sc t3[(xB0).take 3=mk3.take[cJ L]][Ar[Jo[um mk3.length[cJ L] xZK]]] hk[Bk[jj xB0] 0 ds] hk,(h3:zS[cJ L])=xZK,Cz xB0 B[Wl[VM x B hx[λ _ H1 s1=>AA][RO t3]]],xPW[ka B1 l nl AA],(YQ:Bv)=Fd s1,fw s2 [] nl Q0[(kB) l=Az []],Sv=Fy,az H1 l [] H2);clear s1 s2 nl;show(T8 AA,T8[yW d[x4A H2] AA])
 try dsimp only
 show(Γ[CA[pf ([xG5,xHZ,CC]:Sy)][ST 3]][aq λ R g=>Aa _ rfl _ _ rfl[hk.part (p:=3) rfl h3[xD1 hx] λ t H3 s3 ht=>AA]],CF,aq λ R g=>Cm[Ibk QP H x B ds l] (_,0,0,t,[],rfl,B1,rfl,hk,h3,ht,Ge Q0,rfl,nofun,ybm))
 clear ht Q0 Sv s3 t h3 hk;rintro n σ H4 ⟨m,i,t,ts,rfl,hi,rfl,hb,hp,ht,YV,Ss,hbl,s4⟩;cases e:xUp with
 |cons q ds'=>
  obtain⟨a,n⟩:=q;rw [e] at ht hb;show(Sc ei[PC ((a,n))][xML Ql e] hi'[x4B i][UJ ei],eN ed[ds.drop[i+1]=ds'][xML List.tail_drop e] ep[xt7 ei]);cases ht with
  | @bl _ _ h dx _ ht hh=>
  show((_,rfl,t,_,_,_,rfl,rfl,rR,tZ,rfl,_,rfl,bZ ycL),CF,HV g (_,rfl,xq YV,_,rfl,_,rfl,t,_,_,_,rfl,rfl,rR,tZ,ye,UF t2 n2),Tl s5[Zj [xCc,pF] n2] hl5[Bn YV],Sc h2t[jB[(Hf H4 t2 [xCc,pF]) t2] [xCc,pF]] ad hbl5[xWJ[Hf H4 t2 [xCc,pF]] ts ds][hbl.keep (l:=l) (λ c o e _=>Bn e)[EX YV]],XF ht5[Bn ht] hh5[Bn hh] s45 x1N,Cz[Hf H4 t2 [xCc,pF]] H5[Hx l _ _ rfl hl5[bW[by show(mY Ss,ED [_,_] Ω xAS Bc Xu hi)]] AA],CF,Sc k6[∀c o,xNG c->Uz[FL l][(IJ H5[E8++yC t2]) c]][λ c o e n=>tJ e] hl6[(IJ H5[E8++yC t2]) l=Az[xEl [t2]]] xCS,Hs ht6[k6 _ _ ht5[aJ ht5 hl5 A2]] hh6[k6 _ _ hh5[aJ hh5 hl5 A2]] h2t6[k6 _ _ h2t[aJ h2t hl5 A2]] hbl6[hbl5.keep k6[EX hl5]],(s6:gk[IJ H5[E8++yC t2]])=λ c o e=>k6 _ _[s45 _ _ e][Af YQ],Cz[IJ H5[E8++yC t2]] H6[Wl (_,rfl,_,rfl,t,_,_,_,rfl,rfl,xLS,tZ,h,QP,dx,_,_,rfl,hh6,Z.H.T.cl,Z.H.T.nC,xuM _ _ _,_,_,rfl,rfl,AA)],xPW (_,rfl,t,_,_,_,rfl,rfl,xLS,xp,AA));obtain⟨RJ,hp'⟩:Bk[B.drop[xES[i+1]]][m+(a%64+1)] ds'/\sC[xES[i+1]]:=by
   generalize eL:xUu=L at hb;cases hb with
   | @bl _ _ _ r z _ _ _ _ _ hr hb=>
    show SC el[DV tH r=n+5][XV IQ hr xQd][FQ ?_]
    ·show([ep,-KS,eL,-IU,NQ el],hb)
    ·show xNK eL;rw [<-IU,IQ,el,Je] at this;show DE [_,_,_,_,_,_][Ρ[.a[.a[ud 5] nV] gq]][.a[Aw[ud 5]] xGU] Re SL[IR ep] x8[VD [_,_] SL SL hp]
  try dsimp only
  show([-ep],ω[Aa _ rfl _ _ rfl[RJ.part (B:=B) (p:=xES[i+1]) rfl hp'[kj hx] λ t7 H7 s7 ht7=>?_]] (_,?_,m+(a%64+1),i+1,t7,ts++[t2],rfl,hi',?_,ed▸RJ,hp',ed▸ht7,xJU hl6,Ai IQ Ss,Μ j u eu,xAl))
  ·show yc [_,_,_,_] xWq xWi W1[VD [_,_] Β Β hi']
  ·rfl
  ·show iq j ts.length q q
   ·show Ε[JP q] eu[(hbl6.keep (l:=l) (λ c o e _=>xJU e)[EX hl6]) j u eu]
   ·rw [Jz q] at eu;show(YE[UJ eu],Hu[j=i][Ε LS z[yd[G6 [_,_,_,_][Aw[ZH Re]][Ξ[xQK xY]] SL xG1 z W1][CM [_,_,_] Φ HM SL Re[IR Ss.symm] q]]],Zw Ss LU eu eu,(a,n,h,dx,ei,xJU h2t6,xJU hh6))
 |nil=>
  rw [e] at ht hb;show Hu[i=ds.length][xT6[ygt e]];cases ht with
  |tl ht=>
  generalize eL:B.drop xK1=L at hb;cases hb with
  | @tl _ c hc=>
  show(SC hB[B.length=xK1+11][by
   show cX[vC eL] Je;have:xKl xK1=11:=this;show El[Dg [_,_,_] HM[BZ 11 DG] x5v Yp W1] [_,_,_][BZ 11 DG] HM x5v x8[VD [_,_] SL SL hp]] (_,rfl,t,_,_,_,rfl,rfl,rR,tZ,rfl,_,rfl,xWY),CF,uU ec[jv sO[ST xK1][ST[xK1+11]]=A5 CL][by
   rw [xyg _ Io[zD hB ρ],<-LY,eL,Kv];rfl] (_,rfl,_,rfl,_,rfl,_,rfl,t,_,_,_,rfl,rfl,rR,xp,_,rfl,x,_,rfl,QK.of[X4 hx],x8M))
  try dsimp only
  show(dW,YD s5 CL n5 h55[(qP l5 CL) l5=BA CL],Cz[qP l5 CL] H5 (_,rfl,l5,m,c,rfl,h55,hc,λ H6 s6=>AA),CF,χ s56 xK9[Wl (_,rfl,_,rfl,t,_,_,_,rfl,rfl,QV.of[xRW ht],xp,x,B,xK1+11,rfl,(yjv) _ _ hx,xUE,Wg z[BM[Zs[d6 x51 x51[IR hB]]]])],BK[Wb ts _ YQ yjv[xRW YV] Ss[hbl.keep (l:=l) (λ c o e _=>xRW e)[EX YV]]])
universe K27.Ck
namespace L2
open PySem PySem.Spec PyProof.Rows QQ
theorem xbJ {X:Cx}{x:Str}{nm:Option Str}{D0:Qq}{b:kJ}{W:UT Qq}{xyI:rO Qq}{np SF pos:Pos}{QD:Κ}{σ:St}{H:Hp}{s:Qu}{D:Ends}{body:kJ}{tb:TS}(hg:uj)(hm:yF=π D0)(hD:xVo D0)(RQ:xXE)(Yb:xTq)(hX:X.ex=[])
    (hb:xGv[xyN X cy σ λ cls _ H'=>∃C,cls=C4/\xVo C/\C≠D0/\iG[mroIn X.K C xUO]/\∀e vs,Θ[H' e]->W e[jZ H' e iF e]] tb) (I:Wp) (h:tb D σ H)
    (k:∀ea G3 H3 s5,xzL xW1 H3 s5->(∀σ6 H6 s6,xzJ xW1 σ6 H6 s6->oG σ6 H6 s6)->W ea H3->xyI ea s5)
    (kk:∀ea s,EN E'[xSv[ycw ea][x1t xA4][λ _ s1=>xyI ea s1] E' s]->x2q[ycw ea][.handlers xA4 [.ExceptHandler none nm b SF] X.env][λ r s₂=>match r with
      | .ok f=>(match nm with
        |none=>xJG s₂
        |some n=>sS[do yip n .none;ygb n SF][λ _ s₃=>xJG s₃] s₂)
      | .error x=>cameBackBy xFs X.A X.env X.xe x s₂] s) (hd:X0 yhq):
    zw[yey[xUB [x9G[xEY np] nm b SF] [] [] pos]] xMQ:=by
  refine xc4 RQ Yb hX hb I h ?_
  rintro ea T _ c H' s1 vs ts oT-bk bn ⟨C,rfl,cC,RI,Xj,q⟩ F' I2 nE nT ge z2-neT- - -
  show(YC[q ea vs nE.h],Zl G I2' bk0 unk[I2.ready (bk,bn)] nE'[xze[xLp G] QD H' ea] (nE.s0,nE.h,nE.loc,nE.cel,nE.pin),υ I3[ykd ge z2 bk0] uh[∀σ6 H6 s6,xzJ[xFd ea[jZ G ea iF ea]] σ6 H6 s6->oG σ6 H6 s6][x3P[unk _ _ _[yiB nE' z]]])
  generalize hG3:jZ G ea iF ea=G3 at*
  generalize hH3:jZ H' ea iF ea=H3 at*
  show(yfN[xrr I3 hg hm ?_ hd][by intro q;cases q],(bm,N,nm,qn,bs,hdct,sn,sub,ab,col,dd,k0,k1,k2,k3,k5,hlC,hcC,_)=xyc cC,(bm',N',nm',qn',bs',hdct',sn',sub',ab',col',dd',j0,j1,j2,j3,j5,hlD,_,hfD)=xyc hD,eN hmem[Ty[xLh C bm xUO]][by
    unfold mroIn at Xj
    rw [hcC] at Xj
    simpa using Xj] T' (hfD _ I2.kIn).2,(hh1,gg,dr,tk,os1)=s1,DK[xgd[x5i C hlC][x5i D0 hlD] ge rfl[T'.hasType Z8] hmem RI[kk ea _ λ E'=>xgD F'[Μ h4 F4 k4]]] nT3[xze xW1 QD H3 T] (nT.s0,xw8 hH3[aj neT] nT.h,nT.loc,nT.cel,nT.pin),aH I4[I3.landed[Bm[by show(xGD JC,LT hb nT3)]][λ b o g hb _=>k4 b o g[Yz EV]][λ b o g hb=>xFm[k4 b o g[Yz EV]]][λ b o g=>by
    by_cases hb:b=T
    · show((o',us,g',_)=F4.rec T Z6,AU o'[LT hb g'])
    · show AU o[k4 b o g hb]]][k ea G3 H3 _ I4 uh q])
def xbX {X:Cx}{x y:Str}{i:Nat}{D0:Qq}(hN:X.N.Nodup)(hi:AD X.N y)(hl:xTb y)
  (hg:uj) (hm:yF=π D0) (hD:xVo D0) (RQ:xXE) (Yb:xTq) (hX:X.ex=[])
  (hb:∀pn σ0 E,xGv[xyN X pn σ0 E][tb σ0 E]) (hh:∀e G,PSs[xFd e G][b₀::suite] th) (hd:t8):
  ki[xUB [x9G[xEY np][some y][b₀::suite] SF] [] [] pos][xex X.K D0 i tb th]:=by
 intro QD s σ H D I h;refine xbJ (W:=λ e H'=>th[xoW i D][xSU[π e]] H') hg hm hD RQ Yb hX[xCr _ _] I h ?_[λ ea s z=>codeAny_handlers_suite_as[z _]] hd;intro ea G3 H3 s5 I4 uh q;show ω[xtH (X:=xW1) (v:=xA4) I4 hN hi x28 rfl[UF s5 I5][.inr hl]][ZW[hh ea G3 QD s5 _ H3[xoW i D] I5 q][Μ f s6 q6] z xKL]
 cases f with
 |next=>
  show C5 σ6 H6 I6 q7 q6[x18[uh _ _ _ I6] hi hl[λ s' I8=>ll _ I8 q7]]
 |brk=>
  show C5 σ6 H6 I6 q7 q6[x18[uh _ _ _ I6] hi hl[λ s' I8=>ll _ I8 q7]]
 |cont=>
  show C5 σ6 H6 I6 q7 q6[x18[uh _ _ _ I6] hi hl[λ s' I8=>ll _ I8 q7]]
 |ret u=>
  show((v,σ6,H6,I6,r,q7)=q6,x18[uh _ _ _ I6] hi hl[λ s' I8=>vE v _ I8 r q7])
def xiI {X:Cx}{K:Frag}(hK:X.K=K):xB1[xts K]:=DN hK xtn
inductive rLenS (K:Frag) (xs:Sy) (H:Hp) (Q:VK):Prop
 |mk (p:Qq) (ys:Sy) (h0:xs=Cg) (h1:vB p ys\/w4 p ys) (h2:xTG H):rLenS K xs H Q
def xhR {X:Cx}{K:Frag}(hK:X.K=K):cS X "len"[rLenS K]:=by
 subst hK;intro QD s σ H xs us Q I r h;show DR p ys h0 h1 h2 h[xzA QD s σ H xs us Q I r (p,ys,h0,h1,h2)]
universe L2
namespace K27.Rf
open PySem L2 QQ W16
seal PE PA PS PSs PT PW PG PI
section
variable (K:Frag)
def xcO:iG[WV yaz "bool"]:=xz6 (iG (if(Value.type "bool"==Value.type "bool")=true then some true else if kitMeta "bool"=true then(fastBuiltinMro "bool").map (·.contains[.type "bool"]) else none))
def xeE (h: Ty[["NoneType","str","int","bool","tuple","dict"].contains t]):xGr[WV yeA "list"]:=by
 show xGr (if(Value.type t==Value.type "list")=true then some true else if kitMeta "list"=true then(fastBuiltinMro t).map (·.contains[.type "list"]) else none);have ht:t="NoneType"\/t="str"\/t="int"\/t="bool"\/t="tuple"\/t="dict":=Rj
 rcases ht with rfl|rfl|rfl|rfl|rfl|rfl<;>decide+kernel
def xcv:iG[WV yaz "int"]:=xz6 (iG (if(Value.type "bool"==Value.type "int")=true then some true else if kitMeta "int"=true then(fastBuiltinMro "bool").map (·.contains[.type "int"]) else none))
def xtr (H:Hp)(x:V):Prop:=∃t b c,RN x t/\TD[WV t "int"] c/\SS[WV t "bool"]/\(AG c\/Ty b)
def WhV (H:Hp)(x:V)(lo hi:Int)(b:Bool):Prop:=CU i[x=Dz/\b=(FO lo i&&FO i hi)]\/(xtr K H x/\AG b)
variable {K}
theorem xtr.bl (b):xtr K H iW:=(_,true,true,iW,xcv K,xcO K,xFP)
def xtw (K:Frag)(H:Hp)(x:V):Prop:=CU t[RN x t/\xGr[WV t "list"]]\/
 ∃(a:Qq) (xs:Sy) (j:Nat) (y:V),x=AO/\Υ=Fh/\uT[i<j->∃n,By n/\AD xs F6]/\u9 xs y/\WhV K H y 0 255 false
def IsR (H:Hp)(x:V)(B:LE):Prop:=∃a,x=AO/\Υ=uK/\xRe
universe s
inductive spWhole (K:Frag) (vs:Sy) (H:Hp) (Q:VK) (QL:XK):Prop
 |mk (x:_) (lo:_) (hi:_) (b:_) (h0:vs=[x,yfb,x04]) (h1:WhV K H x lo hi b) (h2:xJz):yct vs H Q QL
inductive spNumb (K:Frag) (vs:Sy) (H:Hp) (Q:VK) (QL:XK):Prop
 |mk (x:_) (b:_) (h0:vs=Dt) (h1:(CU i[x=Dz/\Ty b]\/(xtr K H x/\AG b))) (h2:xJz):spNumb K vs H Q QL
def xvr (F:ydr xt6)(T:Df):xZy 0[spNumb K]:=by
 show(rN[F.ok0 xp7 λ QE A outer s H vs Q E h=>?_] _,yV x b hw k,D9[Gz[kP[xPs[D3 "int" T.int M0]][xvD[xPs[D3 "bool" T.bool OB]]]]]);rcases hw with⟨i,rfl,rfl⟩|⟨⟨t,b',c,ty,k1,k2,k3⟩,rfl⟩
 ·show HU (_,rfl,_,_,_,_,rfl,xNa,xvE K,_,rfl,Zy) (_,rfl,_,_,_,_,rfl,xNa,xvM K,_,rfl,k)
 ·refine(_,rfl,_,_,_,_,rfl,ty,k1,_,rfl,?_);cases c with
  |false=>exact bp k
  |true=>
   rcases k3 with k3|k3
   ·cases k3
   ·show DN k3[bZ (_,rfl,_,_,_,_,rfl,ty,k2,_,rfl,k)]
def xlI (F:Ο "is_whole" xzF Jaa)(T:Df):eg Jaa yct:=by
 show((fN,Xd,NF,Nm,Nb)=T.isnumb,D1 xpR[λ QE A outer s H vs Q E hr h=>?_],XT x lo hi b rfl hw k,D9[Gz[kP[dz[xvr NF T] hr Nm NF.kp Nb bA gP][xqW iP iP τ Η Ζ]]]);rcases hw with⟨i,rfl,rfl⟩|⟨hN,rfl⟩
 ·show Ec[Q6 _ rfl _ true[xQL i rfl] _ rfl Zy] (_,rfl,_,rfl,_,_,rfl,rfl,_,rfl,?_) iM
  ·show(xC8,aG h1 Bool.true_and k k)
  ·show((h2:AG[FO lo i])=Uu,aG h2 PP k k)
 ·exact Q6 _ rfl _ false[.inr[Gs hN]] _ rfl[bp k]
inductive spAreWhole (K:Frag) (vs:Sy) (H:Hp) (Q:VK) (QL:XK):Prop
 |mk (x:V) (h0:vs=[x,zH,.int 255]) (h1:(CU B[IsR H x B/\xCk]\/(xtw K H x/\Fc XS))):yjw vs H Q QL
def xpQ (b:Nat)(h:xIK):IC[FO FX wd&&FO wd 255]:=Ai[IZ Wk] xBW
def xzD {P:Qv}{f fW:Qq}(F:Ο "are_whole" cY Jaa)(W:jm)(T:Df):xQW Jaa yjw:=by
 show(SC GW[Vq fW U2 Jaa yct][xQx T][F.F.ok xu8 λ QE A outer s H vs Q E hr h=>?_],uk,Dq x rfl h h[Gy[jY[xW[xPs[D3 "list" T.list Kn]]] cu[yj[xf Η 3 xu8.nd[xY3[xW[dz GW hr W.m W.F.kp W.b bA[Wt 3 1 2]]]]] cu]]])
 rcases h with⟨B,⟨a,rfl,hB,hb⟩,k⟩|⟨⟨t,ty,kl⟩|⟨a,xs,j,y,rfl,hL,hg1,hj,hy⟩,k⟩
 ·show ω (_,rfl,_,_,_,_,rfl,.lst hB,pc K,_,rfl,AI)[m9 a hB[xxu[λ i σ H2=>∃v,σ=[BL,some zH,xAB 255,v]/\H2=H]
   yd3[λ i σ H2 _ z9=>by show xKw e;exact WQ xFU] ?_ ?_]]
  ·rintro i y σ H2 hi ⟨v,rfl,rfl⟩;show(aD b Rl rfl b[b∈B/\y=qR][by
    show kH hi;cases e:B[i]? with
    |none=>show tO hi hi
    |some z=>show lG hi (z,xIn,xGg hi)],Ea (_,rfl,_,rfl,_,rfl,_,_,_,_,rfl,x4Z,_,rfl,?_)[xpQ b[qN Rl]][gM rfl])
  ·show(xF7 σ H2 v rfl,k)
 ·exact(_,rfl,_,_,_,_,rfl,ty,kl,_,rfl,bZ k)
 ·show ω (_,rfl,_,_,_,_,rfl,.lst hL,pc K,_,rfl,AI)[m9 a hL[xxu[λ i σ H2=>xDP/\∃v,σ=[BL,some zH,xAB 255,v]/\H2=H]
   (xAY B1 none)[λ i σ H2 _ z9=>xzV e z9[WQ[QK.of hL]]] ?_ ?_]]
  ·rintro i z σ H2 hi ⟨hij,v,rfl,rfl⟩;by_cases e:i=j
   ·show(FD e hj hi hi,(_,rfl,_,rfl,_,rfl,_,_,_,_,rfl,hy,_,rfl,bZ k))
   ·show((n,hn,e2)=hg1 i[Ko hij e],AQ e2 hi hi,Ea (_,rfl,_,rfl,_,rfl,_,_,_,_,rfl,x4Z,_,rfl,?_)[xpQ n hn][bp[xAY Z5 _]])
  ·show(xGO H2 hij v rfl rfl,HI[ZZ hj][yR [_,_] Dw Ω[IP hij this]])
inductive spIsRow (K:Frag) (vs:Sy) (H:Hp) (Q:VK) (QL:XK):Prop
 |mk (x:V) (h0:vs=Dt) (h1:(CU B[IsR H x B/\xCk]\/(xtw K H x/\Fc XS))):ycu vs H Q QL
def xr6 {P:Qv}{w:Qw}{f fW:Qq}(F:Ο "is_row" xx3 Jaf)(W:jm)(Y:ZK):xZy 3 ycu:=by
 show((fA,fdA,AW)=Y.arewhole,xYU,Zq tg hg T.great xpN[λ QE A outer s H vs Q E hr h=>?_] _,Dq x rfl h h[xFI[dz[xzD AW W T] hr AW.m AW.F.kp AW.b bA[mJ[Mk[FK 255 hg tg]]]]],xNi x h)
inductive spNeedRow (K:Frag) (cR:Qq) (vs:Sy) (H:Hp) (Q:VK) (E:XK):Prop
 |mk (x:V) (h0:vs=Dt) (h1:(CU B[IsR H x B/\∀l,Bv->xY8 sO]\/(xtw K H x/\xzU cR H))):spNeedRow K cR vs H Q E
def ok_needrow {P:Qv}{w:Qw}{f fW fR:Qq}{fd U2 fdR:Qx}(F:Ο "need_row" xwZ Jaf)(R:Gg "is_row" xx3 Jaf fR fdR)(W:jm)(Y:ZK)(mR:ybG=π cR)(xR:yM cR):
  xPf Jaf[spNeedRow K cR]:=by
 show(eN GR[iU 3 fR fdR Jaf ycu][xr6 R W Y] T Y.X,kz xni[λ QE A outer s H vs Q E hr h=>?_],XG x h h,Xo Uj[Dk 3][yj[uD[xW[dz GR Uj R.m R.F.kp R.b bA gP]] mR xR] x7v])
 rcases h with⟨B,⟨a,rfl,hB,hb⟩,k⟩|⟨hN,k⟩
 ·show HU[SU[.inl[sP B[VC a hB hb] _ AI]]][ZC a[BN hB] k]
 ·exact SU[.inr[sV hN _[bZ k]]]
universe K27.Rf
namespace K27.Ck
open PySem L2 QQ W17 W16 BP
seal PE PA PS PSs PT PW PG PI
abbrev xqC:QC:=top 130
def xi7:HJ[x42 "head"]:=Z8
def xr9 (ds:B4)(i:Nat):LE:=[xAm,xXw ((0,0))/64,xXw ((0,0))%64+1,(ds.getD i ((0,0))).2+5]
def xtL {ds:B4}(h:PC ((a,n))):xr9 ds i=[xAm,a/64,a%64+1,n+5]:=by
 unfold xr9;show Yy h
def Sk (H:Hp)(l:Qq)(ds:B4)(k:Nat):Prop:=∃ts:AH,pV=jX/\xU7 k/\tK i Nat t Qq xQb[Y8[xPN ds i]]
def Sk.keep (h:Ag H k)(s:∀c o,Ψ->FL x->Cf)(hx:cg[uQ=Fh])(n:XB x):Ag H' k:=by
 show(Q9 ts h1 h2 h3,Ib xs hx hx (ts,xXt n,h2,λ i t e=>FV[h3 i t e][aJ[h3 i t e] hx A2]))
def Sk.same (h:Ag H k)(s:Χ):Ag H' k:=C5 ts h1 h2 h3 h (ts,xXt,h2,λ i t e=>FV[h3 i t e])
def Sk.push (h:Ag H i)(ht:Y8[xPN ds i]):∃us:AH,pV=xYq/\xAT i/\Ag[WA[xSP++[Z1]]][i+1]:=by
 show(Q9 us hu YS hut,DK (us,hu,YS,us++[t],xCS,Ai IQ YS,Μ j u eu) kp[∀{c xs},iO c->iN[(WA[xSP++[Z1]]) c]][λ e=>xk[xDl hu A2] e],iq j us.length q q)
 ·show Ε[JP q] eu[kp[hut j u eu]]
 ·rw [Jz q] at eu;show(YE[UJ eu],Hu[j=i][Ε LS z[yd[G6 [_,_,_,_][Aw[ZH Re]][Ξ[xQK xY]] SL[IR YS] z W1][CM [_,_,_] Φ HM SL Re[IR YS.symm] q]]],Zw YS LU eu eu,kp ht)
def hd2 (R:LE):gO:=((R.getD 0 0,R.getD 1 0))
theorem AT (hN:Ff)(hb:D4):∀n j,n+j=DJ->Bk xID[xT1[64*j]][(x2o).map hd2]
 |0,j,h=>by
  show(Hu[j=DJ][BW[xWc kM xA][d6 kM Re RA]],Iv[xph hN][Lj[IR Ap]][LN[by show(ir,Ay [_,_][xFS 63] xWr Re cF zV)]][.tl xHa])
 |n+1,j,h=>by
  show(xwE R a m r e g QY[show j<DJ by show tS [_,_,_] xGW SB xA],υ ih[AT hN hb n[j+1][Em gc Uf Dw Uf xA[EZ Uf gc Uf Dw RA]]] em[xT1[64*(j+1)]=xT1[64*j]+(a%64+1)][by
   rw [g.ct,<-Jc,<-Jc,CA[64*(j+1)][64*j+64],Oj,IQ];rfl])
  rw [em] at ih;show(Ik hj[xZ7 e],[xxX e,Kt hj,KH,show hd2 Rs[(j)]=((a,m)) by show Ar g.eq,g.eq,IU],.bl g.ha g.n1 g.n2[by omega] g.hr ih)
def xjk (cM cH cK cB cT cL cC:Qq)(L:LE)(c:Qq):Prop:=xIc oO\/(c=cC/\∃S W,xIc xCG)
structure Lok (K:Frag)(mg:Ι)(cB cN cL cC cR:Qq):Prop where
 bd:Sn
 mB:xFo=xOy
 xB:xOM
 mC:x3y=π cC
 xC:yM cC
 mR:ybG=π cR
 xR:yM cR
 ks:Lks K mg
 op:xIL "opened" xvo
 lk:xIL "looked" xqC
inductive spLook (K:Frag) (cM cH cK cB cT cL cC cR:Qq) (vs:Sy) (H:Hp) (Q:VK) (E:XK):Prop
 |row (x:V) (h0:vs=Dt) (h1:xVr H x) (h2:xzU cR H)
 |bad (a:Qq) (L:LE) (c:Qq) (h0:vs=F5) (h2:Υ=xO) (h3:xJw) (h4:xMC) (h5:xjk cM cH cK cB cT cL cC L c) (h6:BB c)
 |good (a:Qq) (T:LE) (Rs:yO) (h0:vs=F5) (h1:D4) (h2:g9) (h3:Ff) (h4:Υ=xOF) (h5:tE[Χ->x4C H' l SV->B8])
def xj3:XL ["row","bale"] Jam xqC:=Tm
def ww (F:Ο "looked" xqC Jam)(Z:vR)(O:Sw)(Y:Lok K mg cB cN cL cC cR):pS 45 Jam[spLook K cM cH cK cB cT cL cC cR]:=by
 show(Tl X Z.pr.H.N.X T0 Z.pr.H.T,C6 N' Z.pr.H.need Ir Z.pr.H.N.isrow,C6 Wh Z.pr.H.N.whole Op Y.op,C6 Bi Y.ks.blocks Bs Z.pr.bsize,rN[F.F.okE xj3[λ QE A outer st H vs Q E hr h=>?_][by intro _ _ _ _ h;cases h<;>subst_vars<;>rfl]] _,tP RW hV hr36 36,Xo QW F9[DP 1 xj3.nd[dz[Rf.ok_needrow N' Ir Wh Z.pr.H.N Y.mR Y.xR] RW N'.m N'.F.kp N'.b bJ gP][aB[vL[xmE Op Z O Y.bd Y.mB Y.xB Y.mC Y.xC] Op.m Op.F.kp Op.b oF]][xt4 (N:=x42 "head") (g:=x6B 2[xwk IF[xwk[bO 1] gNil]]) rfl rfl Z8 Z8 Z8[xxC[dz[xhm Bi Z.pr Z.bk Y.ks Z.er Y.mB Y.xB] hr36 Bi.m Bi.F.kp Bi.b bJ oF]][λ fp s H=>xNc[pN 0 xi7[pN 1 xi7 im]]][λ fp s H=>cx[mJ[xJ5[x8a K rfl τ rfl][x8a K rfl τ rfl][yU[xqS Bs Z.pr.H] Bs 1]]]]]])
 cases h with
 |row x h0 hn k=>
  show DN h0[xNi x[x4 hn k]]
 |bad a L c h0 ha hb hl hW k=>
  show(xNW,SU[xKb L[VC a ha hb] xNV],s1=Dn sZ n1);rcases hW with hW|⟨rfl,S,W,hW⟩
  ·exact(_,rfl,l1,L,_,rfl,ad,hb,hl,hW,nofun,nofun,λ c e H2 s2=>CR e[Ey Fy])
  ·exact(_,rfl,l1,L,_,rfl,ad,hb,hl,hW,nofun,λ S W _ H2 s2=>Ey Fy,nofun)
 |good a T Rs h0 hb hl hN ha k=>
  show(xNW,sL hB RT[xX5 hb gY][SU[xWX[VC a ha hB] xNV]],fw s1 dn n1 h1[(ZX H l1 Gl) l1=xOF],uf[ZX H l1 Gl] (_,rfl,l1,_,_,rfl,h1,hB,RT,xb1 _ _ _ _ _ _ hN hb gY,λ S W _ l2 H2 _ s2=>?_,nofun,nofun),SC hn4[Rs.length≤4][by show([Ap],ir,BM[zQ 64 [_,_] xWg[x6V xBv] D5 hl DB])] (_,rfl,l1,_,SV,rfl,xNq,AT hN hb DJ 0 rfl,uO[qG D5 Dm hn4],λ l3 ts H3 n3 s3 RV tl bl=>?_),Vk s13[s1.trans AE][xDu l3 RV[UF l4 n4]][xpC (K:=K) (a:=l3) (l:=l4) (xs:=E8) (n:=2) (λ i ys H4=>Sk H4 l4 SV i/\H4 l4=de/\K' H3 H4) (sV [] ad[nofun],ad,am n4) ?_ ?_ ?_ ?_ ?_])
  ·rintro i ys H4 hi ⟨_,_,s4⟩;show rW[X4 RV]
  ·rintro i x ys σ H4 hx ⟨hT,hy,s4⟩ hσ;show(kH hx,Dr t ht[Option.map_eq_some_iff.mp hx],(a',n',h,dx,e1,e2,e3)=bl i t ht);rcases σ with _|⟨v0,_|⟨v1,_|⟨v2,σ⟩⟩⟩<;>try cases hσ
   show(Vk e3[X4 e3] (t,_,rfl,QV.of[X4 e2],rfl,_,_,rfl,_,_,rfl,rfl,?_) (_,rfl,_,rfl,h,QP,dx,_,_,rfl,e3,T0.cl,T0.nW,xoC _ _ _,_,rfl,h,QP,dx,_,_,rfl,e3,T0.cl,T0.nC,xuM _ _ _,_,rfl,h,dx,_,_,_,rfl,e3,(xj 4),UF t5 n5),[show [vN xOi,vN[a'/64],vN[a'%64+1],vN[n'+5]]=xPN SV i by show Ar[xtL e1]],o6 s5[Zj[xPN SV i] n5] us hu YS hT'[(hT.same s5).push (t:=t5) ad],Hu[ys=xSP][by show AQ[Bn hy] hu hu;rfl],DC il[x4D i][UJ ht] (hu,bW[by show mY YS;rw [tl,IS] at il;show ED [_,_] xBs xHC Bc hn4 il],rfl,hT',ad,λ c o e=>xNI n4[(x1N) _ _ e]))
  ·rintro ys H4 ⟨hu,_,s4⟩;show(xBQ tl IS hu,k l4 H4[none_of s13 n4] yju hu)
  ·rintro x σ H A B hAB ⟨a',xs',e1,e2,e3,v0,r0,e4,v1,r1,e5,e6,z⟩;exact(a',xs',e1,e2,e3,v0,r0,e4,v1,r1,e5,e6,hAB _ _ z)
  ·rintro σ H A B hAB ⟨v,e1,v',e2,a1,a2,a3,a4,a5,a6,a7,a8,a9,a10,v2,f1,b1,b2,b3,b4,b5,b6,b7,b8,b9,b10,v3,f2,c1,c2,c3,c4,c5,c6,c7,c8,z⟩;exact(v,e1,v',e2,a1,a2,a3,a4,a5,a6,a7,a8,a9,a10,v2,f1,b1,b2,b3,b4,b5,b6,b7,b8,b9,b10,v3,f2,c1,c2,c3,c4,c5,c6,c7,c8,X5[hAB _ _[z p hp]])
universe K27.Ck
namespace K27.Ck
open PySem L2 QQ
seal PE PA PS PSs PT PW PG PI
abbrev xt1:QC:=top 135
abbrev pi:QC:=top 136
inductive xsC (K:Frag) (vs:Sy) (H:Hp) (Q:VK) (QL:XK):Prop
 |mk (a:Qq) (ns:Za) (k:Nat) (h0:vs=zR[vN k]) (h1:xQ5 a) (h2:∀n,XD n):xsC K vs H Q QL
def xc7:XL xKy xKy xt1:=Tm
def xqj (F:Ο "_law_cell_at" xt1 xKy)(X:yh):eg xKy[xsC K]:=by
 show(D1 xc7[λ QE A outer st H vs Q E hr h=>?_],xv0 a ns k rfl hS q,Fx[yj[rh[ZS τ xA2][oR τ]] ag] (_,rfl,_,rfl,a,_,rfl,.inl hS,_,_,rfl,rfl,_,rfl,xMP h1[q 0]),SC h2[xAO k][x3 xA3 IS xLu] (_,rfl,_,rfl,a,_,_,V.int ns[(k)],rfl,rfl,hS,aA ?_,Ww),Ai Jw[IW h2])
inductive xsc (vs:Sy) (H:Hp) (Q:VK) (QL:XK):Prop
 |mk (c k:Int) (h0:vs=[x2p,x6U]) (h1:0≤k) (h2:IK k) (h3:∀n:Nat,Fc F6):xsc vs H Q QL
def xaU:XL xKE xKE pi:=Tm
def xm3 (F:Ο "_law_mixed" pi xKE):eg xKE xsc:=by
 show(D1 xaU[λ QE A outer st H vs Q E hr h=>?_],vP c k h0 h1 q,xb[V8[zP xxs[V8[zP xxs[Gi[Gi Η[ao xxs[xIg τ] τ]][xIg τ]]]]]] (_,rfl,_,rfl,_,_,rfl,rfl,xQP,_,rfl,_,_,rfl,rfl,x4 Z5 Z5,_,_,rfl,rfl,?_),zJ (_,rfl,_,_,rfl,rfl,xQP,_,_,rfl,rfl,_,_,rfl,rfl,x4 Z9 Z9,_,_,rfl,rfl,(HA[FX<2147483647]),_,_,rfl,rfl,x4 Z9 Z9,_,_,rfl,rfl,(HA[FX<2147483629]),?_) n e[Oh[Int.emod_nonneg[(c+7919*k*k+104729*k)*48271%2147483647*69621][show A6 2147483629≠0 from Z9]]])
 try dsimp only
 show WQ[q n]
universe K27.Ck
namespace K27.Ck
open PySem L2 QQ W17 W16 BP
def Pv (te:TE)(σ:St)(H:Hp)(v:V):Prop:=∀H1,qa->∀Q:VK,vQ v->te σ H1 Q
def Ls (te:TE)(σ:St)(H:Hp)(A:LE):Prop:=∀H1,qa->∀Q:VK,(uq l[xEz H1->B0=xH7->B8])->te σ H1 Q
def xxK (t:TT)(σ:St)(H:Hp)(b:Bool):Prop:=∀H1,qa->∀Q:xw5,vQ b->xYx Q
def xoj (ta:TA)(σ:St)(H:Hp)(vs:Sy):Prop:=∀H1,qa->∀Q:xHo,vQ vs->x0E H1 Q
def Ov (t:xy3)(σ:St)(H:Hp)(o:UB):Prop:=∀H1,qa->∀Q:UT UB,vQ o->xYx Q
def Pv.go (h:E1 te v)(k:Fc v):ZJ Q:=h H xZ Q k
def Pv.var (h:xQH Ha):E1 xHS v:=λ H1 _ Q k=>CS h k
def Pv.c:E1[tC v] v:=yeH k
def Pv.op0 (ha:E1 a Dz)(hb:E1 b D8):E1[Mh g a b] oW:=λ H1 s Q k=>ha H1 s _[xX6 s _[sP i j rfl k]]
def Pv.op (ha:E1 a Dz)(hb:E1 b D8)(hc:C i j):E1[tOp[xvj C g] a b] oW:=λ H1 s Q k=>ha H1 s _[xX6 s _[yo i j rfl hc k]]
def Pv.add (ha:uZ)(hb:Ur):iz[xN7[i+j] a b][m+n]:=.op0 ha hb
def Pv.sub (ha:uZ)(hb:Ur)(h:n≤m):iz[xN7[i-j] a b][m-n]:=by
 have:=xUM[xLa[i-j]] ha hb
 rwa [BJ[V.int[xt-BU]][vN[m-n]][x1f[WM h]]] at this
def Pv.div (ha:uZ)(hb:Ur)(h:xuX n n:=by show AU Z9 Z9):iz[bF xuX[i/j] a b][m/n]:=.op ha hb h
def Pv.mod (ha:uZ)(hb:Ur)(h:sh[0<n]):iz[bF[λ _ j=>0<j][i%j] a b][m%n]:=.op ha hb[xn h]
def Pv.mul (ha:uZ)(hb:Ur)(h:CMul m n):iz[bF CMul[i*j] a b][m*n]:=.op ha hb h
def Pv.xor (ha:uZ)(hb:Ur):iz[xN7[x91 j] a b][m^^^n]:=by
 have:=xUM[xLa[x91 j]] ha hb
 rwa [xyY] at this
def Pv.shl (hb:Ur)(h:n<8):iz[bF xuS[i*xWV 2] xOK b][2^n]:=by
 have:=Pv.op (C:=xuS) (g:=xLa[i*xWV 2]) (a:=xOK) (i:=1) .c hb (kX zW,kX[HH SB Dv Re SW h],Z9)
 rwa [JH,Qo,show(A6 2^n)=ST[2^n] by show Ar Int.natCast_pow] at this
def Pv.neg (h:E1 t Dz):E1[tUn[xsL λ i=>xPl i] t][xPl i]:=λ H1 s Q k=>bP[Ef i k]
def xew {r:R2}{Q:VK}(h:E1 a v)(k:b σ H[jh y[r v y H2 Q]]):xXL a b σ H Q:=h.go k
def xoj.nil:xQC df H []:=yeH k
def xoj.cons (h:E1 t v)(g:xQC ta H vs):xQC[xxv t ta] H[v::vs]:=λ H1 s Q k=>bP[g H1 s _ k]
def Ov.no:Ov xyb σ H none:=yeH k
def Ov.at (h:E1 t Dz):Ov[xx0 t] σ H[some i]:=λ H1 s Q k=>bP[Ef i k]
def Ls.var {A:LE}(h:xQH BL)(ha:Υ=xH7):yH xHS:=λ H1 s Q k=>CS h[Ey H1[K'.refl H1] xWl]
def Ls.lst {A:LE}(h:xQC ta H xST)(hl:Zg A.length):yH[nP ta]:=λ H1 s Q k=>bP[ka[bV[Gk hl]] p hp[bD iL ad]]
def Ls.one (h:iz t x):fq[nP[ER t]] Dt:=.lst[lp h][HA[AL 2000]]
def Ls.cat {A B:LE}(ha:yH a)(hb:fq b B)(hl:Zg[A.length+B.length]):fq[tOp rCat a b][A++B]:=λ H1 s Q k=>by
 show(ha H1 s _ λ l H2 s2 h2=>hb H2 xLg _ λ m H3 s3 h3=>(l,m,_,_,rfl,rfl,x7L,h3,bV[zD IS hl],X5[bD[(AE).trans iL] ?_]),xIO)
def Ls.rep (h:iz t x)(g:iz u n)(hn:IK n):fq[tOp rRep[nP[ER t]] u][xv1 x]:=λ H1 s Q k=>by
 show(Ls.one h H1 s _ λ l H2 s2 h2=>g H2 xLg _ (l,_,_,rfl,rfl,h2,Oe[2^63] _,by omega,bV[by show 1*n≤_;show Ay DU Re Dm[x9 1] Bc hn],wc),Γ JH[k p _[s2.trans iL] ?_],[ad,CA[A5 Dt] [xDa],xmW])
def Ls.sl {A B:LE}(h:xDG)(hl:Ov lo σ H o)(hh:Ov hi σ H p)(e:cutV xST o p=sO):fq[xWS t lo hi] B:=λ H1 s Q k=>Ea[bP λ l H2 s2 h2=>hl H2 xLg _[hh H2 xLg _[yW l[QK.of h2][UF q hq]]]] e[bD[s2.trans[am hq]] ad]
def Ls.upto {A:LE}(h:xDG)(hh:iz hi n):fq[xWS t xyb[xx0 hi]][A.take n]:=h.sl .no x3Z[by rw [xxj,LO]]
def Ls.frm {A:LE}(h:xDG)(hh:iz lo n):fq[xWS t[xx0 lo] xyb][A.drop n]:=h.sl x3Z .no[by rw [xxl,LY]]
def xqK (n k:Nat)(d)(h:AL k):x3o d[some[-xu]]=n-k:=by
 show lP[EM[(-xu)<0][UH[-xu] BU] _=_][Ju[by omega]];omega
def Ls.uptoE {A:LE}{k:Nat}(h:xDG)(hh:E1 hi[xPl xu])(h1:sh[AL k]):fq[xWS t xyb[xx0 hi]][A.take[x5j k]]:=h.sl .no x3Z[by show(xwF,[xqK _ _ _ h1,HT.xu1,Lv,MM,IS,LO])]
def Ls.ends {A:LE}{k l:Nat}(h:xDG)(hl:E1 lo[xPl xu])(hh:E1 hi[xPl[A6 l]])(h1:sh[AL k])(h2:sh[AL l]):fq[xWS t[xx0 lo][xx0 hi]][Ew[A.drop[x5j k]][x5j l][x5j k]]:=h.sl[.at hl] x3Z[by show(xwF,[xqK _ _ _ h1,xqK _ _ _ h2,IS,LO,LY])]
def Pv.len {A:LE}(h:xQH BL)(ha:Υ=xH7):iz[tCB[λ xs H Q=>∃p ys,xs=Cg/\(vB p ys\/w4 p ys)/\xTG H][ER xHS]] A.length:=λ H1 s Q k=>by
 show(zE _ h a _[BN xWl] ?_,Gk k)
def Pv.ix {A:LE}(h:xQH BL)(ha:Υ=xH7)(g:iz tj j)(hj:xGq j):iz[xRC xHS tj] xIt:=λ H1 s Q k=>by
 show(CS h[g H1 s _[u7 a _ _[vN xIt][QK.of xWl][aA ?_] k]],kh Jw xNR Jm xNR)
def xjA {A:LE}{Q:VK}(h:xQC ta H xST)(hl:Zg A.length)(g:iz tj j)(hj:xGq j)(k:xBN xIt):xRC[nP ta] tj σ H Q:=by
 show(h H xZ _[ka[bV[Gk hl]] p hp[g _ iL _[u7 p _ _[vN xIt] xFQ[aA ?_][Ey iL]]]],kh Jw xNR Jm xNR)
def xsM {Q:VK}(h:xQC ta H vs)(k:∀p,Vu->lR[Hf H p vs])(hl:AJ[Ty[vs.length.ble 2000]]):xuU ta σ H Q:=h H xZ _ (bV[NP hl],k)
def xxK.of (h:E1 t iW):xxK[jd t] σ H b:=λ H1 s Q k=>bP[BV k]
def Pv.eq (ha:uZ)(hb:Ur):E1[ye6 a b][.bl[CG m n]]:=λ H1 s Q k=>ha H1 s _[xX6 s _[ZV[LT[xJZ[CG qS F6][CG m n][xQq[Int.ofNat.inj yaK] xQe]] k]]]
def Pv.lt (ha:uZ)(hb:Ur):E1[Mh[λ i j=>Rh i j] a b][Rh m n]:=by
 have:=xUM[λ i j=>Rh i j] ha hb
 rwa [xJZ[HY xt BU][HY m n] Mx] at this
def Pv.gt (ha:uZ)(hb:Ur):E1[Mh[λ i j=>Rh j i] a b][Rh n m]:=by
 have:=xUM[λ i j=>Rh j i] ha hb
 rwa [xJZ[HY BU xt][HY n m] Mx] at this
def Pv.ge (ha:uZ)(hb:Ur):E1[Mh[λ i j=>xZz j i] a b][xZz n m]:=by
 have:=xUM[λ i j=>xZz j i] ha hb
 rwa [xJZ[FO BU xt][FO n m] OQ] at this
def xtd {D:Ends}{p:Prop} [Decidable p] (h:xxK t σ H[decide p])(k1:p->u D σ H)(k2:¬p->v D σ H):xo4 t u v D σ H:=h H xZ _[aZ[SZ[k1[Jd z]]][SZ[k2[EA[z[IZ q]]]]]]
def xxZ {D:Ends}(h:E1 te v)(k:D.nx xWe H):xxS te[bO i] D σ H:=h.go k
def xlC {D:Ends}(h:yH te)(k:xI6[B0=xH7->D.nx[xSU qB] H']):xxS te[bO i] D σ H:=h H xZ _ k
def Fa {D:Ends}(h:E1 te v)(k:D.rt v H):xzy te D σ H:=h.go k
def xfh {D:Ends}(h:yH te)(k:xI6[B0=xH7->D.rt Ct H']):xzy te D σ H:=h H xZ _ k
def xgF {te:TE}{cs:St}{R:UT Qq}(ok:gh)(hk:IK k)(hte:∀j H1 (Q:VK),j<k->qa->EN b[ok b->vQ qR]->te[Α j::cs] H1 Q)(h:∀l (S:LE) H',Bv->Χ->B0=y0->xA8 k->(E5 S[ok b])->R l H'):∀l,Bv->Ek[Sy->EE][xGB[none::cs] x8j/\∀i m ys σ' H',jD->
   (ik[Itr 0 k] H'/\R l H')\/(gX[Itr 0 k] H'/\∀x H2,YA[Itr 0 k] H' x H2->IF x σ' H2[xCK[λ y H4=>
    zh=de/\XU/\bY[m'<m/\lK[i+1]]]])]:=λ l nl=>by
 show yI[λ i m ys σ H2=>m=k-i/\i≤k/\∃(v0:EY) (S:LE),σ=v0::cs/\ys=xEE/\xA8 i/\(E5 S[ok b])/\Vw=de/\yi] (k,rfl,B1,none,[],rfl,rfl,rfl,nofun,ad,xwI);rintro i m ys σ H2 ⟨rfl,hi,v0,S,rfl,rfl,hl,hS,h2,s2⟩;by_cases QF:i<k
 ·show(xR7 QF,zN y);show te[xAB[0+xJ]::cs] _ _;show(Γ Qj[hte i H' _ QF s2[Bm (h2,bW[uO[G6 [_,_,_] xGT[iK Φ] Bc hk hi yq]],k-(i+1),yc [_,_,_,_] xWq xWi W1[VD [_,_] Β Β QF],rfl,QF,_,S++Wz,rfl,Ar Ji,Ai IQ hl,xIH,ad,λ d o e=>xNI nl[ES e])]],aQ hx)
  ·exact hS x z
  ·show jg z hb
 ·show DZ (xSF QF,h l S H2 nl s2 h2[El[uW [_,_,_] HM Φ hi yq] [_,_,_] DG EH SL Rd[JX QF]] hS)
structure Goes (J:It)(H:Hp)(xs:Sy):Prop where
 st:∀{i H'},Χ->x2B i->xH8
 go:∀{i H'},Χ->rQ->xId
 yl:∀{i H' x H2},Χ->xJQ->H2=H'/\ue
def Goes.li (h:pX[xY2 a xs]):Goes vv H xs:=(λ s l=>xHv xP5 l,λ s l=>(xs,_,xP5,IW l),λ s ⟨e,y⟩=>(e,y xs xP5))
def Goes.tu (h:pX[QV K H' a xs]):Goes[Itt K a] H xs:=(λ s l=>xHv xP5 l,λ s l=>(xs,_,xP5,IW l),λ s ⟨e,y⟩=>(e,y xs xP5))
def QK.up {xs:Sy}(e:Υ=Fh):pX[xY2 a xs]:=λ _ s=>QK.of xPE
def QV.up {xs:Sy}(e:iO a):pX[QV K H' a xs]:=λ _ s=>QV.of xPE
def xue {te:TE}{tt:TT}{cs:St}{R:UT Qq}{J:It}{xs:Sy}(G:Goes J H xs)(b:xVA)(f:DQ V)(hk:ybd)(WW:∀i x H1 (Q:xw5),ue->qa->vQ[b i]->tt[dt::cs] H1 Q)(hte:∀i x H1 (Q:VK),ue->Ty[b i]->qa->EN H2[xHL->Q[f i] H2]->te[dt::cs] H1 Q)(h:tE[Χ->B0=Az[xZw[xv5 xs.length b]]->R l H']):∀l,Bv->Ek[Sy->EE][xGB[none::cs] x8j/\∀i m ys σ' H',jD->
   (xH8/\R l H')\/(xId/\∀x H2,xJQ->IF x σ' H2[xIm[λ c H5=>xJ4 c[λ y H4=>
    zh=de/\XU/\bY[m'<m/\lK[i+1]]][bY[m'<m/\xLM[i+1] ys H5]]]])]:=λ l nl=>by
 show yI[λ i m ys σ H2=>m=xQV/\WH/\∃(v0:EY),σ=v0::cs/\ys=xZw[xv5 i b]/\Vw=de/\yi][VM B1 none rfl ad xwI];rintro i m ys σ H2 ⟨rfl,hi,v0,rfl,rfl,h2,s2⟩;by_cases QF:rQ
 ·show(xR7[G.go s2 QF],sL rfl ex[G.yl s2 y][WW i x H' _ ex s2[aZ[λ hb=>hte i x H' _ ex hb s2 λ H3 s3=>(x7L,?_,_,we,rfl,QF,_,rfl,?_,ad,λ d o e=>xNI nl xIs)] λ hb=>(_,we,rfl,QF,_,rfl,?_,h2,s2)]])
  ·show x3[NO b[List.range i]] LA[bW[uO[G6 [_,_,_] xGT[iK Φ] Bc hk hi this]]]
  ·show kh NN JN[JL hb] Ji
  ·show uA NN JN[JU hb] Ji (JM _).symm
 ·show(Hu xN8[BW[xRN hi][d6 Re Re[JX QF]]],DZ (G.st s2 ρ,h l H2 nl s2 h2))
def xs2 {te:TE}{cs:St}{R:UT Qq}{J:It}{xs:Sy}(G:Goes J H xs)(f:DQ V)(hk:ybd)(hte:∀i x H1 (Q:VK),ue->qa->EN H2[xHL->Q[f i] H2]->te[dt::cs] H1 Q)(h:tE[Χ->B0=Az[ykw f]->R l H'])(l)(nl:Bv):Ek[Sy->EE][xGB[none::cs] x8j/\∀i m ys σ' H',jD->
   (xH8/\R l H')\/(xId/\∀x H2,xJQ->IF x σ' H2[xCK[λ y H4=>
    zh=de/\XU/\bY[m'<m/\lK[i+1]]]])]:=ZQ W h0 h1[xue (tt:=λ _ H Q=>Fc true) G RB f hk[λ _ _ _ _ _ _ k=>k][λ i x H1 Q e _ s k=>hte i x H1 Q e s k][LT[ygy xvU] h] l nl] W h0[λ i m ys σ' H' w=>(h1 i m ys σ' H' w).imp id λ⟨g,y⟩=>(g,λ x H2 z=>HI[y x H2 z] this)]
universe K27.Ck
namespace K27.Ck
open PySem L2 QQ W17 W16 BP
seal PE PA PS PSs PT PW PG PI
abbrev xug:QC:=top 138
def xeu:HJ yhA:=Z8
def xeh:HJ yhx:=Z8
def xdV:HJ ["_law_j","_law_first","_law_number"]:=Z8
def xjP (hx:xAa x ([xBk,xQX,xRf]:wA) .cell\/xAa x ([xBk,xQX,xRf]:wA) .free):x=y:=by
 rcases hx with hx|hx<;>have m':=xHX<;>simpa using m'
def Ev (hx:xAa x ([xBk,xQX,x03 z,xRf]:wA) .cell\/xAa x ([xBk,xQX,x03 z,xRf]:wA) .free):x=y:=by
 rcases hx with hx|hx<;>have m':=xHX<;>simpa using m'
def xos (hx:xAa x ([xBk,xQX,x03 z,xRf,xTE u]:wA) .cell\/xAa x ([xBk,xQX,x03 z,xRf,xTE u]:wA) .free):x=y\/x=u:=by
 rcases hx with hx|hx<;>have m':=xHX<;>simpa using m'
def Ch {x y:Nat}(hx:xDr)(hy:By y):By[x^^^y]:=Kw (n:=8) hx hy
inductive spText (K:Frag) (vs:Sy) (H:Hp) (Q:VK) (QL:XK):Prop
 |mk (a:Qq) (ns:Za) (h0:vs=F5) (h1:pX[xY2 a Aq]) (h2:Xx l Qq T LE[Χ->Bv->B0=Hj->g9->xRc->B8]):spText K vs H Q QL
def Sj:XL ["_law_script","_law_text_here","_law_k","_law_number","_law_size","_law_first"] xz5 xug:=Tm
inductive Itx (H:Hp) (a:Qq) (i:Nat) (σ:St) (H2:Hp):Prop
 |mk (l:Qq) (T:LE) (v2 v3 v4 v5:EY) (h0:σ=[BL,qB,v2,v3,v4,v5]) (h1:Vw=Hj) (h2:xKa[70*i]) (h3:xRd) (h4:yi) (h5:Bv):Itx H a i σ H2
def Itx.more {T S:LE}(s:yi)(h:Vw=Hj)(hT:xRd)(hl:xKa[70*i])(hi:i≤4)(hS:Zo S)(hz:x3h 70)(s3:xYe H3)(h3:H3 m=y0)(k:uq p[Itx H a[i+1] [BL,u5,v2,v3,v4,v5] H'->xYg]):rCat Ct[.ref m] H3 Q:=by
 refine(l,m,_,_,rfl,rfl,Ge h,h3,bV[by show(mY IS,DE [_,_,_][xIA 70 SL][ZY 70[CN[.m 70 D5] 70]] WF Bc hl[IV 70 hi] hz)],X5[k p _ (p,T++S,_,_,_,_,rfl,xIO,GV[CM [_,_,_] WF[CN[XY 70] 70] WF[.m 70 xi] hl hz],Bm[xv7 hb[hT b][hS b]],yke s3 iL,none_of[s.trans s3] hp)])
def xfE {Q:VK}{ns:Za}(h:Cs σ 0 BL)(hS:xQ5 a)(g:iz tj j)(k:∀n,XD n):xxo[xsC K] [] E[yJ gF tj] σ H Q:=CS h[g.go[yo a ns j hS k]]
def xtV {Q:VK}(g:iz tj k)(hk:IK k)(q:∀n,Fc F6):tj σ H[jh y[df σ H2[jh xs[xsc[x2p::y::xs++[]] H2 Q E]]]]:=g.go (c,k,rfl,kX zW,kX[qG Dm Dm hk],q)
def xbR (F:Ο "_law_text" xug xz5)(Ce:Gg "_law_cell_at" xt1 xKy fc fdc)(Mi:Gg "_law_mixed" pi xKE fm fdm)(X:yh):vn xz5[spText K]:=by
 show(Tl GC[xqj (P:=P) (w:=w) (base:=base) Ce X] GM[xm3 (P:=P) (w:=w) (base:=base) Mi],D1 Sj[λ QE A outer st H vs Q E hr h=>?_],yV a ns ha k,Xo QW F9[DP 1 Sj.nd rE[nK[xIb[BO[Gi ag[V8[xYy Ce x6f]]]]] 2 Sj.nd[ID 3 Sj.nd[Br GM Mi[aa[xYy Ce[nj 0[Gi ag Ζ]]] AP]] 4 Sj.nd[xOA[xAv AZ][V9[aK[zO[zO bq]]][V8 AZ]]][DS 5 Sj.nd x57[vm[CE x57][eI 1 Sj.nd[xYo[xOu[sf 5] Bb]]][vm[CE x57][eI 1 Sj.nd[xYo[xPh yhA [none,some 5] [(("_law_first",wW+1))] (g:=IF) rfl[bQ Z8 Z8 Z7[λ x c h=>(by show zN[xys h];rfl)][DX[by show(xw9[xjP hx],CQ)]] rfl[λ i x j h1 h2=>?c1]][xIb[sf 4]][λ fp s H=>VG xeu][λ fp s H=>V8[xUZ Η]]]]][vm[CE x57][eI 1 Sj.nd[xYo[xPh ["_law_j","_law_first","_law_number"] [none,some 5,x5y] [(("_law_number",wW)),(("_law_first",wW+1))] (g:=IF) rfl[bQ Z8 Z8 Z7[λ x c h=>(by rcases xta h with⟨rfl,rfl⟩|⟨rfl,rfl⟩<;>rfl)][DX[by rcases xos hx with rfl|rfl<;>exact CQ]] rfl[λ i x j h1 h2=>?c2]][xIb[sf 4]][λ fp s H=>VG xdV][λ fp s H=>ao xsN τ[xBf[Br GM Mi[jA 2 0]]]]]]][eI 1 Sj.nd[xYo[xPh yhx [none,x5y] [(("_law_number",wW))] (g:=IF) rfl[bQ Z8 Z8 Z7[λ x c h=>(by show zN[xys h];rfl)][DX[by show(xw9[Ev hx],CQ)]] rfl[λ i x j h1 h2=>?c3]][xIb[sf 4]][λ fp s H=>VG xeh][λ fp s H=>xBf[Br GM Mi[jA 1 0]]]]]]]]]]]][kU τ[V9[aK[zO[zO bq]]][xBf[xYy Ce x6f]]]]])
 case c1=>show j6 xXX[bS c h h]
 case c2=>rcases ydh h2 with⟨rfl,rfl⟩|⟨rfl,rfl⟩<;>exact bS c h h
 case c3=>show j6 xXX[bS c h h]
 show(T8[ka Z9 l0 n0 AA],uU RQ[∀{H'},Χ->xY2 a Aq][λ s=>ha _ s][xWK[RQ[am n0]] .c[Hy n]])
 obtain⟨m,em,hm⟩:∃m:Nat,Il+n%4=xt/\m≤4:=(UH 1[n%4],by omega,by omega);refine(_,_,rfl,rfl,(HA[FX<4]),_,_,rfl,rfl,?_)
 try dsimp only
 show(Γ em[cm rfl[by omega][by omega] ?_],Γ JH[yaR[Itx H a] (l0,[],none,none,none,none,rfl,ad,B1,nofun,am n0,n0)[λ i σ H2 hi hI=>?_][λ σ H2 hI=>AA]])
 ·show(CF,(l,T,v2,v3,v4,v5,rfl,hl,hT,hb,s2,nl)=hI,lP[xwc _ _ _ [BL,qB,xAB[0+xJ],v3,v4,v5] H2] Qj,vI[xWK[RQ s2][Pv.add (m:=2) (n:=i) .c Τ] λ c=>xtV (k:=i) Τ[ED [_,_] xBs xHC Dm hm hi] λ x=>AA],HV g[xew[qb x 7][xjA (A:=[3,20,40,70]) (xFY .c .c[pM .c .c])[by decide][Pv.mod (m:=x) (n:=4) Τ .c][Im[by decide]][UF H3 s3]]],aD z hz hz1 z[iC [3,20,40,70][x%4]=z/\0<z/\z≤70][by
   have:x%4<4:=Im[by decide];generalize x%4=y at*;rcases y with _|_|_|_|y
   all_goals first|show BK[by decide]|show rB xG4 D5 this],Γ hz[yo _ _ rfl[xn hz1.1] AA],CF,(hn:x/7%z≤70)=IY[Jy[Im hz1.1]] hz1.2)
  try dsimp only
  show([CA[ST[x/7]%A6 z][ST[x/7%z]]],Cz[x/7%z] n[Wl[xxZ[Pv.mod (m:=x/1000) (n:=256) (Pv.div (m:=x) (n:=1000) Τ .c) .c] AA]],CF,xAI hf[By[x/1000%256]][Im[by decide]][x/1000%256] f,Tl s3' AE RV[Ge hl],SC q4[∀{σ:St} {m:Nat},Cs σ 3[Α x]->xxK[jd[ye6[bF[λ _ j=>0<j][i%j][bF xuX[i/j][Q5 3][vz 4]][vz 4]][tC qS]]] σ H3[CG[x/4%4] m]][jl[.of[.eq[oU[x/4] 4[.div (m:=x) (n:=4) (.var h) .c]] .c]]][xtd[q4 (m:=0) rfl] aX[λ _=>xtd[q4 (m:=1) rfl] aX λ _=>xtd[q4 (m:=2) rfl] aX aX]])
  ·show HU[BV[Ls.rep (x:=f) (n:=n) Τ Τ[xHc 70 hn] _ Zi _ λ l4 H4 s4 h4=>?_]][x1F RV hb hT[ED [_,_] xBs xHC D5 hm hi] (S:=xv1 f) (λ b RJ=>LT[List.eq_of_mem_replicate RJ] hf)[LT JQ hn] s4 h4 λ p H' z=>z]
  ·show Ea[F1 _ rfl _ _ rfl[by omega][by omega] ?_] JH[ydO (cs:=[Α f]) (xHc 70 hn)[λ j H1 Q _ _ kq=>Pv.go[oU[f+j] 256 xWw][kq _[Im[by decide]]]] λ l4 S H4 _ s4 h4 e4 hS=>x1F RV hb hT[ED [_,_] xBs xHC D5 hm hi] hS[ED [_,_] Ω[EL 70][.n 70] hn[IR e4]] s4 h4 λ p H' z=>z]
  ·show Ea[F1 _ rfl _ _ rfl[by omega][by omega] ?_] JH[ydO (cs:=[Α f,Α x]) (xHc 70 hn)[λ j H1 Q _ _ kq=>SU[xtV (k:=j) Τ[by omega] λ y=>Pv.go (v:=vN 7) .c (_,_,rfl,rfl,x5u Z9,_,_,rfl,rfl,(HA[FX<4]),_,_,rfl,rfl,(xyY f[y/7%4]).symm▸kq _[Ch hf[MN[Im[by decide]] (by decide:By 4)]])]] λ l4 S H4 _ s4 h4 e4 hS=>x1F RV hb hT[ED [_,_] xBs xHC D5 hm hi] hS[ED [_,_] Ω[EL 70][.n 70] hn[IR e4]] s4 h4 λ p H' z=>z]
  ·show Ea[F1 _ rfl _ _ rfl[by omega][by omega] ?_] JH[ydO (cs:=[Α x]) (xHc 70 hn)[λ j H1 Q _ _ kq=>BV[xtV (k:=j) Τ[by omega] λ y=>Pv.go (v:=vN 7) .c (_,_,rfl,rfl,x5u Z9,_,_,rfl,rfl,(HA[By FX]),kq[y/7%256][Im[by decide]])]] λ l4 S H4 _ s4 h4 e4 hS=>x1F RV hb hT[ED [_,_] xBs xHC D5 hm hi] hS[ED [_,_] Ω[EL 70][.n 70] hn[IR e4]] s4 h4 λ p H' z=>z]
 ·show(CF,(l,T,v2,v3,v4,v5,rfl,hl,hT,hb,s2,nl)=hI,Fx rfl[nU Z9 l3 n3],χ s3[wH [99,99,99,230] n3][xWK[RQ AE] .c[Hy c]])
  obtain⟨j,ej,hj⟩:∃j:Nat,c/4%4=xIx/\j<4:=((c/4%4).toNat,by omega,by omega);refine(_,_,rfl,rfl,x5u Z9,_,_,rfl,rfl,(HA[FX<4]),?_)
  try dsimp only
  show([ej],aD n hn TK n[u9 [99,99,99,230] n/\n≤230][by
   rcases j with _|_|_|_|j
   all_goals first|show BK[by decide]|show rB xG4 D5 hj],(l3,_,_,F6,rfl,rfl,QK.of (xs:=A5 [99,99,99,230]) ad,aA[Ai Jw hn],_,rfl,l,_,rfl,QK.of[Ge hl],UF l4 n4),EK xxj LO[k l4[T.take n] _[(AE).trans[am n4]][none_of AE n4] ad[Gb[Dg [_,_] Ω[EL 230][.n 230] TK G8]] λ b RJ=>qN[JK RJ]])
abbrev xoA:QC:=top 139
inductive spDue (vs:Sy) (H:Hp) (Q:VK) (QL:XK):Prop
 |mk (x:Qq) (L:LE) (ds:B4) (h0:vs=xQM) (h1:uQ=BA xB0) (h2:Bk L 0 ds) (h3:ybe) (h4:tE[Χ->Ag H' ds.length->B8]):spDue vs H Q QL
def xzg:XL[x7E "_law_found" "_law_place" "_law_size"] x1G xoA:=Tm
inductive Idu (H:Hp) (x:Qq) (B:LE) (ds:B4) (k:Nat) (σ:St) (H2:Hp):Prop
 |mk (i m:Nat) (l:Qq) (v3:EY) (h0:k=ds.length-i) (h1:i≤ds.length) (h2:σ=[RH,qB,xN3,v3]) (h3:Bk xUu m xUp) (h4:Ag H2 i) (h5:yi) (h6:Bv):Idu H x B ds k σ H2
def xwP {B r:LE}(h:x3x=a::n::r):xWF p/\xWF[p+1]/\B.getD p 0=a/\B.getD[p+1] 0=n:=by
 show(jz hl[vC h] Je Jn Jn hl,Sc h0[Cs B p a][by show wL List.head? h;rwa [Ql] at this] h1[Cs B[p+1] n][by
  show wL[λ l=>l[1]?] h
  rwa [L6] at this],E3[by omega][by omega][Yy h0][Yy h1])
def xcy (F:Ο "_law_due" xoA x1G):eg x1G spDue:=by
 show(D1 xzg[λ QE A outer st H vs Q E hr h=>?_],Fw x L ds rfl hx hk hd k,χ hu hr.units[Gy[DS 1 xzg.nd rE[DP 2 xzg.nd ag[zd[HX[xpx hu][cx[zM xM2[oR x5K]]] x5M][Gn 3 xzg.nd[xS[oR x5K]][aB[fP τ[cx[XM 2[aa[xAv xM2][aa[xS[V8 xM2]][sf 3]]]]]]][eI 2 xzg.nd[Gi Ζ AZ]]]] τ]]],(hk:Bk[jj xB0] 0 ds)=hk,Cz xB0 B[Wl[ka Z9 l0 n0 AA]],xPW AA,HV g[Cm[Idu H x B ds] (_,0,0,l0,none,rfl,B1,rfl,hk,sV [] ad[nofun],am n0,n0)])
 clear hk;rintro n σ H2 ⟨i,m,l,v3,rfl,hi,rfl,hb,hT,s2,nl⟩;obtain⟨a,n,r,eB,cs⟩:∃a n r,xUu=a::n::r/\((i=ds.length/\a=0/\n=0)\/(Vt/\PC ((a,n))/\Bk[B.drop[xES[i+1]]][m+(a%64+1)][ds.drop[i+1]])):=by
  generalize eL:xUu=L' at hb;generalize eD:xUp=D' at hb;cases hb with
  |tl=>exact sP 0 0 _[xQL[xT6[ygt eD]] rfl]
  | @bl a n _ r z ds' _ h1 _ _ hr hb=>
   show(A3 ei[PC ((a,n))][xML Ql eD] ed[ds.drop[i+1]=ds'][xML List.tail_drop eD][sP a n _[.inr[Cm h1 ei]]],[ed,xt7 ei,-KS,eL,-IU,NQ[XV IQ hr xQd]],hb)
 show(Zl p1 p2 ea en[xwP eB] rx[∀{H':Hp} {σ:St},xEz H2->Cs σ 0 RH->Cs σ 2 xN3->Pv[xRC gF xHA] σ H' xP4/\Pv[xRC gF[xN7[i+j] xHA xOK]] σ H' F6][λ {H' σ} s z0 z2=>(ea▸ .ix z0[FV[ES hx]][.var z2] p1,en▸ .ix z0[FV[ES hx]][xSh[.var z2]] p2)],sL r1 r2[rx (σ:=[RH,qB,xN3,v3]) (K'.refl H2) rfl rfl][xsM[pM r1 r2] λ t1 n1=>xsM[pM .c .c][UF t2 n2]],Tl s3[Zj [xP4,F6] n1] s4[Zj [zH,zH] n2],χ s24 xFi (t1,t2,[xOz,BU],[0,0],rfl,rfl,QV.of[X4 ad],x3u,rfl,_,rfl,?_));rcases cs with⟨rfl,rfl,rfl⟩|⟨h1,ei,RJ⟩
 ·exact bp[g _ _[BV[ZF nl[s2.trans s24] ya7]]]
 show((hi':x4B i)=UJ ei,Γ[Kh[SZ[by show(xOa[Ms (Ms z).2],BM[mh DU UI xHE[aM h1[pU this]]])]]][bZ ycL],CF);generalize Hf[GJ t1 [xP4,F6]] t2 [zH,zH]=H4 at*;show((r1,r2)=rx (σ:=[RH,qB,xN3,v3]) s24 rfl rfl,vI[xxZ[Pv.add (n:=5) r2 .c] AA],(r1,_)=rx (σ:=[RH,qB,xN3,Α[n+5]]) s24 rfl rfl,(us,hu',YS,_)=ya7,ZT g[xCI[xq hu'][xsM (vs:=xPN ds i) (LT[xtL ei][xFY Τ[.div (n:=64) r1 .c][pM[xSh[x30 64 r1 .c]] Τ]])[UF t5 n5]]],o6 s5[Zj[xPN ds i] n5] us hu5 YS hT5[((ya7).same s5).push (t:=t5) ad],Hx l _ _ rfl hu5[bW[by show(mY YS,ED [_,_] Ω xAS Bc hd hi)]] AA,CF,xxZ xWw (_,?_,i+1,_,l,Α[n+5],rfl,hi',?_,RJ,hT5,λ c o e=>xNI nl[Bn[s24 _ _[ES e]]],nl))
 ·show yc [_,_,_,_] xWq xWi W1[VD [_,_] Β Β hi']
 ·show Ar[xt7 ei]
abbrev xuV:QC:=top 137
abbrev xog:QC:=top 140
inductive rIsiK (K:Frag) (xs:Sy) (H:Hp) (Q:VK):Prop
 |mk (x:V) (c:String) (t:Qr) (b:Bool) (h0:xs=[x,.ty c]) (h1:RN x t) (h2:SS[WV t c]) (h3:xJz):rIsiK K xs H Q
def xg3 {X:Cx}{K:Frag}(hK:X.K=K):x1i X[rIsiK K]:=by
 subst hK;intro QD s σ H xs us Q I r h;show(Fw x c t b h0 h1 h2 h3,xyz QD s σ H xs us Q I r (x,c,t,b,h0,h1,h2,h3))
inductive spIsN (vs:Sy) (H:Hp) (Q:VK) (QL:XK):Prop
 |mk (n:Nat) (h0:vs=[F6]) (h1:xCk):spIsN vs H Q QL
def xdQ:XL xKO xKO xuV:=Tm
def xdz (F:Ο "_law_is_number" xuV xKO)(X:yh):eg xKO spIsN:=by
 show(D1 xdQ[λ QE A outer st H vs Q E hr h=>?_],Dq n rfl k h[xFI[kP[xVL xyz Kc[D3 "int" X.int M0]][xvD[xVL xyz Kc[D3 "bool" X.bool OB]]]]],(_,rfl,_,_,_,_,rfl,xNa,xvE K,_,rfl,bZ (_,rfl,_,_,_,_,rfl,xNa,xvM K,_,rfl,k)))
structure xuJ (ds:B4)(n:Nat):Prop where
 len:ybe
 at_:∀(i a m:Nat),PC ((a,m))->ZO/\m≤a%64+1/\(x4B[i+1]->a%64+1=64)
 sum:(xMB d[xQD%64+1]).sum=n
inductive spGood (vs:Sy) (H:Hp) (Q:VK) (QL:XK):Prop
 |mk (t x:Qq) (T:LE) (ds:B4) (h0:vs=[Z1,E4]) (h1:Sk H t ds ds.length) (h2:uQ=Hj) (h3:xuJ ds T.length) (h4:xN9 x5):spGood vs H Q QL
def xsA:XL ["_law_told","_law_text_here","_law_one","_law_counts"] x09 xog:=Tm
def ndO:HJ ya8:=Z8
def ndP:HJ yjx:=Z8
def ndC:HJ yiD:=Z8
def xnk {α}(n:Nat)(x:α):xJi[λ _=>x]=xv1 x:=by
 rw [Pg,LA]
def xbb (F:Ο "_law_good" xog x09)(In:Gg "_law_is_number" xuV xKO fi fdi)(X:yh)(tu:ycz)(al:V4 "all"):vn x09 spGood:=by
 show(GI=xdz (P:=P) (w:=w) (base:=base) In X,D1 xsA[λ QE A outer st H vs Q E hr h=>?_],(t,x,T,ds,rfl,(ts,ht,Ss,Tu),hx,hG,k)=h,Tl hu hr.units hn xzY,Xo QW F9[jY[zo[xW[xVL xyz Kc[D3 "list" X.list Kn]]][xW[yiL[xnH hn] al[BO[xt4 (N:=ya8) (g:=IF) rfl rfl Z8 Z8 Z8 x6g[λ fp s H=>VG ndO][λ fp s H=>kP[xVL[xg3 (K:=K) rfl] Kc[D3 "tuple" tu On]][oS xza[Ez[xhR (K:=K) rfl] X.len OM gP] ag]]]]]]] cu[ac[xf Η 2 xsA.nd[xY3[PW.pt[xyp[xW[yiL[xnH hn] al[BO[xt4 (N:=yjx) (g:=IF) rfl rfl Z8 Z8 Z8[xsX Ζ][λ fp s H=>VG ndP][λ fp s H=>yU GI In 0]]]]][xyp[xlP[xaq iP iP ag[zU Ζ] ag]][xrm[qO[zU Ζ][xS[zU Ζ]]]]]]]]]
   (yj[xbl (i:=3) (N:=ya8) (g:=IF) xsA.nd rfl[Or.inl rfl] rfl rfl Z8 Z8 Z8 x6g[λ fp s H=>VG ndO][λ fp s H=>xKm[xq3 (K:=K) rfl] Η] Z7][kP[oS xza[yiM[xm7 hn] X.sum[sf 3]][lX τ]][oS xVZ[xtT (N:=yiD) (g:=IF) rfl rfl Z8 Z8 Z8[xxC[kU AZ xBH]][λ fp s H=>VG ndC][λ fp s H=>FW xwO Η][λ fp s H=>Η]] rE]])]],Sc htr[∀i,x4B i->∃y a m,(E8)[i]?=π y/\PC ((a,m))/\Zt y [xCc,vN[a/64],vN[a%64+1],vN[m+5]]][λ i hi=>by
  show Y7[IW[show x4D i by show LT Ss hi]];obtain⟨a,m,ed⟩:∃a m,PC ((a,m)):=CS _ xW4;show pY (_,a,m,Ai Jw e,ed,?_)[Tu i _ e]
  rwa [xtL ed] at this] hlen[BD E8 ds.length][mY Ss],x4O Xu hG.len E8 xs,uU ofx[∀{i x},ue->∃y a m,x=.ref y/\PC ((a,m))/\Zt y [xCc,vN[a/64],vN[a%64+1],vN[m+5]]][λ {i x} e=>by
  show((y,a,m,e1,e2,e3)=htr i[Bg hlen[UJ e]],lG e1 (y,a,m,JA e1,e2,e3))] (_,rfl,_,_,_,_,rfl,.lst ht,pc K,_,rfl,bp[m9 t ht[xs2 (cs:=[]) (ydP ht)[λ _=>x5][xZu Xu][λ i x H1 Q e s k=>?_] λ l1 H1 _ s1 h1=>?_]]))
 ·show((y,a,m,rfl,_,e3)=ofx e,aH e3[FV e3] (_,rfl,_,_,_,_,rfl,.tup e3,xcN K,_,rfl,bZ[VM y _[.inr xMc] rfl[Ey Zi]]))
 show(xXs xnk,(l1,_,rfl,QK.of h1,_,rfl,xWY));clear g h1;show HV g[m9 t[IL ht][xxu (xs:=xs) (D:=Ws) (λ i σ H2=>∃v,σ=[xQE,RH,v,none]/\yi)[Ef none s1] ?_ ?_ ?_]]
 ·rintro i σ H2 _ ⟨v,rfl,s2⟩;show rW[ES ht]
 ·rintro i y' σ H2 e ⟨v,rfl,s2⟩;show(xXm y a m ed e3[ofx e],(g1,g2,_)=hG.at_ i a m ed,χ e3[ES e3][y3 y[EX xMc][xs2 (cs:=[]) (.tu[QV.up e3])[λ _=>x5][HA[IK 4]][λ j z H3 Q ez s k=>?_] λ l3 H3 _ s3 h3=>?_]])
  ·show(vk n n[z=F6][by
    have:=J7 ez;show x1b Jv NA this;rcases this with rfl|rfl|rfl|rfl<;>exact CQ],xNi n[Ey Zi])
  rw [xnk] at h3;show(χ e3[Ge e3] (l3,_,rfl,QK.of h3,_,rfl,AI),Sc h1[Ty[FO FX[ST[a/64]]]][IZ Wk] h2[Ty[FO[ST[a/64]] 3]][IZ[kX[zQ 64 [_,_][gK xKS][EL 256] DH g1 DB]]],SC h3[AG[HY[qU[a%64]+5][ST[m+5]]]][Kh[by omega]] (_,rfl,y,_,_,_,rfl,rfl,xMc,xp,_,_,rfl,rfl,_,rfl,?_))
  try dsimp only
  show Γ h1[bZ[Aa _ _ rfl _ rfl ?_]]
  try dsimp only
  show Γ h2[bp (_,rfl,y,_,_,_,rfl,rfl,xMc,x0c 3,_,rfl,y,_,_,_,rfl,rfl,xMc,xQN,_,_,rfl,rfl,_,_,rfl,rfl,_,rfl,?_)]
  try dsimp only
  show LT h3[gM AE]
 ·show(xF7 σ H2 v s2,AA,CF,ZT g[m9 t[ES ht][xs2 (cs:=[]) (.li[λ H' s=>QK.of[FV[ES ht]]])[λ i=>vN[xXw ((0,0))%64+1]][xZu Xu][λ i z H3 Q e s k=>?_] λ l3 H3 _ s3 h3=>AA]])
  ·show(xXm y a m ed e3[ofx e],Tl e3[FV[ES e3]] k[Ey[K'.refl H3]],aG Jm ed k (_,rfl,y,_,_,_,rfl,rfl,xMc,xQN,k))
  show(CF,(eC:ykw[λ i=>vN[xXw ((0,0))%64+1]]=A5[xMB d[xQD%64+1]])=by
   show(rK hlen K1[K6[Hy i]],[Jw,Jw],iq i ds.length q q)
   ·rw [Mp q,IW q];show TD[Α[xXw ((0,0))%64+1]] _;show Yy[IW q]
   ·show Ai[J6 q][J6[vM LA]],xU eC h3 hC[∀i c,zy[Ew[xMB d[xQD%64+1]] (xMB d[xQD%64+1]).length 1]->c=64][λ i c e=>by
   show Ua L5 e;by_cases hi:i<ds.length-1
   ·rw [Ju hi,Jw] at e;show(((a,m),ed,rfl)=xSO e,EU[hG.at_ i a m ed][Bj [_,_,_][tG xi] DG PL SL hi[NL.J'[CM [_,_,_] xV4 DG AM SL hi fj]]])
   ·show yb[Jk hi]],xGb hS hG.sum hCl[EI[xMB d[xQD%64+1]] 1000][Gk Xu][xMB d[xQD%64+1]] C,(es:∀C:LE,A6 (C.map λ b:Nat=>wd).sum=ST C.sum)=λ C=>by
   induction C with
   |nil=>rfl
   |cons x C ih=>show kh KH MZ ih MZ,χ s23 AE[zE _ rfl l3[C.map xGu][xGz iA h3] ?_],rK es hS[Pv.go[Pv.len rfl[s23 _ _ hx]] Ej],[gU],ω[BV Zy][Ls.uptoE (k:=1) (Ls.var rfl h3) xMd[by decide] _ Zi _ λ l4 H4 s4 h4=>xDu l4 h4[xue (cs:=[]) (ydP h4) ybl[λ _=>.non][by show(mY Jc,ED [_,_] Ω xAS Dm hCl Fb)][λ i z H5 Q e s k=>?_][λ _ _ _ _ _ z=>nomatch z] λ l5 H5 _ s5 h5=>?_]])
  ·show(kH e,Dr c ec[xSO e],xw9[hC i c ec],tT k)
  show Ε[ygn[λ _ _=>by decide]] h5[ka Z9 l6 n6[u7 l5 l6 [] [][QK.of[am n6 _ _ h5]] xFQ[Ey[yhM[s5.trans[am n6]]]]]]
universe K27.Ck
namespace L2
open PySem PySem.Spec PyProof.Rows QQ
theorem xoa (k:Bool):∀{ns:Au} {us:Cb},pT xTA->us.countP[eqU wD]=ycv
 | [],_,.nil=>rfl
 |n::ns,_,.cons r t=>by
  show(iY,[List.countP_cons,xoa k t,NI]);cases n<;>cases k<;>rfl
inductive xsI (x:V) (vs:Sy) (H:Hp) (Q:VK):Prop
 |mk (l:Qq) (ns:Au) (k:Bool) (h0:x=Ct) (h1:vs=[wD]) (h2:pV=Az xTA) (h3:XD[ST ycv]):xsI x vs H Q
def xim:xXO "list.count" xsI:=by
 intro QD s σ H x vs v us Q I rx rv h;show(XT l ns k rfl rfl hH q,Z2,lE u ru rv);cases ru;show(bU z its n r hl e hH,eN hf[Ty[(xTA).all flatV]][by simp [flatV]] g[SeqAt.list_countAt l its.toArray n none #[] x3b[eqU wD]],ω[xRE F.slot_list_count F.entry_list_count[F.args_list_count_2 Ct x3b] g[Cm e[IB[xr5 (x:=wD) rfl rfl r hf y xFl]]]][uE[ST ycv][FQ s.toks] q],[CA its.toArray.toList its,xoa k r])
inductive xsa (x:V) (vs:Sy) (H:Hp) (Q:VK):Prop
 |mk (l:Qq) (ns:Au) (k:Bool) (j:Nat) (h0:x=Ct) (h1:vs=[wD]) (h2:pV=Az xTA) (h3:u9 ns k) (h4:∀i<j,jT ns[i]? k) (h5:XD xPP):xsa x vs H Q
def xhZ:xXO "list.index" xsa:=by
 intro QD s σ H x vs v us Q I rx rv h;show((l,ns,k,j,rfl,rfl,hH,hj,hno,q)=h,Z2,lE u ru rv);cases ru;show bU z its n r hl e hH;rw [IS] at hl z;show(Sc hjl[xAO j][ZZ hj] hjs[xPP<2^63-1][by
  have hsl:sizeLine≤16777216:=Z9;omega],Sc key[∀i (hi:i<its.length),its[(i)]=.bool[ns[i]' Z4]][λ i hi=>by
  show((k1:xAO i)=Z4,(u1,e1,r1)=r.get (i:=i) (x:=.bl ns[(i)]) (by simp [k1]),xYf,xEX z e1,xIJ)] hf[Ty[(xTA).all flatV]][by simp [flatV]],(ejv:ns[(j)]=k)=Ε[IW hjl] hj[JA hj],χ g[SeqAt.list_indexAt l its.toArray n none #[] x3b[eqU wD] j[xMm Jj] hjs[by
   show(υ e1[key j Z4] e2[its.toArray[j]'(xMm Jj)=its[j]' Z4] Z6,[e2,e1,ejv]);cases k<;>rfl][λ m hm hmj=>by
   show(υ e1[key m Z4] e2[xT2 m=its[m]' Z4] Z6,xPz e1,υ h1[hno m hmj] hm'[xAO m] Z4,xU[IW hm'] h1 h2[ns[(m)]≠k][SZ[h1 xQe]])
   revert h2
   generalize ns[(m)]=b;intro h2;cases b<;>cases k<;>first|rfl|show xIB h2]][xRE F.slot_list_index F.entry_list_index[F.args_list_index_2 Ct x3b] g[Cm e[IB[xr5 (x:=wD) rfl rfl r hf y xFl]]]],uE xPP CQ q)
inductive rEqE (K:Frag) (x y:V) (H:Hp) (Q:VK):Prop
 |mk (p q:Qq) (xs:Sy) (h0:x=FR) (h1:y=ig) (h2:vB p xs) (h3:vB q []) (h4:wo xs.isEmpty):rEqE K x y H Q
def FS {X:Cx}(hu:xO3):x7d[rEqE X.K]:=by
 intro QD s σ H x y v u Q I rx ry h;show(Fw p q xs rfl rfl h1 h2 k,xHi,kW rv pl h1,(Rm,YN,X9,Vc)=x2N,Tl l1 rv.length l2 YN.length);cases xs with
 |nil=>
  refine yiq RB pl.isList X9.isList[by rw [Jj,Jj,<-l1,<-l2]][by omega][λ j h1 _=>?_] _ _ _ _[yk x5 I ?_ k]
  ·rw [Jj,<-l1] at h1;show E9 h1[NM _]
  ·show xAh=xAh;simp
 |cons x xs=>
  show(SeqAt.RcAt.lists_lengths pl.isList X9.isList ?_[by omega] _ _ _ _[Xw XS I k],[Jj,Jj,-l1,-l2]);simp
def xp1 {X:Cx}{o e:QA}{es:EB}{to:TE}{t:TA}{name:Str}{apos SN:Pos}{T id:String}{r:V->Rz}(K:Frag)(hK:X.K=K)(pa:yaZ)(slot:Slot T name id)(hty:ydv=yfd)(hm:xXO id r)(ho:xDy to)(ha:wO)
  (TN:AJ[xS9 o name jn=jn])
  (hfew:xYY[(backTo SN[xG xw]).all[λ x=> ! ke]&&(ybt SN).all[λ x=>(ke).isSome]
   &&HY[iT xw ([]:xTC).length+EM ([]:xTC).isEmpty 0 1] 30])
  (Xs:xYY ybV) (hs:AJ[ml=yg::mz]) (Tp:yfG):
  AN[xUd o name xw SN][tBM K T r to t]:=DN hK[xrp pa slot hty hm ho ha TN hfew Xs hs Tp]
universe L2
namespace K27.Ck
open PySem L2 QQ W17 W16 BP
seal PE PA PS PSs PT PW PG PI
abbrev xuY:QC:=top 141
def InH (H:Hp)(a C:Qq):Prop:=∃vx,lD[XI[exO C4 vx] a]
structure Exc1 (K:Frag)(mg:Ι)(cP c:Qq):Prop where
 x:yM c
 n:FL cP
 s:iG[xBh c[.ref cP]]
structure Ers (K:Frag)(mg:Ι)(cP:Qq)(cs:AH):Prop where
 verr:yif
 mP:yie=π cP
 xP:yM cP
 len:cs.length=8
 m:xP3 i x Str c Qq[zv (["BadMark","BadHead","BadCheck","BadBody","BadTail","Behind","Cut","BadRow"]:CI)->x7W->nO=π c]
 k:tK i Nat c Qq x7W[Exc1 K mg cP c/\oC c/\iG[x0a K rX "ValueError"]/\tK j Nat d Qq[u9 cs d][TD[xSV rX Ed][CG j i]]]
inductive rIsE (K:Frag) (xs:Sy) (H:Hp) (Q:VK):Prop
 |mk (a C:Qq) (vs:Hb) (c:Qr) (b:Bool) (h0:xs=zR[xiZ c]) (h1:∃n,c=.ref n\/X6[c=yeA]) (h2:lD[XI iF a]) (h3:oC C) (h4:SS[xSV C4 c]) (h5:xJz):xVs xs H Q
def xno {X:Cx}{K:Frag}(hK:X.K=K):x1i X xVs:=by
 subst hK;intro QD s σ H xs us Q I r h;show((a,C,vs,c,b,h0,h1,h2,h3,h4,h5)=h,xhw QD s σ H xs us Q I r (a,C,vs,c,b,h0,h1,h2,h3,h4,h5))
def xuR (K:Frag):AH->TA
 | []=>df
 |x::r=>xxv[tCB xVs[yJ xHA[tC E4]]][xuR K r]
def xfX {X:Cx}{x:Str}{c:Qq}{p2 p3 p4 p5:Pos}(hK:X.K=K)(hi:xLz "isinstance")(hm:yF=π c)(hN:AJ[Cs X.N 2[Ig "e"]])(hv:autoParam[x05 "e"] xlz)
  (hg1:AJ[xFp "isinstance"]) (hg2:AJ uj) (hd:t8)
  (hs1:AJ[xG [ydi p3,xXp]=sH[ydi p3]::xG [xXp]]) (TJ:AJ[xG [xXp]=sH xXp::xG []])
  (Rv:AJ ((backTo p5[starEach [.Name x p4] X.env]).any (·.1)=false)):
  AN[xSB "isinstance" p2 [ydi p3,xXp] [] p5][tCB xVs[yJ xHA[tC rX]]]:=xrx[xno hK] hg1 hi Kc[aa[xoy hN hv][BO[xtp (v:=rX) hg2 hm rfl hd] TJ] hs1] Z9 Z9 hs1 Rv
theorem xvP {σ:St}(ci:oC C)(h0:Cs σ 2 BL):∀(l:AH) (bs:Au) {H:Hp} {Q:xHo},x6D bs.length->(∀(j:Nat) d b,u9 l d->u9 bs b->SS[xSV C4 Ed])->InH H a C->Fc x1w->xuR K l σ H Q
 | [],[],H,Q,_,_,_,k=>k
 |x::l,b::bs,H,Q,e,r,(vx,z),k=>(_,h0,a,C,vx,E4,_,rfl,(x,bK),z,ci,r 0 x b rfl rfl,xvP ci h0 l bs[Nat.succ.inj e][λ j d b h1 h2=>r[j+1] d b h1 h2] (vx,z) k)
def InH.up (h:InH H a C)(s:Χ):InH H' a C:=aw vx h h vx[FV h]
def bs8 (i:Nat):Au:=xEy 8[λ j=>CG j i]
def lt8 {p:gh}(h0:p 0)(h1:p 1)(h2:p 2)(h3:p 3)(h4:p 4)(h5:p 5)(h6:p 6)(h7:p 7){m:Nat}(h:m<8):p m:=by
 rcases m with _|_|_|_|_|_|_|_|m
 all_goals first|assumption|show rB[xwB[xwB xG4]] Dv h
inductive spWord (K:Frag) (cM cH cK cB cT cL:Qq) (vs:Sy) (H:Hp) (Q:VK) (QL:XK):Prop
 |row (x:V) (h0:vs=[x,ie]) (h1:pX[xVr H' x]) (h2:xBN 7)
 |bad (a:Qq) (L:LE) (w i:Nat) (h0:vs=zR[vN w]) (h2:Υ=xO) (h3:xJw) (h4:xMC) (h5:jN L i) (h6:xBN i)
def xp4 (K:Frag)(c0 c1 c2 c3 c4 c5 c6 c7:Qq):TS:=xwc[xxS[nP[xuR K [c0,c1,c2,c3]]][bO 3]][xwc[xxS[tOp rCat[Q5 3][nP[xuR K [c4,c5,c6,c7]]]][bO 3]][xwc[xo4[xjI[jd[ye6[tBM K "list" xsI[Q5 3][ER[tC x5]]] xOK]][xvi[tCB xVs[yJ xHA[tC[.ty "ValueError"]]]]]][xzy[tBM K "list" xsa[Q5 3][ER[tC x5]]]] xjb][xzy[vz 9]]]]
def xaf {cP:Qq}{c0 c1 c2 c3 c4 c5 c6 c7:Qq}{D:Ends}(Er:xZj cP [c0,c1,c2,c3,c4,c5,c6,c7])(hi: zy [c0,c1,c2,c3,c4,c5,c6,c7])(hE:InH H e c)(k:pX[D.rt WU H']):xp4 K c0 c1 c2 c3 c4 c5 c6 c7 D [v0,v1,π e,none] H:=by
 show((_,ci,hv,kk)=Er.k i c hi,(h8:i<8)=UJ hi);obtain⟨q1,q2,q3⟩:(Vj).count true=1/\AD[Vj] true/\∀j<i,jT (Vj)[j]? true:=lt8 (p:=λ i=>(Vj).count true=1/\AD[Vj] true/\∀j<i,jT (Vj)[j]? true) (by decide)[by decide][by decide][by decide][by decide][by decide][by decide][by decide] h8;show(Sc hb8[∀(j:Nat) d b,u9 [c0,c1,c2,c3,c4,c5,c6,c7] d->u9[Vj] b->SS[xSV rX Ed]][λ j d b h1 h2=>by
  rw [kk j d h1,<-h2];have:j<8:=UJ h1;unfold bs8;show Ai Jw[Mp this]] hl[BD Vj 8] rfl,Cz Vj bs[xvP ci rfl _[bs.take 4][Ai Jc hl][λ j d b h1 h2=>?_] hE[nU[by show EP Jc hl;decide] b hb]])
 ·show((h4:j<4)=UJ h1,aG L5[Ju h4] h2[hb8 j d b[(JP (l₁:=[c0,c1,c2,c3]) (l₂:=[c4,c5,c6,c7]) h4).trans h1] h2])
 show(fw s1 x6h hb h1[kS H b x6h b=Az x6h],uf[oX b x6h][BV[xvP ci rfl _ yb3[Ai Je hl][λ j d b h1 h2=>?_][hE.up s1][nU[by show EP Je hl;decide] b2 Tf]]])
 ·show Ε L6 h2[hb8[4+j] d b[(Jz (l₁:=[c0,c1,c2,c3]) (l₂:=[c4,c5,c6,c7]) (JD 4 j)).trans[XV[CA [c0,c1,c2,c3].length 4] Kv h1]] h2]
 show(χ s2[Dn[x9S yb3] Tf] (b,b2,_,_,rfl,rfl,xNq,ad,by rw [IS,IS,Jc,Je,hl];decide,UF b3 hb3),xXb Ji,s3=s1.trans[s2.trans[Dn x1w hb3]],(vx,hE3)=hE.up s3,SC h3[kS[Fj H1 b2[x9S yb3]] b3 x1w b3=Az x1w] ad (_,rfl,xq h3,b3,bs,true,rfl,rfl,h3,?_),LT q1[aT _[bZ (_,rfl,e,c,vx,yg8,true,rfl,(0,.inr CQ),hE3,ci,hv,_,rfl,bZ (_,rfl,xq h3,b3,bs,true,i,rfl,rfl,h3,q2,q3,Ey s3))]])
def xtt:XL[x7E "_law_way" "e" "_law_some"] x1e xuY:=Tm
def xpM {cP:Qq}(F:Ο "_law_word" xuY x1e)(Z:vR)(O:Sw)(Y:Lok K mg cB cN cL cC cR)(Er:xZj cP [cM,cH,cK,cB,cT,cL,cC,cR]):Cc 46 x1e[spWord K cM cH cK cB cT cL]:=by
 show(jf Z.pr.H.N.X,C6 Lo Y.lk Op Y.op,Tl GL[ww (P:=P) (w:=w) (base:=base) Lo Z O Y] GO[xmE (P:=P) (w:=w) (base:=base) Op Z O Y.bd Y.mB Y.xB Y.mC Y.xC],rN[F.F.ok xtt[λ QE A outer st H vs Q E hr h=>?_][by intro _ _ _ _ h;cases h<;>subst_vars<;>rfl]] _,xDe hr44 44,χ M Er.m[Gy[yj[xbX (i:=2) xtt.nd rfl rfl Z7 Er.mP Er.xP rfl rfl rfl
   (λ pn σ0 E=>vm[CE τ][rD[xmS GL hr Z7 Lo.m Lo.F.kp Lo.b .nil[xoX rfl] gP]][rD[xmS GO hr44 Z7 Op.m Op.F.kp Op.b .nil[xoX rfl] gP]])
   (λ e G=>DS 3 xtt.nd[aK[aa[xDL[M 0 _ _ rfl rfl]][xJ5[xDL[M 1 _ _ rfl rfl]][xDL[M 2 _ _ rfl rfl]][xDL[M 3 _ _ rfl rfl]]]]][DP 3 xtt.nd[jH AZ[aa[xDL[M 4 _ _ rfl rfl]][xJ5[xDL[M 5 _ _ rfl rfl]][xDL[M 6 _ _ rfl rfl]][xDL[M 7 _ _ rfl rfl]]]]][rh[xP7[CE[xp1 K rfl JV PySem.F.slot_list_count PySem.F.type_list_count xim AZ[BO cu]]][xru[xVL[xno (K:=K) rfl] Kc[nj 2[xlL (v:=.ty "ValueError") Z7 Er.verr PyProof.Rows.Boot.«ValueError» rfl]]]]][xp1 K rfl JV PySem.F.slot_list_index PySem.F.type_list_index xhZ AZ[BO cu]]] ag])] ag]],Sc inner[∀{c i},zy [cM,cH,cK,cB,cT,cL]->zy [cM,cH,cK,cB,cT,cL,cC,cR]][λ {c i} h=>(JP (l₁:=[cM,cH,cK,cB,cT,cL]) (l₂:=[cC,cR]) (UJ h)).trans h] hand[∀{c i} {H1:Hp},zy [cM,cH,cK,cB,cT,cL,cC,cR]->qa->(xBN i)->∀v0 v1 e vx,UQ e->xp4 K cM cH cK cB cT cL cC cR (si,Q,si,si) [v0,v1,π e,none][jZ H1 e[exO rX vx] e]][λ hi s k v0 v1 e vx he=>xaf Er hi (vx,ad) λ H' s'=>k H'[yke[am he] s']])
 cases h with
 |row x h0 hN k=>
  show(xNW,ycq[Er.k 7 cR rfl],HU[xNL[aT _[.row x rfl[hN H xZ][mO cR e1.x e1.n e1.s[Μ e vx he]]]]][hand (i:=7) rfl xZ k _ _ e vx he])
 |bad a L w i h0 ha hb hl hB k=>
  show(xNW,aD c hi hW c[zy [cM,cH,cK,cB,cT,cL,cC,cR]/\xjk cM cH cK cB cT cL cC L c][by
   rcases hB with⟨c,hi,h⟩|⟨rfl,S,W,h⟩
   ·show Dj c[inner hi] x4b
   ·show Dj cC rfl[ja rfl S W h]],ycq[Er.k i c hi],tT[xA7[aT _[.bad a L c rfl ha hb hl hW λ H1 s1=>mO c e1.x e1.n e1.s[Μ e vx he]]] aX])
  ·exact ye7 s1 k _ _ e vx he
  ·rcases hW with hW|⟨rfl,S,W,hW⟩
   ·show((rfl,_,rfl,a,L,_,rfl,ha,hb,hl,hW,nofun,nofun,λ c' z H1 s1=>?_),CR z[mO c e1.x e1.n e1.s[λ e vx he=>ye7 s1 k _ _ e vx he]])
   ·exact(rfl,_,rfl,a,L,_,rfl,ha,hb,hl,hW,nofun,λ _ _ _ H1 s1=>mO c e1.x e1.n e1.s[λ e vx he=>ye7 s1 k _ _ e vx he],nofun)
abbrev xop:QC:=top 142
abbrev xvG:QC:=top 143
abbrev xyL:QC:=top 145
abbrev xt0:QC:=top 146
inductive xsB (vs:Sy) (H:Hp) (Q:VK) (QL:XK):Prop
 |mk (a:Qq) (A:LE) (j b:Nat) (h0:vs=[AO,vN j,qR]) (h1:Υ=xH7) (h2:xGq j) (h3:x3i 1900) (h4:b<8) (h5:xI6[B0=BA[uy A j]->B8]):xsB vs H Q QL
def xc8:XL xTK xTK xop:=Tm
def xaP (F:Ο "_law_bent" xop xTK):eg xTK xsB:=by
 show(D1 xc8[λ QE A outer st H vs Q E hr h=>?_],(a,A,j,b,rfl,ha,hj,hl,hb,k)=h,xb[rY[jH[kU Η τ][BO[ao xsN[oR τ][xYN Ζ]]]][qd Η[xS τ]]][xPC[A.take j++[xIt^^^2^b]++A.drop[j+1]][aN[aN[xL9 ha Τ][.one[.xor[.ix rfl ha Τ hj][.shl Τ hb]]]][xVj ha[xSh Τ]]][λ l H' s h=>Wb H' s ?_]])
 ·show(EF Jc[Zg[_+1]],yE [_,_] Ω ydU Bc hl Fb)
 ·show(mE Jc Je,tX[_+1+_],DE [_,_,_,_][BE[Ρ yp]][BZ 1900 Fs] gc Bc hl G8[rA [_,_] SB SB hj])
 ·show(x3K,kh List.set_eq_take_append_cons_drop xXM h IU)
inductive xsE (vs:Sy) (H:Hp) (Q:VK) (QL:XK):Prop
 |mk (n:Nat) (h0:vs=[F6]) (h1:xI6[B0=BA x7B->B8]):xsE vs H Q QL
def xdo:XL xE4 xE4 xyL:=Tm
def xpl (F:Ο "_law_two" xyL xE4):eg xE4 xsE:=by
 show(D1 xdo[λ QE A outer st H vs Q E hr h=>?_],Dq n rfl k h[xFI[aK[zM[xAv Η][V8 Η]]]],xPC x7B[x1a[.div (n:=256) Τ .c][x30 256 Τ .c][xP0 2]] k)
def ixN_nat {n j:Nat}(h:j<n):TD[ixN n xIx] j:=Up ixN[Ju[Kp j]][ydI h] JH
theorem Ls.chk {A:LE}(h:xDG)(hA:xJl):fq[xR6 xsE[ER[xxo xuD [.int 16] E0[ER t]]]][gu A]:=λ H1 s Q k=>bP λ l H2 s2 h2=>Q6 l 16 45 A wp16 h2 hA[λ H3 s3=>BV[λ m H4 s4 h4=>k m H4[s2.trans xFi] h4]]
inductive xsl (vs:Sy) (H:Hp) (Q:VK) (QL:XK):Prop
 |mk (a:Qq) (F T:LE) (c:Nat) (h0:vs=zR Vz) (h1:Υ=BA[GF[F++Gd]]) (h2:F.length≤1300) (hb:D4) (h3:∀l r H',Χ->B0=BA[GF[F++(Tz)]]->k8 8->Tz≠Gd->X1 r->B8):xsl vs H Q QL
def xsj:XL[x7E "_law_cell" "_law_tail" "_law_at"] xTj xt0:=Tm
def xit (F:Ο "_law_sealed" xt0 xTj)(Tw:yjG xyL xE4 ft fdt)(Y:xRR)(X:yh):Cc 7 xTj xsl:=by
 show(x7I Co FC Co.F,(t16,B16)=Co.d,GW=xpl (P:=P) (w:=w) (base:=base) Tw,D1 xsj[λ QE A outer st H vs Q E hr h=>?_],(a,F,T,c,rfl,ha,hF,hb,k)=h,Xo QW F9[DS 2 xsj.nd[xPr[BO[xDd Η xBH xBH]]][DP 3 xsj.nd[V9[aK[zO[zO[zO[zO bq]]]]][V8 τ]][xyU[V8[Gi[xS[V9 Ζ AZ]][xBf τ]]][o0 Ζ AZ xtG]][rY[xY4 xBH Ζ][Br GW Tw[BO[xxw xXW hr Z7 Co.m Co.kp B16[xMf (a:=x3v) CQ] bA AP]]]]]],Sc hl[cJ[F++Gd]=xRx+11][by rw [<-IU,IQ,IQ];rfl] e9[xzO[GF[F++Gd]][cJ[F++Gd]-11][cJ[F++Gd]-2-(cJ[F++Gd]-11)]=BF][by
  show([hl,show xRx+11-11=cJ F by show GV x79,-IU,M7,IQ],lP[List.take[xRx+11-2-(xRx)] _=_][show xRx+11-2-(xRx)=9 by show El[Dg [_,_,_][.a[xCz 2][Ρ Xg]][HQ xGZ] kO[NL.J'[Fv jr xBx]][DI [_,_] xBx xBY yv SL W1]] [_,_,_][Aw xGZ][xHq Xg[xCz 2]] kO W1 W1])],(e0:Ew[GF[F++Gd]][cJ[F++Gd]] 11=GF F)=EK hl IU[MT[GV (x79).symm]],vI[Ls.ends (k:=11) (l:=2) (Τ ha) xMd xMd[by decide][by decide] _ xZ _ λ l1 H1 s1 h1=>yW l1[BN h1][λ l2 n2=>AA]],[e9],υ s2[s1.trans[wH BF n2]] h2[(ZX H1 l2 BF) l2=BA BF] ad,nl2=xFA n2,az H1 l2[A5 BF] H2);obtain⟨j,ej,hj3,hj9⟩:∃j,iC [3,4,5,6,7,8][c%6]=j/\pQ 3/\j<9:=by
  have:c%6<6:=Im[by decide];generalize c%6=y at*;rcases y with _|_|_|_|_|_|y
  all_goals first|show BK[by decide]|show rB[xwB xG4] xN0 this
 show(vI[xjA (A:=[3,4,5,6,7,8]) (xFY .c .c[xFY .c .c[pM .c .c]])[by decide][oU c 6 Τ][Im[by decide]] λ H3 s3=>AA],[ej],DF h3 x7L hX[Dl BF][DX[x7D x gw]] hXl[BD BF 9] rfl,aD v hv ev v[By v/\v≠iC BF j/\(iC BF j+1+c/6%255)%256=v][HI[xmY hX j][ux[Im[by decide]][by omega]]],vI[Pv.go[oU[iC BF j+1+c/6%255] 256[.add[xSh[.ix rfl h3 Τ[LT hXl hj9]]][oU[c/6] 255[qb c 6]]]] (_,rfl,_,rfl,l2,_,_,j,rfl,rfl,h3,ixN_nat[zD hXl hj9],AA)],[ev.2,-List.map_set],Sc s4[gk[ZX H3 l2 xDF]][λ c o e=>xNI nl2 xIs] h4[(ZX H3 l2 xDF) l2=BA xDF] ad,az H3 l2[A5 xDF] H4,Iu hY[pp (k:=j) hX hv] e3[xDF=yK++(jj BF).set[j-3] v][Ai[CA BF[yK++jj BF]][OS _ _[show EI yK j from hj3]]][xPC[GF F++xDF++gu xDF][aN[aN[e0▸ .uptoE (k:=11) (Τ[X4 ha]) xMd][Τ h4]][.chk[Τ h4] hY]][λ l H' s h=>Wb[(jj BF).set[j-3] v++gu xDF] H'[s4.trans s] ?_ ?_ ?_ ?_]])
 ·show(iB My,tX[3+_+9],yr 1300[CN yv 9] Bc hF)
 ·show(AR IQ My,tX[3+_+9+2],yr 1300[Cy[CN yv 9]] Bc hF)
 ·rw [h,<-IU yK,<-e3];simp only [IU]
 ·show Ai IQ My
 ·show([-IU,-e3],Sf,wL[List.take 9] z,xSE[MT[by rw [My,hXl]]],xch (L:=BF) (k:=j) (LT hXl hj9)[EA[ev.1 ?_]] this,gA q Jm[IW[LT hXl hj9]])
 ·show(xEw,aQ hx)
  ·exact pp[DX[hX x xBr]] hv x z
  ·exact dR[xKW hY] x z
theorem xuu (hN:Ff)(hb:D4):∀j,j≤DJ->pl SV j=Hi
 |0,_=>rfl
 |j+1,hj=>by
  show((R,a,n,r,e,g,_)=x9b hj,Wv[u9[SV] ((a,n))][gA Jw e g.eq],[xt7 e2,xuu hN hb j x6J],x4W,[Kj,e,NH,Ld,NE,IQ,g.eq,IQ,g.hr]);show _=3+(_+(3+(n+2)));show qL[.a yv ic][BI[Ρ[BI xBY]]][BI[Ρ[BI xBY]]][.a yv ic]
theorem xiF:∀{Rs:yO} {k},k<Rs.flatten.length->∃(j q:Nat) (R:LE),Vm/\k=ygD j+q/\UE q
 |R::Rs,k,h=>by
  rw [Ky,IQ] at h;show yB k R.length
  ·show Z0 0 k R rfl (Kq k).symm z
  ·show((j,q,R',e,ek,hq)=xiF (Rs:=Rs) (k:=k-R.length) (yc [_,_,_,_][Fg Hk] x53 h[VD [_,_] SL SL z]),Z0[j+1] q R' e[by show([List.take_succ_cons,Ky,IQ],El[Dg [_,_,_,_,_] xV9[.a Fs xGU] xGX xMU W1] [_,_,_,_,_][.a Fs xGU] xV9 xGX zt[VD [_,_] SL SL z])] hq)
def xn3 (h:xDP):plc Rs i≤Hi:=by
 show(x4W,Ik d[K9 h],[Oj,Ld,IQ],BM[Iz yv[BI WF]])
def xz {n j:Nat}(b:xVA)(hj:j<n)(h1:∀i,xDP->Ty[b i])(h2:∀i,j<i->i<n->AG[b i]):xv5 n b=List.range j++[j]:=by
 show([-NN],Ik d[K9 hj],[List.range_add,JN,ygy[λ i hi=>h1 i[KC[yho hi]]],ygn[UF i hi],JM],Dr m hm[List.mem_map.1 hi]);have:=yho hm;show LT[h2 _[BM[Iz SB gc]][Ay [_,_,_] Β Uf[AS gc] xV4 this]] JF
inductive xmq (vs:Sy) (H:Hp) (Q:VK) (QL:XK):Prop
 |mk (a d:Qq) (T:LE) (Rs:yO) (k:Nat) (h0:vs=[AO,Ed,vN k]) (h1:Υ=xOF) (h2:x4C H d SV) (h3:Ff) (h4:D4) (h5:yP) (h6:k<BQ) (h7:uq i[xSe i->Χ->xFv i]):xmq vs H Q QL
def xmh:XL[x7E "_law_due_here" "_law_at" "_law_place"] x1j xvG:=Tm
def xez:HJ ["_law_one","_law_at"]:=Z8
def xjh {Q:VK}{x y:Nat}(h:E1 t iW)(k:xBN[Uc b y x]):xRC[nP[yJ[tC xDa][tC xIR]]][tCB[λ xs H Q=>CU i[xs=[Dz]/\Fc Dz]\/∃k,xs=[wD]/\XD[d7 k 0]][ER t]] σ H Q:=by
 show ω[ka ye p hp[X3 iL _[.inr[xZx b]]]][u7 p _ _[vN[Uc b y x]] xFQ ?_[Ey iL]];cases b<;>rfl
def xan (F:Ο "_law_bent_due" xvG x1j)(X:yh):vn x1j xmq:=by
 show(D1 xmh[λ QE A outer st H vs Q E hr h=>?_],(a,d,T,Rs,k,rfl,ha,hd,hN,hb,hl,hk,q)=h,D9[jY[FW xtf Ζ] ag[jY[HX xwy Ζ x59][V9 xWu[xLA xng X.int M0[BO[oS xwy Ζ x59]]]][DS 3 xmh.nd[V9[xgQ (N:=["_law_one","_law_at"]) (js:=[none,some 2]) (cl:=[(("_law_at",wW))]) (g:=IF) rfl[bQ Z8 Z8 Z7[λ x c h=>(by show zN[xys h];rfl)][DX[by show(xw9[xjP hx],CQ)]] rfl[λ i x j h1 h2=>?c1]][xxC τ][λ fp s H=>VG xez][λ fp s H=>HX iP[xKm[xq3 (K:=K) rfl] Η] τ][λ fp s H=>xKm[xq3 (K:=K) rfl] Η]] xBH][Gz[V9 xWu[xLA xng X.int M0[BO[oS xwV[y4 Ζ AZ] ag]]]]]]]])
 case c1=>show j6 xXX[bS c h h]
 show((hlen:BQ=Sg+11)=kh xwY IQ IQ gB,vI[xBp[.lt (m:=k) (n:=3) Τ .c][jl[Fa (v:=ie) .c[q 0 H[.mark h] xZ]]][λ h3=>AA]],uU ln[∀{n:Nat},n≤11->Pv[xN7[i-j][tCB[λ xs H Q=>∃p ys,xs=Cg/\(vB p ys\/w4 p ys)/\xTG H] x6l][tC F6]] [BL,zm,Α k,none] H[vN[BQ-n]]][λ hn=>.sub[.len rfl ha] .c[ED [_,_,_][m8[xK6 xWk]] x5v SL xAb hn]][xBp[.ge Τ[ln (n:=11) (by decide)]][jl[xjh (b:=FO[BQ-8] k) (x:=1) (y:=4) (.ge Τ[ln (n:=8) (by decide)])[UF H' s]]][λ Ug=>AA]])
 ·show(Ik p[K9[show Sg≤k by show DE [_,_,_,_][.a xBx xY][Aw[Ξ[ud 11]]] yv SL xAb h W1]],Y7[Ww H'[xsG.tail (T:=T) (q:=p) rfl[yE [_,_,_][Ξ[AS[m8 xWk]]][IM[xK6 xWk]] xMV vT hk]] s]);by_cases z:p≤2
  ·show(xCv[Ju z],xCX[BM[xAc[Bx [_,_,_,_][.a xGZ Fs][BE[BZ 2 xHD]][AS x5P] Re xAb z W1]]] e)
  ·show(xCv[Jk z],LT[IZ[DE [_,_,_,_][BE[.a xWn xHD]][.a xGZ Fs] Re x5P vT[Lr z][rA [_,_] xBx Dv xAb]]] e)
 show(CF,(j,p,R,eR,ek,hp)=xiF (Rs:=Rs) (k:=k-3) (DE [_,_,_,_,_][BE[Fg[.a[XN 4 11] IH]]][.a xGZ[Gh xY]] SB SL vT[Lr Ug][IP[rA [_,_] xBx xMV xAb][qj[JX h3]]]),Sc ek[k=Hi+p][by show(x4W,El[Dg [_,_,_,_] iV[xIe[ud 3]] x5P xMU W1] [_,_,_,_][xIe[ud 3]] iV x5P zt[qj[JX h3]])] hj[x4u j][UJ eR],(hjn:j<DJ)=Bg Ap hj,υ Rv[xuu hN hb] hnx[plc Rs[j+1]=x6k Hi][by
  show(x4W,[Kj,eR,NH,Ld,NE,IQ,J8])],Zl ts ht Ss Tu hd h0[∀{i x H1},zv[E8]->qa->X6[x=Z1/\∃a b c,jB[H1 t] [vN xOi,a,b,c]]][λ {i x H1} e s=>by
  show(kH e,Dr t et[xSO e],mO t _ _ _[FV[Tu i t et]])],ZT g[m9 d ht[xue (cs:=[Α k]) (ydP ht)[λ i=>FO xOi k][λ i=>vN xOi] ?_[λ i x H1 Q' e s kq=>?_][λ i x H1 Q' e _ s kq=>?_] λ l5 H5 _ s5 h5=>?_]])
 ·show(EP Ss Ap,ir,BM[zQ 2 [_,_] xWg[iK xBv] Dm hl DB])
 ·show((t,rfl,_,_,_,h)=h0 e s,Ea (_,rfl,t,_,_,_,rfl,rfl,QV.of h,tZ,_,rfl,_,_,rfl,rfl,_,rfl,?_)[xJZ[FO[ST xOi] xu][FO xOi k] OQ] kq)
 ·show((t,rfl,_,_,_,h)=h0 e s,(_,rfl,t,_,_,_,rfl,rfl,QV.of h,tZ,kq _ Zi))
 rw [xz (j:=j) _[zD Ss hj][λ i hi=>IZ ?_][λ i hi hi2=>Kh ?_],Ji] at h5
 rotate_left
 ·rw [Rv i[ED [_,_,_] xGW Φ SL hjn hi]];have:=xn3 (Rs:=Rs) hi;show ED [_,_,_,_][m8 xY] WO SL zt this
 ·show(Ua Ss hi2,[Rv i[by show([-Ap],tS [_,_] SB Re hi2)]]);have:=xn3 (Rs:=Rs) (um[j+1] i hi);show BM[xAc[Bx [_,_,_,_,_,_][Fg[Ξ[.a xV8 nV]]][BE[.a gq[Vv Re]]] Β Re hp xMU[ym hnx.symm this]]]
 show(χ ej[Rv j x3Y] (_,rfl,l5,_,_,vN[pl SV j],rfl,rfl,QK.of h5,xhP _ _,AA),CF,Γ ej[xjh (b:=HY 2[k-Hi]) (x:=1) (y:=2) (.gt (n:=2) (.sub Τ Τ[tS [_,_,_] EH Re zt]) .c)[UF H' s]],Y7[Ww H'[xsG.blk (T:=T) eR ek hp][s5.trans s]]);by_cases z:p≤2
 ·show(xCv[Ju z],xCX[BM[Zs[G6 [_,_,_,_][Ξ gs][xIf[EL 2]] jr xMU z[VD [_,_,_] DG Uf zt]]]] e)
 ·show(xCv[Jk z],LT[IZ[DE [_,_,_,_][xIf[IM xWn]][Ξ gs] xWn Re zt[Lr z] W1]] e)
abbrev xvn:QC:=top 144
def xd2:HJ yiU:=Z8
def xdS:HJ yhT:=Z8
def xd0:HJ ["_law_way","_law_one"]:=Z8
structure BadR (cH cK cB cT cM cL:Qq)(L:LE)(i:Nat):Prop where
 b:xJw
 l:xMC
 h:jN L i
def Ls.words {L:LE}{t:TE}{cz:St}(hc:x7u=none::cz)(hL:xPw L i)(h:∀w,Ls t[Α w::cz] H L):fq[xjr js[xi3 K[xuU[yJ xV3 xOK]]] IF[xR6[spWord K cM cH cK cB cT cL][yJ t gF]]] [i,i]:=λ H1 s Q k=>by
 show(xsM (vs:=[ie,CC]) (pM .c .c)[X5[VC p[EX x3u] ?_]],Γ hc[xs2[.tu[QV.up (xs:=[ie,CC]) ad]][λ _=>WU][HA[IK 2]][λ j x H2 Q' e s2 kq=>?_] λ l H2 _ s2 h2=>xYK[(iL).trans s2] h2])
 obtain⟨w,rfl⟩:∃w:Nat,x=vN w:=by
  have:=xIn;show x1b Jv NA this;rcases this with rfl|rfl<;>exact CQ
 exact h w H2[s.trans[(iL).trans s2]] _ λ l H3 s3 h3=>BV[.bad l L w i rfl h3 hL.b hL.l hL.h λ H4 s4=>kq H4 xFi]
theorem Ls.bent {A:LE}(h:xDG)(hj:iz tj j)(hb:iz tb b)(l1:xGq j)(l2:x3i 1900)(l3:b<8):fq[xR6 xsB[xxv t[yJ tj tb]]][K27.Ck.bent A j b]:=λ H1 s Q k=>bP λ l H2 s2 h2=>hj H2 xLg _[hb H2 xLg _ (l,A,j,b,rfl,h2,l1,l2,l3,λ m H3 s3 h3=>k m H3 AE h3)]
def xou {A:LE}{Q:VK}(ha:yH a)(hb:yH b)(k:xN9 XS):tOp[rNeL K] a b σ H Q:=Ea[ha H xZ _ λ l H1 s1 h1=>xX6 s1 _ λ m H2 s2 h2=>u7 l m x2G x2G[xGz iA xNq][xGz iA h2] ?_] gU[xJe Fy]
def xvf {X:Cx}{A:LE}{Q:VK}(ha:yH a)(hb:yH b)(k:xN9 x5):tOp[xsg X] a b σ H Q:=Ea[ha H xZ _ λ l H1 s1 h1=>xX6 s1 _ λ m H2 s2 h2=>u7 l m x2G x2G[xGz iA xNq][xGz iA h2] ?_] gU[xJe Fy]
def BadL (cH cK cB cT cM cL:Qq)(H:Hp)(i:Nat)(xs:Sy):Prop:=Ic xs[∃l L,x=Ct/\pV=xO/\xPw L i]
def BadL.up (h:x4E cK cB cT cM cL H i xs)(s:Χ):x4E cK cB cT cM cL H' i xs:=DX[DR l L e e2 e3[h x hx] (l,L,e,FV e2,e3)]
inductive xk4 (cH cK cB cT cM cL:Qq) (vs:Sy) (H:Hp) (Q:VK) (QL:XK):Prop
 |mk (a d:Qq) (T:LE) (Rs:yO) (c:Nat) (h0:vs=[AO,Ed,Vz]) (h1:Υ=xOF) (h2:x4C H d SV) (h3:Ff) (h4:D4) (h5:yP) (h7:xN9 x5):xk4 cH cK cB cT cM cL vs H Q QL
def xwq:XL ["_law_row","_law_due_here","_law_cell","_law_at","_law_bent_here","_law_word_here","_law_some","_law_more","_law_one"] Jae xvn:=Tm
structure Lws (K:Frag)(mg:Ι):Prop where
 word:Ν "_law_word" xuY x1e
 bent:Ν "_law_bent" xop xTK
 bentd:Ν "_law_bent_due" xvG x1j
def xhS {cP:Qq}(F:Ο "_law_spoilt_right" xvn Jae)(Z:vR)(O:Sw)(Y:Lok K mg cB cN cL cC cR)(Er:xZj cP [cM,cH,cK,cB,cT,cL,cC,cR])(L:Lws K mg):Cc 47 Jae[xk4 cH cK cB cT cM cL]:=by
 show(jf Z.pr.H.N.X,xm Wo L.word Be L.bent Bd L.bentd,XF GW[xpM (P:=P) (w:=w) (base:=base) Wo Z O Y Er] GB[xaP (P:=P) (w:=w) (base:=base) Be] xuJ[xan (P:=P) (w:=w) (base:=base) Bd X],D1 xwq[λ QE A outer st H vs Q E hr h=>?_],(a,d,T,Rs,c,rfl,ha,hd,hN,hb,hl,k)=h,υ hu hr.units QW F9 CJ,Xo RW hV[Gn 3 xwq.nd[xOA xWp xA2][rh xM6[oS xVZ[xPh yiU [none,x5y,some 0] [(("_law_row",wW)),(("_law_at",wW+1+1))] (g:=IF) rfl[bQ Z8 Z8 Z7[λ x c h=>(by rcases xta h with⟨rfl,rfl⟩|⟨rfl,rfl⟩<;>rfl)][DX[by rcases xos hx with rfl|rfl<;>exact CQ]] rfl[λ i x j h1 h2=>?c1]][xsX x5M][λ fp s H=>VG xd2][λ fp s H=>xOL Wo[aa[xzb[xiI (K:=K) rfl] Ζ xtj[xxx τ]] gP]]] xWu]][jY xM6[oS xVZ[xPh yhT [none,some 2,some 0] [(("_law_row",wW)),(("_law_cell",wW+1))] (g:=IF) rfl[bQ Z8 Z8 Z7[λ x c h=>(by rcases xta h with⟨rfl,rfl⟩|⟨rfl,rfl⟩<;>rfl)][DX[by rcases xos hx with rfl|rfl<;>exact CQ]] rfl[λ i x j h1 h2=>?c2]][xsX x5M][λ fp s H=>VG xdS][λ fp s H=>xOL Wo[aa[jH Ζ[BO[xBf τ]]] gP]]] xWu][ID 4 xwq.nd[Br GB Be[mJ[nj 3[V8[ao xlR xWp xA2]]]]] 5 xwq.nd[aE xuJ RW Bd[Wt 0 1 3]][Gn 6 xwq.nd[aK[nj 4[jH Bb[BO[xBf Ζ]]]]][xzQ[ZS AZ x59][DS 7 xwq.nd[Gi[xS AZ][xOA xWp[y4 x59 AZ]]][eI 6 xwq.nd[jH jy[xJ5[kU Bb xBH][Br GB Be[XM 4[nj 7[xBf Ζ]]]][jH Bb bq]]]]]][yj[xf jy 8 xwq.nd[xY3[HX xVY[xPh ["_law_way","_law_one"] [none,some 8] [(("_law_one",wW+1+1+1))] (g:=IF) rfl[bQ Z8 Z8 Z7[λ x c h=>(by show zN[xys h];rfl)][DX[by show(xw9[Ev hx],CQ)]] rfl[λ i x j h1 h2=>?c3]][xsX x5M][λ fp s H=>VG xd0][λ fp s H=>xOL Wo[jA 1 0]]][aK[jA 5 5]]]]] cu]]]]])
 case c1=>rcases ydh h2 with⟨rfl,rfl⟩|⟨rfl,rfl⟩<;>exact bS c h h
 case c2=>rcases ydh h2 with⟨rfl,rfl⟩|⟨rfl,rfl⟩<;>exact bS c h h
 case c3=>show j6 xXX[bS c h h]
 show((hB,RT)=xX5 hb hl,Sc W4[14≤BQ][by rw [xwY,IQ,IQ,gB];show 14≤3+_+11;show S1 UR xBx] ln[∀{σ:St} {H':Hp},Cs σ 0 BL->Χ->Pv[tCB[λ xs H Q=>∃p ys,xs=Cg/\(vB p ys\/w4 p ys)/\xTG H] x6l] σ H'[vN BQ]][λ h s=>.len h xWl],(bad:∀{Z z k i m},dO Gl->xSe i->(BQ≤m\/(k+11<BQ/\BQ≤m+11))->X1 z->z.length≤2->xPw[Z.take m++z] i)=λ {Z z k i m} h d hm hz Vc=>by
  show((l1,l2,_)=h.facts hB,Dj[ow[EA[l2 x[JK q]]][hz x]][by show mE Jc l1;have:=(x1T hl).2;have:BQ=Sg+11:=(kh xwY IQ IQ gB);omega][xao _ _ _ _ _ _ hN hb hl h d hm]),vI[xxZ[x86[c/4][qb c 4][x6S xZ][qZ UR Fp W4]] AA],(hat:c/4%BQ<BQ)=Im[qZ UR Fp W4],Cz[c/4%BQ] p[Wl[xBp[.eq (m:=c%4) (n:=0) (oU c 4 Τ) .c] aX xUE]])
 ·exact xvf (A:=[6,6]) (.words (cz:=[oz,BL]) rfl (xXG gw,Gb[Dg [_,_] Ω ydU xF3 RT Fb],xa4 _ _ _ _ _ _ hN hb hl hat) λ w=>xL9 ha Τ)[xRk .c[by decide]] k
 show(CF,(h256:By[c/4%256])=Im[by decide],Iu hflat (x1T hl).2 VO[BQ=Sg+11][kh xwY IQ IQ gB][Wl[xBp[.eq (m:=c%4) (n:=1) (oU c 4 Τ) .c] aX xUE]])
 ·exact xvf (A:=[5,5]) (.words (L:=Gl++[c/4%256]) (cz:=[xJh,BL]) rfl (ow[hB x][SZ[jg z h256]],by show(EF IQ[_+1≤1900],yE [_,_] Ω[BZ 1300 xGZ] xF3 hflat[IR VO]),xii _ _ _ _ _ _ hN hb hl) λ w=>.cat[Τ ha][.one[oU[c/4] 256[qb c 4]]][by show(tX[_+1],yr 1900 SB Bc RT)])[xRk .c[by decide]] k
 show(CF,uU hb8[c/4/BQ%8<8][Im[by decide]][xlC[.bent (A:=Gl) (j:=p) (b:=c/4/BQ%8) (Τ ha) Τ[oU[c/4/BQ] 8[.div (m:=c/4) (qb c 4)[x6S xZ] (BM[xn[HH UR Re Fp Re W4]],BM[xn[HH Re xF3 SB[.n 1073741824] RT]])]] hat RT hb8] λ l1 H1 s1 h1=>AA],CF,Sc hZ[Bt Gl p[x4J p[c/4/BQ%8]]][.one hb8] Vc[∀{m b'},p<m->m<BQ->b'<8->Bt Gl p[bent[x4J p[c/4/BQ%8]] m b']][λ h1 h2 h3=>.two hb8 h1 h2 h3],(hZl:BD[x4J p[c/4/BQ%8]] BQ)=xX4,Cz[x4J p[c/4/BQ%8]] Z[Wl (_,rfl,_,rfl,_,rfl,a,d,T,Rs,p,rfl,ay,hd.same s1,hN,hb,hl,hat,λ i H2 hdue s2=>AA)],CF,Tl Sv Fy h2 xNq,A3 bad1[∀{z},X1 z->z.length≤2->xPw[Z++z] i][λ {z} q1 q2=>by
  have:=bad (m:=BQ) hZ hdue[.inl ρ] q1 q2
  rwa [Jo[IR hZl]] at this] badZ[xPw Z i][JM Z▸bad1 (z:=[]) nofun (by decide)][Wl[BV[yep Z (B:=[c/4%256]) (Τ h2)[.one[oU[c/4] 256[qb c 4]]][by show(EF hZl[Zg[_+1]],yr 1900 SB Bc RT)] _ Zi _[λ l3 H3 s3 h3=>ka ye l4 n4 AA]]]],CF,Tl s4[Dn [xAW,xF9] n4] s34 xFi,Sc h4[kS H3 l4 [xAW,xF9] l4=Az [xAW,xF9]] ad hX[x4E cK cB cT cM cL[Fj H3 l4 [xAW,xF9]] i [xAW,xF9]][DX[by
  show qw x5D hx
  ·exact jE l1 Z[s34 _ _ h2] badZ
  ·show jg hx[yW l3[X4 h3][bad1[DX[jg hx h256]][HA[AL 2]]]]]],Tl h24[s34 _ _ h2] VP[Sv.trans s34],Cz[Fj H3 l4 [xAW,xF9]] H4[xvZ R g],(J:∀(v7:EY) (l5:Qq) (xs:Sy) (H5:Hp),gk H5->H5 l5=Fh->x4E cK cB cT cM cL H5 i xs->R [BL,zm,xJh,oz,π l1,Α i,xH1,v7,none] H5)=λ v7 l5 xs H5 s5 h5 hX=>AA)
 ·show(CF,xBp[.lt (m:=p) (n:=BQ-11) Τ[.sub (n:=11) (x6S VP) .c[qZ UR xMV W4]]][Hy Ug][λ _=>J none l4 _ H4 VP h4 hX],uU hm[p+1+c/64%(BQ-1-p)<BQ][by
   have:=KB[c/64][show 0<BQ-1-p by show DE [_,_,_,_,_][Fg[Gh[Ξ[ud 11]]]][BE[kx EH 4 SL]] Fp Re Ug W1[IP W1[UO UR xMV W4]]];show DE [_,_,_,_,_][gK[xJx iV]][BE[Aw Rn]][AS gc] Uf this[UO UR AM W4][NL.J'[Dg [_,_,_] gc yp Uf hat W1]]][xxZ[.add (m:=p+1) (n:=c/64%(BQ-1-p)) (xSh Τ)[x86[c/64][qb c 64][.sub[.sub (n:=1) (x6S VP) .c[qZ UR AM W4]] Τ[ED [_,_,_,_][HQ[AS[yt SB]]] xV0 SL hm W1]][DE [_,_,_,_,_][Fg[Gh[Ξ[ud 11]]]][BE[kx EH 4 SL]] Fp Re Ug W1[IP W1[UO UR xMV W4]]]]] AA],CF,(hm0:p<p+1+c/64%(BQ-1-p))=BM[Iz SB gc],Cz[p+1+c/64%(BQ-1-p)] m[BV[Ls.uptoE (k:=1) (A:=Z) (Τ h24) xMd[by decide] _ Zi _ λ l5 H5 s5 h5=>Ls.bent (A:=Z) (j:=m) (b:=c/8%8) (Τ[Bn h24]) Τ[oU[c/8] 8[qb c 8]][LT hZl hm][LT hZl RT][Im[by decide]] _ Zi _ λ l6 H6 s6 h6=>yep Z (B:=[0,0]) (Τ[kj[Bn h24]])[xRk .c[by decide]][by show(EF hZl[Zg[_+2]],yr 1900 gZ Bc RT)] _ Zi _[λ l7 H7 s7 h7=>nU[xj 3] l8 n8]]],ju s8[Dn [V.ref l5,V.ref l6,V.ref l7] n8] s58[s5.trans[s6.trans[s7.trans s8]]] (l4,l8,_,_,rfl,rfl,s58 _ _ h4,ad,(xj 5),λ l9 n9=>J _ l9 _ _[yai s58[am n9]] ad xIH),s9=s8.trans[Dn[[xAW,xF9]++[V.ref l5,V.ref l6,V.ref l7]] n9]);rcases xZ6 hx with hx|hx
  ·exact(hX.up[s58.trans[am n9]]) x hx
  show qw x5D hx
  ·show pY[yW l5[s9 _ _[xJU x5R]] ?_][bad (z:=[]) (m:=BQ-1) hZ hdue[x4[Bj [_,_,_][tG[xCz 11]] DG[xFS 11] SL Ug[UO UR xMV W4]][Ay [_,_] Re Β Re x5v W1]] nofun (by decide)]
   rwa [JM,<-hZl] at this
  show qw x5D hx
  ·show pY[yW l6[s9 _ _[xJU h6]] ?_][bad (z:=[]) (m:=BQ) (Vc (b':=c/8%8) hm0 hm[Im[by decide]]) hdue[.inl ρ] nofun (by decide)]
   rwa [JM,Jo[XV xwb hZl ρ]] at this
  ·show jg hx[yW l7[s9 _ _ h7][bad1[by decide][by decide]]]
 show(CF,HV g[m9 l5 h5[xxu (xs:=xs) (D:=Ws) (λ _ σ H6=>∃v,σ=[BL,zm,xJh,oz,π l1,Α i,xH1,v7,v]/\K' H5 H6)[Ef none Zi] ?_ ?_ ?_]])
 ·rintro j σ H6 _ ⟨v,rfl,s6⟩;show rW x5R
 ·rintro j x σ H6 e ⟨v,rfl,s6⟩;show DR l L rfl hL hBL[(hX.up s6) x xIn][xou (A:=[i,i]) (.words (cz:=[qB]) rfl hBL λ w=>Τ hL)[x1a Τ Τ[xP0 2]] λ H7 s7=>BV[gM xAl]]
 ·show(xF7 σ H6 v s6,g _ _[Ey xK9])
abbrev xuy:QC:=top 147
def xbv {A:LE}(h:xDG)(hA:xJl):fq[nP[ER[xR6 xuD[yJ t[vz 8]]]]] [chk 8 29 A]:=λ H1 s Q k=>bP λ l H2 s2 h2=>Q6 l 8 29 A wp8 h2 hA[λ H3 s3=>ka TY p hp[k p _[s2.trans[s3.trans iL]] ad]]
inductive xlv (cH cK cB cT cM cL:Qq) (vs:Sy) (H:Hp) (Q:VK) (QL:XK):Prop
 |mk (a d:Qq) (T:LE) (Rs:yO) (c:Nat) (h0:vs=[AO,Ed,Vz]) (h1:Υ=xOF) (h2:x4C H d SV) (h3:Ff) (h4:D4) (h5:g9) (h7:∀l L i H',Χ->B0=xO->i<7->xPw L i->B8):xlv cH cK cB cT cM cL vs H Q QL
def Ra:XL ["_law_row","_law_due_here","_law_cell","_law_more","_law_place","_law_way","_law_count","_law_size","_law_head","_law_body","_law_block"] Jae xuy:=Tm
def xfY (l:LE)(h:p≤q+k):iT[l.take p] (l.drop q).length≤l.length+k:=by
 rw [Jc,Je];omega
def xaG (F:Ο "_law_wrong_whole" xuy Jae)(Se:Gg "_law_sealed" xt0 xTj fs fds)(Tw:yjG xyL xE4 ft fdt)(Y:xRR)(X:yh):Cc 8 Jae[xlv cH cK cB cT cM cL]:=by
 show(x7I Co FC Co.F,(t16,B16)=Co.d,Tl GW[xpl (P:=P) (w:=w) (base:=base) Tw] GS[xit (P:=P) (w:=w) (base:=base) Se Tw Y X],D1 Ra[λ QE A outer st H vs Q E hr h=>?_],(a,d,T,Rs,c,rfl,ha,hd,hN,hb,hl,k)=h,υ hu hr.units QW F9 CJ,Xo hr6[Dk 6][Gn 3 Ra.nd xWp[rh[zo xM6[HX[FS hu] τ rE]][Iw GS Se[jA 0 3]]][ac[xyU[V9 τ[xOA AZ[lX τ]]][xNc[x5U 4[x5U 5[x5U 6[x5U 7 im]]]]]]
   (jY xM6[xY4 Bb[qd Η[xOI xHB]]][jY xM6[xY4[xOI xHB][qd Η Bb]][DS 8 Ra.nd[aK[W5[xS ag]]][Gn 9 Ra.nd[aK[zM[zP xxs ag][zP xxs[V8 AZ]]]][xzQ xM6[ID 8 Ra.nd[aK[W5[bj[Gi ag jy]]]] 9 Ra.nd xWu[eI 0 Ra.nd[xY4 Bb[qd Η[xOI xHB]]]]]][DS 10 Ra.nd[rY[jH xNT[BO[dz xXW hr6 Co.m Co.kp Co.b bA[xIW 8]]]][pv 9]][Gz[rY[rY[xY4 Bb[pv 10]][Br GW Tw[BO[xxw xXW hr6 Z7 Co.m Co.kp B16[xMf (a:=x3v) CQ] bA[sf 10]]]]][qd Η Bb]]]]]]])]],DW hB RT[xX5 hb gY] hF hF2[x1T gY],vI[xxZ[qb c 5] AA],Zl ts ht Ss Tu hd seal_[∀{H':Hp},Χ->xsl[zR[vN[c/5]]] H' Q E0][λ s=>Q6 a Rs.flatten T[c/5] xWl hF2 hb[λ l r H' s' h' hr RI hrb=>ZF 4 H'[s.trans s'] h'[by decide][xJ7 xIH[xac _ _ _ _ _ _ hN hb gY hr RI]]]])
 rotate_left
 ·show aQ hx
  ·exact hB x[wz z]
  show aQ z
  ·exact hF x[wz z]
  show aQ z
  ·exact xIj x z
  ·exact hrb x z
 ·rw [IQ,IQ,IQ,hr];show 3+(_+(3+8))≤1900;show yr 1300[BI[Ρ[Eg DH]]] xF3 hF2
 show((m5:Pv[bF[λ _ j=>0<j][i%j] xHA[vz 5]] [BL,zm,xJh,Α[c/5],none,none,none,none,none,none,none] H[vN[c%5]])=x30 5 Τ .c,ZT g[(xxK.of[x5k 4 m5 .c]) H xZ _[xA7[bZ[SU[seal_ xZ]]][λ _=>xCI Z9[λ le ne=>(d,le,_,rfl,rfl,QK.of[am ne _ _ ht],xFQ,_,rfl,xA7[SU[seal_[am ne]]][λ he=>AA])]]]])
 clear g seal_ m5;show(s1=Dn [] ne,az H le [] H1,Sc hn0[x4D 0][by
  cases ts with
  |nil=>show xIB he
  |cons=>exact di] hj[x4D[xGy[c/5]]][Im hn0],υ et xNR hjn[xGy[c/5]<DJ][xF5 Ap Ss hj],xwE R b n r eR gb QY hjn,eN hd2e[Cs[SV][xGy[c/5]] ((b,n))][gA Jw eR gb.eq] Ys[Tu _ _ et]);rw [xtL hd2e,xuu hN hb _ x3Y] at Ys;show(xNp e5[xNk[n+5]][Iv gb.eq IQ gb.hr xQd] etup[atI E8[ST[xGy[c/5]]]=π ts[(xGy[c/5])]][aA[Ai Jw et]] ts[(xGy[c/5])] t,ZT g (_,rfl,_,rfl,_,rfl,d,_,rfl,BN[IL ht],_,_,rfl,rfl,(by show FX<pf E8;show Gk[Int.natCast_pos.2 hn0]),d,_,_,Z1,rfl,rfl,QK.of[IL ht],?_,t,_,rfl,QV.of[IL Ys],rfl,_,_,rfl,_,_,rfl,_,_,rfl,_,_,rfl,rfl,AA))
 ·show Gk etup
 show CF;generalize xGy[c/5]=j at*;show(Tl WZ ay eB[xpH (T:=T) eR],DF Rv[xya Rs j] c1[x8g=GF wa][LT eB[MT Rv]] c2[xGc Hi=xID][XV[xxX eR] eB[NQ Rv]],Sc c3[xGc[Hi+(n+5)]=jC[j+1]][by show([-KS,c2,xxX eR],NQ e5)] c4[fu[Hi+(n+5)]=GF[x8V[j+1]]][by
  rw [eB,<-IU,MT[mE Rv e5],IU,Kj,eR,NH,Ld,NE]],Sc bt[∀{n},Dl[fu n]][xXG gw] bd[∀{n},Dl[xGc n]][xXG xBr],Sc VO[BQ≤1314][by
  have:BQ=Sg+11:=(kh xwY IQ IQ gB);show ED [_,_] Ω[BZ 1300 xGZ] xMe hF2 Yp] lt[∀{n},EI[fu n] 1314][λ {n}=>Gb[Dg [_,_] Ω x3g xMe VO Fb]],(ld:∀{n},EI[xGc n] 1314)=λ {n}=>xEd[Dg [_,_] Ω x3g xMe VO fj],Iu TK gb.n2 m5[Pv[bF[λ _ j=>0<j][i%j] xHA[vz 5]] [BL,zm,xJh,Α[c/5],Α Hi,Α[b/64],Α[b%64+1],Α[n+5],none,none,none] H1[vN[c%5]]][x30 5 Τ .c][Wl[xBp[x5k 0 m5 .c] aX xUE]])
 ·refine xPC[x8g++xGc[Hi+(n+5)]][aN[xL9 WZ Τ][xVj WZ xWw]][λ l H2 s2 h2=>?_]
  ·exact IY[xNA 0 _ Io][IY VO[by decide]]
  show Dq i hi S6[xbY cH cK cB cT cM cL hN hb hl hjn][ZF i H2 Fy h2 hi[Cm[ow[bt x][bd x]] ?_]]
  ·show GV[IY[xNA 0 _ Io][IY VO[by decide]]]
  ·show Iv c1 c3 IU S6
 show(CF,HV g[xBp[x5k 1 m5 .c] aX xUE])
 ·refine xPC[fu[Hi+(n+5)]++xGc Hi][aN[xL9 WZ xWw][xVj WZ Τ]][λ l H2 s2 h2=>?_]
  ·exact IY[xNA[n+5] _ ρ][IY[IP VO[Kx TK 5]][by decide]]
  show Dq i hi S6[xL cH cK cB cT cM cL hN hb hl hjn][ZF i H2 Fy h2 hi[Cm[ow[bt x][bd x]] ?_]]
  ·show GV[IY[xNA[n+5] _ ρ][IY[IP VO[Kx TK 5]][by decide]]]
  ·show Iv c4 c2 IU S6
 show(CF,uU hx64[c/5%64<64][Im[by decide]][xNB [68,2][xRk[.add (m:=64) (n:=4) .c .c][by decide]][λ l8 H2 s2 h2=>AA]],xPW[xNB [16,c/5%64*4][x1a[.mul (m:=4) (n:=4) .c .c xQP][.mul (n:=4) (oU[c/5] 64 Τ) .c[x4 Z9 Z9]][xP0 2]][λ l9 H3 s3 h3=>AA]],Iu s23 AE W9[Hi+(n+5)≤BQ][by show([eB,IQ,Rv,IQ,e5],BM[xI [_,_,_][Ρ ic][Ρ[HQ ic]]])][xvZ S g],(J:∀(ra l8 l9:Qq) (Rw bd:LE) (x:Nat) (H4:Hp),xXo->H4 ra=Az[Rw.map vN]->H4 l8=BA [x,2]->H4 l9=Az[bd.map vN]->xDr->(fE bd)->bd.length=2->Rw.take Hi=GF wa->(fE Rw)->Rw.length≤1314->xPx[wa++(vD xQn bd++Rw.drop Hi)]->S [π ra,zm,xJh,Α[c/5],Α Hi,Α[b/64],Α[b%64+1],Α[n+5],π l8,π l9,none] H4)=λ ra l8 l9 Rw bd x H4 s4 hra h8 h9 hx hbd hbl ht hRb W0 S6=>AA)
 ·show(CF,xBp[x5k 3[oU c 5 Τ] .c] aX[λ _=>J a l8 l9 Gl [16,c/5%64*4] 68 H3[s1.trans s23][s23 _ _ WZ] x7L h3[by decide][UF y hy] rfl c1 hB VO[LT c2[xaY _ _ _ _ _ _ hN hb hl hjn hx64]]])
  rotate_left
  ·show qw[x0p hy] hy
   ·decide
   ·show jg hy[HH[xC2 4][.m 4 XR][AS xOb] HN[IV 4 hx64]]
  show(A3 hc1[AL[b%64+1]] di hc2[US[b%64+1]][Im[by decide]][Wl[xNB [128+(b%64+1)-1,2][xRk[.sub (n:=1) (.add (m:=128) .c Τ) .c[S1 AM[BZ 128 SB]]][xP0 2]][λ l8 H4 s4 h4=>AA]]],xPW[xNB BX[xRk .c[by decide]][λ l9 H5 s5 h5=>AA]],χ ha5[xXr[s23 _ _ WZ]][xNB[x8g++xGc[Hi+(n+5)]][.cat[xL9 ha5 Τ][xVj ha5 xWw][by show([Jc,Je],DE [_,_,_,_,_][xL3[Ξ[Gh[ud 5]]]][BZ 1900 gq] WF Bc RT G8[VD [_,_,_] x55 x55 W9])]][λ ra H6 s6 h6=>?_]],SC tk[BD x8g Hi][List.length_take_of_le[IY Io W9]][J ra l8 l9 _ _ _ H6[s1.trans[yhM xK9]] h6[kj[Bn h4]] x5R[yE [_,_] xM1[bE[BZ 128 Β]] HN hc2 fj][by decide] rfl[by rw [MT tk,c1]][IB[xv7 hy[bt y][bd y]]][by show(mE Jc Je,DE [_,_,_,_,_][xL3[Ξ[Gh[ud 5]]]][BZ 1314 gq] WF xMe VO G8[VD [_,_,_] x55 x55 W9])] ?_],xaI _ _ _ _ _ _ hN hb hl hjn hc1 hc2)
 show(CF,A3 e3[[x,2]++[xHt x 2]++bd=xQn++bd] rfl h10[fE[xQn++bd]][IB[xv7 hy[bx hx[by decide] y][hbd y]]][Wl[xNB[[x,2]++[xHt x 2]++bd][.cat[.cat[Τ h8][xbv[Τ h8][IB[by
  show qw[x0p hy] hy
  ·exact hx
  ·show Hd[x8W hy]]]][xP0[2+1]]][Τ h9][by show([hbl],xP0[3+2])]][λ l10 H5 s5 h5=>AA]]],CF,xU e3 h5 hl10[DV xQn bd=5][Ai IQ hbl],χ hra5[Bn hra][xPC[Rw.take Hi++(xQn++bd)++gu[xQn++bd]++Rw.drop Hi][aN[aN[aN[xL9 hra5 Τ][Τ h5]][.chk[Τ h5] h10]][xVj hra5 Τ]][λ l H6 s6 h6=>?_]])
 ·show([Jc,hl10],Bj [_,_] Ω x3g vy Bc W0 Fb)
 ·show mE Jc hl10;show _+2≤_;show Bj [_,_] Ω x3g[Cy vy] Bc W0 Fb
 ·show(AR IQ hl10,Ay [_,_] WF xMe[IM[Cy vy]] Bc[IY[xNA 0 Rw[Jb Hi]] W0])
 show Dq i hi S6 S6[ZF i H6[s4.trans xK9] h6 hi[Cm[UF y hy] ?_]]
 ·show aQ hy
  ·show aQ z
   ·show aQ z
    ·exact hRb y[JK z]
    ·exact h10 y z
   ·exact dR[xKW h10] y z
  ·exact hRb y[JZ z]
 ·show([IQ,IQ,IQ,hl10],Ay [_,_] WF xMe[IM[Cy vy]] xF3[IY[xNA 0 Rw[Jb Hi]] W0])
 ·rw [ht];unfold sld at S6;simp only [IU] at S6 ⊢;exact S6
abbrev pd:QC:=top 148
structure All (K:Frag)(mg:Ι)(B D G0 CW C0 C1 C2 C3 c CK QP CO Cq C G Ce Cp cM cH cK cB cT cL cC cR cN cP:Qq):Prop where
 Z:ykW G0 CW C0 C1 C2 C3 c CK QP CO Cq
 R:xtq K mg B D G0 CW C0 C1 C2 C3 CK QP CO C G Ce cM cH cK cT
 O:Sw
 Y:Lok K mg cB cN cL cC cR
 E:xZj cP [cM,cH,cK,cB,cT,cL,cC,cR]
 W:Lws K mg
 pressed:Ν "pressed" xqU x3w
 cell:Ν "_law_cell_at" xt1 xKy
 mixed:Ν "_law_mixed" pi xKE
 isn:Ν "_law_is_number" xuV xKO
 text:Ν "_law_text" xug xz5
 due:Ν "_law_due" xoA x1G
 good:Ν "_law_good" xog x09
 spoilt:Ν "_law_spoilt_right" xvn Jae
 two:Ν "_law_two" xyL xE4
 sealed:Ν "_law_sealed" xt0 xTj
 wrong:Ν "_law_wrong_whole" xuy Jae
 tuple:ycz
 all:V4 "all"
inductive xzh (K:Frag) (Tb:Qq) (vs:Sy) (H:Hp) (Q:VK) (QL:XK):Prop
 |mk (a:Qq) (ns:Za) (h0:vs=F5) (h1:xQ5 a) (h2:pG Tb xLG) (h3:a≠Tb) (h4:∀H',oA x5):xzh K Tb vs H Q QL
def SO:XL ["_law_script","_law_text_here","_law_row","_law_kept","_law_told","_law_due_here","_law_odd","_law_k","_law_number","_law_spoilt","_law_word_here"] xz5 pd:=Tm
def xmV {ns:LE}{y:V}(h:pV=Az[ns.map vN++y::ys])(hb:xCy n ns n)(hy:Rf.WhV K H y 0 255 false):xVr H Ct:=
 .inr[Q6 l _ ns.length y h[λ i hi=>(ns[(i)],xCr[KZ hi],gA[JP[Gk hi]] Jw xW4)][gA[Jz[Gk ρ]] IS LU] hy]
def Sk.two (h1:Ag H k)(h2:Sk H m ds k):xsO K H l m:=by
 show((ts,a1,a2,a3)=h1,C5 us b1 b2 b3 h2 (ts,us,QK.of a1,QK.of b1,by rw [a2,b2],λ i a b e1 e2=>ux[QV.of[a3 i a e1]][QV.of[b3 i b e2]]))
def xjl (hN:Ff)(hb:D4)(hl:g9):xuJ SV T.length:=by
 show yI[by show(mY Ap,ir,ED [_,_] xWg[x6V xBv] Dm hl DB)][λ i a m e=>?_]
 ·show(kH e,ak R eR e2[xSO e] hi[i<DJ][Bg Ap[UJ eR]],xwE R' a' n r e' g QY hi,AQ eR e' e',xU g.eq e2 e2[((a',n))=((a,m))] e2);cases e2;show(pJ g.ha[LT g.ct g.le][Hy h],Ua Ap h,Γ g.ct[xqH ?_],XO nB,Bj [_,_,_][UK PL gv][xOG xBv][wK SB] SL[qJ h] DB)
 ·have:=xuq hN hb DJ 0 rfl;rw [Lv,Nat.mul_zero,MM] at this;show xU6 K1;unfold cts;congr 1;refine Nq λ R _=>?_
  cases R<;>rfl
def xcD {cP:Qq}(F:Bq "law" "law" pd)(Y:All K mg B D G0 CW C0 C1 C2 C3 c CK QP CO Cq C G Ce Cp cM cH cK cB cT cL cC cR cN cP)(hC:Vn)(hBm:jQ)(hK:yX):Cc 48 xz5[xzh K Tb]:=by
 show(jf Y.R.pr.H.N.X,C6 Pr Y.pressed Ca Y.cell,C6 Mi Y.mixed In Y.isn,C6 Tx Y.text Du Y.due,C6 Go Y.good Sp Y.spoilt,C6 Tw Y.two Se Y.sealed,xm Wr Y.wrong Wo Y.W.word Lo Y.Y.lk,Hs GC[xqj (P:=P) (w:=w) (base:=base) Ca X] GM[xm3 (P:=P) (w:=w) (base:=base) Mi] GT[xbR (P:=P) (w:=w) (base:=base) Tx Ca Mi X] GX[xf9 (P:=P) (w:=w) (base:=base) Pr Y.Z hC hBm hK],Hs GL[ww (P:=P) (w:=w) (base:=base) Lo Y.R Y.O Y.Y] GU[xcy (P:=P) (w:=w) (base:=base) Du] GG[xbb (P:=P) (w:=w) (base:=base) Go In X Y.tuple Y.all] GW[xpM (P:=P) (w:=w) (base:=base) Wo Y.R Y.O Y.Y Y.E],Tl GS[xhS (P:=P) (w:=w) (base:=base) Sp Y.R Y.O Y.Y Y.E Y.W] GR[xaG (P:=P) (w:=w) (base:=base) (cH:=cH) (cK:=cK) (cB:=cB) (cT:=cT) (cM:=cM) (cL:=cL) Wr Se Tw Y.R.pr.H.Y X],D2 SO[λ QE A outer st H vs Q E hr h=>?_],XT a ns rfl hS VY haT k,DF hu hr.units QW F9 CJ hr8[Dk 8] CJ,tP RW hV hr43 43,A3 hr45[Dk 45] CJ hr46[Dk 46] CJ[Gy[ID 1 SO.nd[Ih GT RW Tx 0] 2 SO.nd[aE GX hr43 Pr[BO[xPr oF]]][ID 3 SO.nd[xPr AP] 4 SO.nd[dz GL hr45 Lo.m Lo.F.kp Lo.b xjd AP][Gn 5 SO.nd[yU GU Du 3][rh[PW.pt[xyp[xW[aE GG RW Go[jA 4 1]]][xyp[HX[xbj hu] Bb qK][xrm[HX xVY Ζ AZ]]]]] cu][Gn 6 SO.nd[V9[aK[aa[jH[kU Ζ xBH] wI][aa[jH Ζ[BO cu]][aa[xLA xlA Y.tuple On AP][xJ5 xwU xx7 xiM]]]]][V8[xYy Ca x6f]]][rh[FW xwO[aE GW hr46 Wo[xIW 6]]] cu][ac[nK[xIb wI] 7 SO.nd[Gn 8 SO.nd[Br GM Mi[zM[xYy Ca x6f][xS xHB]]][rh[xP7[FW xtf xHB][xW[Iw GS Sp[Wt 2 5 8]]]] cu][ID 9 SO.nd[aE GR hr8 Wr[XM 2[nj 5[xAv xNT]]]] 10 SO.nd[aE GW hr46 Wo[xIW 9]][xY3[zo[CE[pv 10]][HX xwO[pv 10][aE GW hr46 Wo[xIW 9]]]]]]]]
   (Fm[xcA JV PySem.F.slot_list_clear PySem.F.type_list_clear xhC Bb][Gz[kP[oS[xbT hu][dz GL hr45 Lo.m Lo.F.kp Lo.b xjd AP] qK][oS xVZ Ζ AZ]]])]]]]]],uU tb0 QX[CS VY bK][zE _ rfl a ns[λ H' s=>s.seq hS][λ lt T H1 s1 nlt QF hTl Ux=>AA]],CF,uU Yj yP[xHc 230 hTl][ZC lt[BN QF][UF l2 n2]],Tl s2[s1.trans[Dn rU n2]] hlt2[Dn rU n2 _ _ QF],χ tb2[tb0.same s2] (l2,T,rfl,ad,Ux,Yj,tb2,λ lw Z H4 _ hW hlw fr _=>AA),CF,υ hlt4[qy[tb2.ne hlt2 vK] hlt2] hS4[QK K H4 a Aq][by
  rcases s2.seq hS with(e|⟨o,e⟩)|h
  ·show xV2[qy haT e]
  ·show DZ[x4 o[qy haT e]]
  ·show DM h],(Rs,hN,eZ)=hW.all,Hu[Z=Gl] eZ,(hB,RT)=xX5 Ux Yj);clear hS VY haT tb0 tb2 fr s1 s2 n2 QF hlt2 hW hC hBm hK;show(vI[ZC lw[BN hlw][λ lk nk=>AA]],fw s5 dn nk U1[(qP lk Gl) lk=xOF],XF hlw[Bn hlw] QF[Bn hlt4] hS[s5.seq hS4],az H4 lk dn H5);clear s5 hS4 hlt4 nk;show(T8[BV[.good lw T Rs rfl Ux hTl hN hlw λ ld H6 Ui s6 hld=>AA]],T8 (_,rfl,lk,xOY,SV,rfl,kj U1,AT hN Ux DJ 0 rfl,(xjl hN Ux hTl).len,λ lu H7 nlu s7 hlu=>AA),xU IS hlu nud[lu≠ld][xK2 ts e hld[sF e nlu]],Tl s67 xAl hld7[hld.same s7],T8 (_,rfl,_,rfl,ld,lt,T,SV,rfl,(IS (as:=Rs) hd2).symm▸hld7,xX1 _ QF,xjl hN Ux hTl,λ H8 s8=>BV[bp (_,rfl,_,rfl,ld,lu,rfl,rfl,(hld7.same s8).two[hlu.same s8],_,rfl,bp[xou (A:=Gl) (Τ[s8 _ _[xX1 _ hlw]])[Τ[s8 _ _[xX1 _ U1]]] λ H9 s9=>BV xWY])]),Hs s79[s8.trans s9] s59[s67.trans s79] hld[hld7.same s79] hlu[hlu.same s79],Hs hlw9[s59 _ _ hlw] hlk9[s59 _ _ U1] hlt9[s59 _ _ QF] hS9[s59.seq hS],De nwd lw ld[ai hlw Ui] nkd[lk≠ld][ai U1 Ui]);clear s6 s7 s8 s9 s67 s79 s59 hld7 Ui nlu hlt9;show(SC W4[AL BQ][L7 1 _][xvZ R g],(J:tK x V H1 Hp[K' H9 H1][(vg[xEz H1][xVr H' x])->R [BL,π lt,π lw,π lk,π ld,π lu,dt,none,none,none,none] H1])=λ x H1 s1 hx=>AA)
 ·show(CF,ω[yep[fu[BQ-1]] (B:=[256]) (.uptoE (k:=1) (Τ hlw9) xMd)[.one .c][by show(EF Jc[Zg[_+1]],yE [_,_] Ω ydU Bc RT Fb)] _ Zi _[λ l1 H1 s1 h1=>?_]][xCI TY[λ lb nb=>(lw,lb,_,_,rfl,rfl,am nb _ _[IL hlw9],ad,bV[by show(EF IS[Zg[_+1]],yr 1900 SB Bc RT)],UF l2 n2)]],υ s2[(Dn xJu nb).trans[Dn[dn++xJu] n2]] h2[kS[Fj H1 lb xJu] l2[dn++xJu] l2=Az[dn++xJu]] ad,Cz[Fj[Fj H1 lb xJu] l2[dn++xJu]] H2[mO _ lw _ rfl[Zp[QK.of[xXu hlw9]][UF l3 n3]]],xGb s3[Zj dn n3] h3[jB[(GJ l3 dn) l3] dn] ad[GJ l3 dn] H3);intro l6 n6;show(υ s6[x8Q xMG n6] h6[TD[(upd H3 l6 xMG) l6] xMG] ad,Cz[upd H3 l6 xMG] H6[nU[xj 6] l7 n7],fw s7 [x4F,xVv,xVu,.non,xUX,xVt] n7 h7[kS H6 l7 [x4F,xVv,xVu,.non,xUX,xVt] l7=Az [x4F,xVv,xVu,.non,xUX,xVt]],az H6 l7 [x4F,xVv,xVu,.non,xUX,xVt] H7,Hs s67 xAl s37[s3.trans s67] s27[s2.trans s37] s17[s1.trans s27],xWK[s17.seq hS9] .c[Hy n])
  obtain⟨j,ej,hj⟩:∃j:Nat,n%6=xIx/\j<6:=((n%6).toNat,by omega,by omega);refine yo _ _ rfl[HA[FX<6]] ?_
  try dsimp only
  show([ej],aD x hx hN' x[u9 [xAW,xVv,xVu,.non,xUX,xVt] x/\vg[xEz H7][xVr H' x]][by
   rcases j with _|_|_|_|_|_|j
   ·show(BV[λ _ s=>xmV (ns:=fu[BQ-1]) (ys:=[]) (y:=vN 256) ?_[IB[hB y[JK hy]]][xQL 256 rfl]],Ai[FV[s27 _ _ h1]] Ji)
   ·show BK[λ _ s=>xmV (ns:=Gl) (FV[s37 _ _ h2]) hB[.inr[Gs x5]]]
   ·show BK[λ _ s=>xWX[.tup[FV[xX1 _ h3]]] x8x]
   ·show BK[λ _ _=>xWX .non x8x]
   ·show BK[λ _ _=>xWX[.str _] x8x]
   ·show BK[λ _ s=>xWX[.dK[FV[xJU h6]]] x8x]
   ·show rB[xwB xG4] xN0 hj],u7 l7 _ _ x[QK.of h7][aA hx][J x H7 s17 hN'])
 show(CF,HV g[BV[.row x rfl hx λ H2 s2=>aT _ xWY]])
 clear g hx;have s2:=Fy;clear s1;show HV g[cm rfl[by decide][by decide][xlM (n:=4) (D:=Ws) (λ _ σ H3=>∃v7 v8 v9 v10,σ=[BL,π lt,π lw,π lk,π ld,π lu,dt,v7,v8,v9,v10]/\K' H9 H3) (none,none,none,none,rfl,s2) ?_ ?_]]
 ·rintro i σ H3 hi ⟨v7,v8,v9,v10,rfl,s3⟩;show(CF,lP[xwc _ _ _ [BL,π lt,π lw,π lk,π ld,π lu,dt,xAB[0+xJ],v8,v9,v10] H3] Qj,vI[xWK[s3.seq hS9] .c λ n=>xtV (k:=i+1) (xSh Τ)[Ay DU SB[.n 4] SB Dm hi] λ m=>AA],DK[xvZ R g] J[∀H4,K' H9 H4->R [BL,π lt,π lw,π lk,π ld,π lu,dt,Α i,CB,v9,v10] H4][λ H4 s4=>AA])
  ·show(CF,(xxK.of[.lt (m:=i) (n:=2) Τ .c]) H3 Zi _[xA7 (_,rfl,_,rfl,_,rfl,lw,lu,T,Rs,m,rfl,Ge hlw9,hlu.same s3,hN,Ux,Yj,λ H4 s4=>BV[bp[J H4 xFi]])[λ _=>bp[J H3 s3]]])
  show(xPW[SU[Pv.go[qb m 7] (lw,lu,T,Rs,m/7,rfl,X4 hlw9,hlu.same s4,hN,Ux,hTl,λ l L j H5 s5 h5 hj S6=>AA)]],T8[BV[.bad l L 0 j rfl h5 S6.b S6.l S6.h λ H6 s6=>AA]],SC e8[AG[CG j 8]][Kh[by omega]][(xxK.of[.eq (m:=j) (n:=8) Τ .c]) H6 Zi _ ?_],Γ e8[bp[SU[.bad l L 1 j rfl x5R S6.b S6.l S6.h λ H7 s7=>aT _ ?_]]],LT gU[bp[vE _ _ _ rfl[s4.trans[s5.trans xAl]]]])
 ·rintro σ H3 ⟨v7,v8,v9,v10,rfl,s3⟩;refine AA;clear g s2;show((ts,htd,_)=hld.same s3,hlu3=hlu.same s3,vI (_,rfl,xq htd,ld,_,rfl,rfl,htd,AA),(kp:∀c o,xJC->Uz[FL ld][kS H3 ld [] c])=λ c o e n=>tJ e,XF hlu4[hlu3.keep kp[EX htd] nud] hlw4[Bo[Ge hlw9] nwd] hlk4[Bo[Ge hlk9] nkd],Cz[Fj H3 ld []] H4[BV[.good lw T Rs rfl Ux hTl hN hlw4 λ l5 H5 _ s5 h5=>(_,rfl,l5,lu,rfl,rfl,h5.two[hlu4.same s5],_,rfl,Zy)]],xvf (A:=Gl) (Τ[Bn hlw4])[Τ[Bn hlk4]] λ H6 _=>k H6)
universe K27.Ck
namespace K27.Ck
open PySem L2 QQ
section
variable {K:Frag}{mg:Ι}{h:Qz}
def Sa.i {x qu:Str}{st:QC}{f:Qq}{oc dV:Qr}{od an:FG}{sl:xwK}{kV dc pm cd ct:Qr}(l:xSs xPg)(c:xJ6 cd qu)(k:ZI):xEs x qu f xPg:=((oc,od,kV,dc,pm,an,cd,ct,sl,rfl,l,c),k)
def xwg.i {x qu:Str}{st:QC}{f cd:Qq}{oc dV:Qr}{od an:FG}{sl:xwK}{kV dc pm ct:Qr}(l:xSs[xGA x qu xFZ])(c:xJ6 xFZ qu)(k:ZI):xwg K x qu st dV cd f[xGA x qu xFZ]:=((oc,od,kV,dc,pm,an,ct,sl,rfl,l,c),k)
def tabI {x:Str}{d:Qq}{p q:Int}{t1 t2 t3 t4:Tok}{ep:Nat}(X:gR)(G:xB8)(a:TD[xQ3 x] zm)(l:xSD d (x1q,none,x43 #[xNO 8 8 t1[x8f p],xNO 16 16 t3[.int q t4]],#[]))(s:ycy d):∃d,nO=zm/\xxD K d p q:=(d,xD2,s,t1,t2,t3,t4,ep,l)
def markI {x:Str}{d:Qq}{t1 t2 t3:Tok}{od:FG}{n:Nat}{sl:xwK}(X:gR)(G:xB8)(a:TD[xQ3 x] zm)(l:xSD d (xKR,od,.seq #[.int 184 t1,x8f 66,.int 1 t3] n,sl)):∃d,nO=zm/\∀H,w4 d [xG5,xHZ,CC]:=(d,xD2,x20[Hx _ _ _ l rfl[xj 3][.cons CQ[pM CQ CQ]]])
def nI {x:Str}{n:Int}{t:Tok}(X:gR)(G:xB8)(a:TD[xQ3 x][some[Ud n]]):IE x n:=(t,xD2)
section
variable {x qu:Str}{st:QC}{ps:CI}{f C:Qq}{oc dV:Qr}{od an:FG}{sl:xwK}{kV dc pm cd ct:Qr}(l9:xSs xPg)(c9:xJ6 cd qu)(k9:ZI)
include l9 c9 k9
def inI (e:dV=.none)(b:fF xPg [])(m:xFC K C)(a:xFr K C4 kZ)(i:xSj)(q:xv2 K C4):IG[Bq x qu st/\vc/\Sq]:=yA[cm _[fun_mk l9 c9 k9] b (m,a,i,q)]
def ciI (b:fF xPg [])(m:xFC K C)(a:xFr K C4 kZ)(i:xSj)(q:xv2 K C4):∃f fd dV,xEs x qu f fd/\vc/\Sq:=vE _ _ xY0 b (m,a,i,q)
def cdI {n:Int}{t:Tok}(d:fF xPg [Ud n])(m:xFC K C)(a:xFr K C4 kZ)(i:xSj)(q:xv2 K C4):∃f fd t,CU dV[xEs x qu f fd]/\xMl [Ud n]/\Sq:=vE _ _[EX xY0] d (m,a,i,q)
universe s
section
variable {x:Str}{st:QC}{ps:CI}{f:Qq}{oc dV:Qr}{od an:FG}{sl:xwK}{kV dc pm cd ct:Qr}(X:gR)(G:xB8)(a:TD[xQ3 x] kZ)(l9:xSs xXF)(c9:xJ6 cd x)(k9:ZI)(b:fF xXF [])
include X G a l9 c9 k9 b
def fdI (d:fF xXF xVq):IG[xW3 x st ps f fd]:=vE _[EX xY0] xD2 b d
def flI {t:Tok}(d:fF xXF [Ud 6]):IG[K27.S.FnL K mg x st ps f fd]:=(_,_,EX xY0,xD2,b,_,d)
def fkI {t:Tok}(d:fF xXF [Ud 16]):IG[FnK K mg x st ps f fd]:=(_,_,EX xY0,xD2,b,_,d)
universe s
def fcI {x:Str}{st:QC}{ps:CI}{f cd:Qq}{oc dV:Qr}{od an:FG}{sl:xwK}{kV dc pm ct:Qr}(X:gR)(G:xB8)(a:TD[xQ3 x] kZ)(l:xSs[xGA x x xFZ])(c:xJ6 xFZ x)(k:ZI)(b:fF[xGA x x xFZ] [])(d:fF[xGA x x xFZ] xVq):∃f fd dV,xwg K x x st dV cd f fd/\nO=kZ/\vc/\xMl xVq:=(_,_,_,xwg.i l c k,xD2,b,d)
def m0 {P:BY Cb}(h:P []):∀us:Cb,xAT 0->P us:=λ us hl=>by
 cases us with
 |nil=>show j8
 |cons a us=>cases hl
def mS {n:Nat}{P:BY Cb}(h:∀a (us:Cb),xAT n->P[a::us]):∀us:Cb,xAT[n+1]->P us:=λ us hl=>by
 cases us with
 |nil=>cases hl
 |cons a us=>exact h a us[Nat.succ.inj hl]
def e1 {us:Cb}(h:xAT 1):∃a,us=uP:=mS (P:=λ us=>∃a,us=uP) (λ a=>m0[Gs a]) us h
def e2 {us:Cb}(h:xAT 2):∃a b,us=[a,b]:=mS (P:=λ us=>∃a b,us=[a,b]) (λ a=>mS λ b=>m0[ni a b]) us h
def b2 {fd:Qx}{p q:Str}(h:∀(s:Qu) (a b:Qr),o8->xIC s [a,b] [((p,a)),((q,b))]):lL [p,q]:=λ s us hX hl=>by
 show(Dr a b[e2[show xAT 2 by show ycl]],h s a b hX)
def b1 {fd:Qx}{p q:Str}{v:Qr}(h:tK s Qu a Qr o8[xIC s uP [((p,a)),((q,v))]]):xEB K [p,q] [v]:=λ s us hX hl=>xzS a[e1[show xAT 1 by show ycl]][h s a hX]
def xgR {α β:Type}{F:α->BY β}{xs:EW}{ys:yeS}(h:Paired F xs ys):xP3 i x α y β[ue->AD ys y->F x y]:=by
 induction h with
 |nil=>intro i x y h1;show xAJ
 |cons r _ ih=>
  intro i x y h1 h2;cases i with
  |zero=>show xJj r
  |succ i=>exact ih i x y h1 h2
def xwN {f:Qq->xLd}{cs:AH}{n k:Nat}(h:cs.map f=xJi[λ j=>some[CG j k]]):tK i Nat c Qq x7W[TD[f c][CG i k]]:=λ i c e=>by
 show YE[yeM[λ l:List xLd=>l[i]?]];simp only [Jw,e,MS] at z;show((hi:i<n)=by
  show iq i n q q
  ·show HL
  ·show qX[J6[vM LA]],Ε[Mp hi] z[JA z])
def ers {p e0 e1 e2 e3 e4 e5 e6 e7:Qq}(q0:yj7=π e0)(q1:yj8=π e1)(q2:yjr=π e2)(q3:xK4=π e3)(q4:yj9=π e4)(q5:xFo=π e5)(q6:x3y=π e6)(q7:ybG=π e7)(m:yie=u5)(x:yM p)(v:yif)(a0:xDT e0)(c0:oC e0)(f0:xCF K e0)(i0:(xDS [e0,e1,e2,e3,e4,e5,e6,e7] c e0)=xDQ j j 0)(a1:xDT e1)(c1:oC e1)(f1:xCF K e1)(i1:(xDS [e0,e1,e2,e3,e4,e5,e6,e7] c e1)=xDQ j j 1)(a2:xDT e2)(c2:oC e2)(f2:xCF K e2)(i2:(xDS [e0,e1,e2,e3,e4,e5,e6,e7] c e2)=xDQ j j 2)(a3:xDT e3)(c3:oC e3)(f3:xCF K e3)(i3:(xDS [e0,e1,e2,e3,e4,e5,e6,e7] c e3)=xDQ j j 3)(a4:xDT e4)(c4:oC e4)(f4:xCF K e4)(i4:(xDS [e0,e1,e2,e3,e4,e5,e6,e7] c e4)=xDQ j j 4)(a5:xDT e5)(c5:oC e5)(f5:xCF K e5)(i5:(xDS [e0,e1,e2,e3,e4,e5,e6,e7] c e5)=xDQ j j 5)(a6:xDT e6)(c6:oC e6)(f6:xCF K e6)(i6:(xDS [e0,e1,e2,e3,e4,e5,e6,e7] c e6)=xDQ j j 6)(a7:xDT e7)(c7:oC e7)(f7:xCF K e7)(i7:(xDS [e0,e1,e2,e3,e4,e5,e6,e7] c e7)=xDQ j j 7):xZj p [e0,e1,e2,e3,e4,e5,e6,e7]:=by
 show SC pm[Paired[λ(x:Str) (c:Qq)=>nO=π c] ["BadMark","BadHead","BadCheck","BadBody","BadTail","Behind","Cut","BadRow"] [e0,e1,e2,e3,e4,e5,e6,e7]][xFY q0 q1[xFY q2 q3[xFY q4 q5[pM q6 q7]]]][yo v m x[λ i x c h1 h2=>xgR pm i x c h1 h2][Μ i c hc]];rcases i with _|_|_|_|_|_|_|_|i<;>cases hc
 ·show E3 a0 c0 f0[xwN i0]
 ·show E3 a1 c1 f1[xwN i1]
 ·show E3 a2 c2 f2[xwN i2]
 ·show E3 a3 c3 f3[xwN i3]
 ·show E3 a4 c4 f4[xwN i4]
 ·show E3 a5 c5 f5[xwN i5]
 ·show E3 a6 c6 f6[xwN i6]
 ·show E3 a7 c7 f7[xwN i7]
universe s
def hd {l:PySem.W.OpenLaw}{w:Qw}{K:Frag}{h:Qz}{mg:Ι}{fa f B C0 C1 C2 C3 c CK QP cO cQ cA cG cE cV cM cH cK cB cT cL cC cR cN cP Tb:Qq}{od an:FG}{sl:xwK}{oc kV dc pm cd ct:Qr}(hKT:yX)(X:gR)(G:xB8)(hfa:mg "law"=π fa)
  (a:TD[xQ3 "law"] kZ) (lk:xSs[fnOf "law" "law"[xrw pd][xtk pd][xtl pd] .none kV dc pm an cd ct]) (cc:xJ6 cd "law") (kk:ZI) (R0':yh) (R1':yh->xOX) (R2':xOX->K27.Wins K mg) (R3':K27.Wins K mg->K27.Wys K mg) (R4':K27.xyI K mg B) (R5':xOX->K27.xyI K mg B->K27.Bts K mg B) (R6':yh->K27.Shs K mg) (R7':yh->ybH mg) (R8':yh->ybH mg->ybB mg 0) (R9':ybB mg 0->K27.Cds K mg 0 0) (R10':K27.Wys K mg->K27.Bts K mg B->K27.Shs K mg->K27.Cds K mg 0 0->K27.Shw K mg B 0 0) (R11':xDC C0 0) (R12':xDC C0 0->K27.Raw K mg C0 0) (R13':xDC C1 0) (R14':xDC C1 0->K27.Run K mg C1 0) (R15':xDC C2 0) (R16':xDC C2 0->K27.Cpy K mg C2 0) (R17':xDC C3 0) (R18':xDC C3 0->K27.Shr K mg C3 0) (R19':K27.Shw K mg B 0 0->K27.Raw K mg C0 0->K27.Run K mg C1 0->K27.Cpy K mg C2 0->K27.Shr K mg C3 0->ydj mg B 0 0 0 C0 C1 C2 C3) (R20':xOX->ykf mg) (R21':K27.Ck.xyH K mg CK) (R22':ykf mg->K27.Ck.xyH K mg CK->ykg mg CK) (R23':ykg mg CK->x1H mg CK) (R24':ybI mg QP) (R25':ydj mg B 0 0 0 C0 C1 C2 C3->x1H mg CK->ybI mg QP->ykh mg B 0 0 0 C0 C1 C2 C3 c CK QP) (R26':x1H mg CK->ya9 mg CK cO) (R27':K27.Ck.xzx K mg cQ) (R28':ykh mg B 0 0 0 C0 C1 C2 C3 c CK QP->ya9 mg CK cO->K27.Ck.xzx K mg cQ->yki mg B 0 0 0 C0 C1 C2 C3 c CK QP cO cQ) (R29':ykj mg cM cH cK cT) (R30':x1H mg CK->ybI mg QP->xOX->yba mg CK QP) (R31':yba mg CK QP->ya9 mg CK cO->ykk mg CK QP cO) (R32':K27.CRd K mg cA) (R33':xOX->K27.CRd K mg cA->ykl mg cA) (R34':yh->ykm mg) (R35':K27.C.CRc K mg cG) (R36':yh->ybH mg->K27.C.CRc K mg cG->ybE mg cG) (R37':ykl mg cA->ykm mg->ybE mg cG->ykn mg cA cG) (R38':ykn mg cA cG->yjy mg cA cG C0 C1 C2 C3) (R39':yba mg CK QP->yjy mg cA cG C0 C1 C2 C3->yko mg CK QP cA cG C0 C1 C2 C3) (R40':ykp mg cE) (R41':ykj mg cM cH cK cT->ykk mg CK QP cO->yko mg CK QP cA cG C0 C1 C2 C3->ydj mg B 0 0 0 C0 C1 C2 C3->ykp mg cE->K27.Ck.xtq K mg B 0 0 0 C0 C1 C2 C3 CK QP cO cA cG cE cM cH cK cT) (R42':ykq mg cV) (R43':ykr mg cB cN) (R44':yks mg) (R45':ykr mg cB cN->yks mg->ykt mg cB cN cL cC cR) (R46':yku mg) (R47':yki mg B 0 0 0 C0 C1 C2 C3 c CK QP cO cQ->K27.Ck.xtq K mg B 0 0 0 C0 C1 C2 C3 CK QP cO cA cG cE cM cH cK cT->ykq mg cV->ykt mg cB cN cL cC cR->yku mg->K27.Ck.All K mg B 0 0 0 C0 C1 C2 C3 c CK QP cO cQ cA cG cE cV cM cH cK cB cT cL cC cR cN cP):
  ∃fd:Qx,(∀(s:Qu) (v:Qr),xIC s [v] [(("_law_script",v))])/\∀base:Qz,yc8->xYu->Vn->jQ->uM l.prog w K QM 48 fa fd xz5[xzh K Tb]:=by
 show(Y7[hfa.symm.trans xD2],xCN,Hs R0 R0' R1[R1' R0] R2[R2' R1] R3[R3' R2],Hs R4 R4' R5[R5' R1 R4] R6[R6' R0] R7[R7' R0],Hs R8[R8' R0 R7] R9[R9' R8] R10[R10' R3 R5 R6 R9] R11 R11',Hs R12[R12' R11] R13 R13' R14[R14' R13] R15 R15',Hs R16[R16' R15] R17 R17' R18[R18' R17] R19[R19' R10 R12 R14 R16 R18],Hs R20[R20' R1] R21 R21' R22[R22' R20 R21] R23[R23' R22],Hs R24 R24' R25[R25' R19 R23 R24] R26[R26' R23] R27 R27',Hs R28[R28' R25 R26 R27] R29 R29' R30[R30' R23 R24 R1] R31[R31' R30 R26],Hs R32 R32' R33[R33' R1 R32] R34[R34' R0] R35 R35',Hs R36[R36' R0 R7 R35] R37[R37' R33 R34 R36] R38[R38' R37] R39[R39' R30 R38],Hs R40 R40' R41[R41' R29 R31 R39 R19 R40] R42 R42' R43 R43',Hs R44 R44' R45[R45' R43 R44] R46 R46' R47[R47' R28 R41 R42 R45 R46],Dj[fnOf "law" "law"[xrw pd][xtk pd][xtl pd] .none kV dc pm an cd ct][λ s v=>.of_eq rfl][λ base _ _ hC hB=>xcD[fun_mk (st:=pd) lk cc kk] R47 hC hB hKT])
def walk {l:PySem.W.OpenLaw}{q:Qv}{loose:CI}{XP:(Ι)->BY Qz}{YP:Qw->BY Qz}{d:DefRec}{K:Params->Frag}{Tb c:Qq}(hn:x31 63)(hdf:yag [])
  (hY:tK w Qw h Qz[YP w h][xNf h/\jI Tb[PySem.W.tabObj #[]]]) (hKT:∀w:Qw,o4 qD Tb)
  (F:∀(w:Qw) (mg:Ι) (fa:Qq) (h:Qz),xNf h->xB8->ydb=π fa->
   ∃fd:Qx,(∀(s:Qu) (u:Qr),xIC s YG [(("_law_script",u))])/\∀base:Qz,xNf base->xYu->Vn->jQ->uM l.prog w qD QM 48 fa fd xz5[xzh qD Tb])
  (hC:∀w:Qw,Ty[PySem.W.codeHdIn qD c Tb]):
  yib loose XP YP l.row.toRowW d [][λ f vs=>ya0 vs]:=
 L2.walk_ofT (n:=63) (k:=48) (x:="_law_script") (sp:=λ w=>xzh qD Tb) hn[by decide] hdf (QO,by decide,by decide,rfl) hY hC hKT F λ _ H a ns hl hS hT na=>(a,ns,rfl,hS,hT,na,QO)
universe K27.Ck
end
end
open PySem PySem.W PyProof.Rows
section
local macro_rules|`(example:=[$x,*])=>return Lean.mkNullNode (← x.getElems.flatMapM λ x=>do
 let s:=x.raw
 let k:=s[0].getId.toString
 let a:=s[1].getArgs.map (·.isNatLit?.getD 0)
 let a:=if k=="o" then (List.range (a[1]!-a[0]!+1)).toArray.map (·+a[0]!) else a
 (match s.isNatLit? with|some h=>#[h]|_=>a.map λ i=>(Lean.Name.mkStr `PySem.Challenge.cw_balepress_k27_looks_holds s!"{k}_{i}").hash.toNat).mapM λ h=>return (← `(command|def $(Lean.mkIdent (.mkStr `PySem.W.Fast s!"tw{h}")):ident:=True)).raw.rewriteBottomUp λ s=>match s with|.atom _ v=>.atom .none v|.ident _ r v p=>.ident .none r v p|.node _ k a=>.node .none k a|s=>s)
example:=[env 41,heap 39 46 1464,o 43 46,o 49 466,o 469 1463,sts 49 64 79 94 109 124 139 154 169 184 199 214 229 244 259 274 324 347 398 456 469 529 603 647 720 785 829 863 899 935 984 1043 1082 1133 1184 1249 1305 1363 1448,tree 47 63 78 93 108 123 138 153 168 183 198 213 228 243 258 273 323 346 397 455 466 528 602 646 719 784 828 862 898 934 983 1042 1081 1132 1183 1248 1304 1362 1447 1463,view 39,12455362845746088448,7034669958111903845,9495566776194287917,6921038936678165867,4202609314498594416,10534771500262503367]
end
noncomputable def Hk4.g (s:PySem.Shared)(k:Nat)(a:List PySem.Addr):=((a.drop k).take 190).map s.heap.get?
noncomputable def Hk4.l (s:PySem.Shared)(k:Nat)(a:List PySem.Addr):=(a.drop k).map s.heap.get?
noncomputable def Hk4.u (k:Nat)(a:PySem.W.Frag):=((a.drop k).take 190).map fun p=>some p.2
noncomputable def Hk4.v (k:Nat)(a:PySem.W.Frag):=(a.drop k).map fun p=>some p.2
theorem Hk4.cut {s:PySem.Shared}{a:List PySem.Addr}{b:PySem.W.Frag}(k:Nat)(x:Hk4.g s k a=Hk4.u k b)(y:Hk4.l s (k+190) a=Hk4.v (k+190) b):Hk4.l s k a=Hk4.v k b:=by
 unfold Hk4.g Hk4.u at x
 unfold Hk4.l Hk4.v at *
 rw[← List.take_append_drop 190 (a.drop k),← List.take_append_drop 190 (b.drop k),List.map_append,List.map_append,x,List.drop_drop,List.drop_drop,y]
theorem Hk4.of {K:PySem.Params->PySem.W.Frag}{as:List PySem.Addr}(e:∀P,as=(K P).map (·.1))(ts:List PySem.Addr)(w:PySem.World)(s:PySem.Shared)(z:(Hk4.g s 0 as,Hk4.g s 190 as,Hk4.g s 380 as,Hk4.l s 570 as,ts.map s.heap.get?)=(Hk4.u 0 (K w.params),Hk4.u 190 (K w.params),Hk4.u 380 (K w.params),Hk4.v 570 (K w.params),ts.map (fun _=>some (PySem.W.tabObj #[])))):PySem.W.InK K w s.heap/\∀P∈ts,s.heap.get? P=some (PySem.W.tabObj #[]):=by
 simp only[Prod.mk.injEq] at z
 exact ⟨.of e w s (Hk4.cut 0 z.1 (Hk4.cut 190 z.2.1 (Hk4.cut 380 z.2.2.1 z.2.2.2.1))),List.map_inj_left.mp z.2.2.2.2⟩
local macro_rules|`(tactic|refine $f:ident $a1 $a2 $a3 $a4 $y $v $yp $n $hl ($o:ident ($h:ident $k $a $p $ts)) $t*)=>`(tactic|refine' $f $a1 $a2 $a3 $a4 (Yf:=fun s=>(Hk4.g s 0 $a,Hk4.g s 190 $a,Hk4.g s 380 $a,Hk4.l s 570 $a,($ts).map s.heap.get?)) (Ya:=fun w=>(Hk4.u 0 ($k w.params),Hk4.u 190 ($k w.params),Hk4.u 380 ($k w.params),Hk4.v 570 ($k w.params),($ts).map (fun _=>some (PySem.W.tabObj #[])))) $yp $n $hl (Hk4.of $p $ts) $t*)
set_option maxRecDepth 100000 in
set_option maxHeartbeats 0 in
theorem PySem.Challenge.cw_balepress_k27_looks_holds : PySem.Challenge.rw_balepress_k27_looks.Holds := by
 w_on;o_law;k_head;(case hw=>w_witness2)
 k_fill
 refine' K27.Ck.walk (l:=PySem.Challenge.rw_balepress_k27_looks) rfl rfl (λ w h Y=>⟨PySem.W.km_in_of Y,PySem.W.km_tabs_of Y _ List.mem_cons_self⟩) ?hKT ?F ?hC
 case hKT=>intro w;kernel_rfl
 case F=>
  intro w mg fa h KX G hmg
  refine' K27.Ck.hd (by kernel_rfl) KX G hmg ?a ?l ?c ?k ⟨?_,?_,?_,?_,?_,?_,?_,?_,?_,?_,?_,?_,?_,?_,?_,?_,?_,?_,?_,?_,?_,?_,?_,?_,?_,?_,?_,?_⟩ (λ R0=>⟨R0,?_,?_,?_⟩) (λ R1=>⟨R1,?_,?_,?_,?_⟩) (λ R2=>⟨R2,?_,?_,?_⟩) ⟨?_,?_,?_,?_⟩ (λ R1 R4=>⟨R1,R4,?_,?_,?_,?_,?_,?_,?_,?_⟩) (λ R0=>⟨R0,?_,?_,?_,?_,?_,?_,?_,?_⟩) (λ R0=>⟨R0,?_,?_,?_,?_⟩) (λ R0 R7=>⟨R0,R7,?_,?_⟩) (λ R8=>⟨R8⟩) (λ R3 R5 R6 R9=>⟨R3,R5,R6,R9,?_,?_,?_,?_,?_⟩) ⟨?_,?_,?_⟩ (λ R11=>⟨R11,?_,?_,?_⟩) ⟨?_,?_,?_⟩ (λ R13=>⟨R13,?_,?_,?_⟩) ⟨?_,?_,?_⟩ (λ R15=>⟨R15,?_,?_,?_⟩) ⟨?_,?_,?_⟩ (λ R17=>⟨R17,?_,?_,?_⟩) (λ R10 R12 R14 R16 R18=>⟨R10,?_,R12,R14,R16,R18,?_⟩) (λ R1=>⟨R1,?_,?_⟩) ⟨?_,?_,?_,?_⟩ (λ R20 R21=>⟨R20,R21,?_,?_,?_,?_,?_,?_,?_⟩) (λ R22=>⟨R22,?_,?_,?_,?_⟩) ⟨?_,?_,?_,?_,?_,?_,?_⟩ (λ R19 R23 R24=>⟨R19,R23,R24,?_,?_⟩) (λ R23=>⟨R23,?_,?_,?_,?_,?_,?_,?_,?_,?_,?_,?_,?_,?_,?_⟩) ⟨?_,?_,?_,?_,?_,?_,?_⟩ (λ R25 R26 R27=>⟨R25,R26,R27,?_,?_,?_,?_,?_,?_,?_,?_⟩) ⟨?_,?_,?_,?_,?_,?_,?_,?_⟩ (λ R23 R24 R1=>⟨R23,R24,R1,?_,?_,?_,?_,?_⟩) (λ R30 R26=>⟨R30,R26,?_,?_,?_,?_,?_,?_,?_,?_,?_,?_,?_,?_⟩) ⟨?_,?_,?_⟩ (λ R1 R32=>⟨R1,R32,?_,?_,?_,?_,?_,?_,?_,?_,?_⟩) (λ R0=>⟨R0,?_,?_,?_,?_⟩) ⟨?_,?_,?_⟩ (λ R0 R7 R35=>⟨R0,R7,?_,?_,?_,R35⟩) (λ R33 R34 R36=>⟨R33,R34,?_,?_,?_,R36,?_,?_,?_,?_,?_⟩) (λ R37=>⟨R37,?_,?_,?_,?_⟩) (λ R30 R38=>⟨R30,R38,?_,?_,?_,?_,?_,?_,?_,?_⟩) ⟨?_,?_,?_,?_,?_,?_⟩ (λ R29 R31 R39 R19 R40=>⟨R29,R31,R39,R19,R40,?_,?_,?_,?_,?_,?_,?_,?_⟩) ⟨?_,?_,?_,?_,?_,?_,?_⟩ ⟨?_,?_,?_,?_,?_,?_⟩ ⟨?_,?_,?_,?_⟩ (λ R43 R44=>⟨R43,?_,?_,?_,?_,?_,?_,R44,?_,?_⟩) ⟨?_,?_,?_⟩ (λ R28 R41 R42 R45 R46=>⟨R28,R41,R42,R45,?_,R46,?_,?_,?_,?_,?_,?_,?_,?_,?_,?_,?_,?_,?_⟩)
  (case a=>k_is);(case l=>k_is);(case c=>k_is);(case k=>k_is)
  all_goals try (refine' K27.Ck.ers ?_ ?_ ?_ ?_ ?_ ?_ ?_ ?_ ?_ ?_ ?_ ?_ ?_ ?_ ?_ ?_ ?_ ?_ ?_ ?_ ?_ ?_ ?_ ?_ ?_ ?_ ?_ ?_ ?_ ?_ ?_ ?_ ?_ ?_ ?_ ?_ ?_ ?_ ?_ ?_ ?_ ?_ ?_)
  all_goals try (refine' mg_of KX G ?_;k_is)
  all_goals try (refine' PySem.W.mg_none_of KX G ?_;k_is)
  all_goals try (refine' K27.Ck.nI KX G ?a;case a=>k_is)
  all_goals try ((first|(refine' ⟨_,_,L2.fun_mk ?l ?c ?k,mg_of KX G ?a,.all ?b⟩;case a=>k_is)|(refine' ⟨_,_,L2.fun_mk ?l ?c ?k,⟨?a,?i,?k⟩,.all ?b⟩;(case a=>k_is);case i=>k_is));(case l=>k_is);(case c=>k_is);(case k=>k_is);(case b=>((repeat refine' K27.Ck.mS λ _=>?_);exact K27.Ck.m0 rfl)))
  all_goals try (refine' K27.Ck.inI ?l1 ?c1 ?k1 ?e1 (.all ?b1) ?m1 ?a1 ?i1 ?q1;(case a1=>k_is);(case l1=>k_is);(case c1=>k_is);(case k1=>k_is);(case m1=>k_is);(case i1=>k_is);(case q1=>k_is);(case e1=>rfl);(case b1=>((repeat refine' K27.Ck.mS λ _=>?_);exact K27.Ck.m0 rfl)))
  all_goals try ((first|refine' K27.Ck.fdI KX G ?a ?l ?c ?k ?b ?d|refine' K27.Ck.flI KX G ?a ?l ?c ?k ?b ?d|refine' K27.Ck.fkI KX G ?a ?l ?c ?k ?b ?d|refine' K27.Ck.fcI KX G ?a ?l ?c ?k ?b ?d);(case a=>k_is);(case l=>k_is);(case c=>k_is);(case k=>k_is);(case b=>refine' K27.Ck.b2 λ s _ _ hX=>binds_K hX ?x ?t ?y ?z ?w;(case x=>rfl);(case t=>k_is);(case y=>rfl);(case z=>rfl);case w=>rfl);(case d=>refine' K27.Ck.b1 λ s _ hX=>binds_K hX ?x ?t ?y ?z ?w;(case x=>rfl);(case t=>k_is);(case y=>rfl);(case z=>rfl);case w=>rfl))
  all_goals try (refine' K27.Ck.ciI ?l2 ?c2 ?k2 ?d2 ?m2 ?a2 ?i2 ?q2;(case a2=>k_is);(case l2=>k_is);(case c2=>k_is);(case k2=>k_is);(case m2=>k_is);(case i2=>k_is);(case q2=>k_is);(case d2=>refine' K27.Ck.b2 λ s _ _ hX=>binds_K hX ?x ?t ?y ?z ?w;(case x=>rfl);(case t=>k_is);(case y=>rfl);(case z=>rfl);case w=>rfl))
  all_goals try (refine' K27.Ck.cdI ?l3 ?c3 ?k3 ?d3 ?m3 ?a3 ?i3 ?q3;(case a3=>k_is);(case l3=>k_is);(case c3=>k_is);(case k3=>k_is);(case m3=>k_is);(case i3=>k_is);(case q3=>k_is);(case d3=>refine' K27.Ck.b1 λ s _ hX=>binds_K hX ?x ?t ?y ?z ?w;(case x=>rfl);(case t=>k_is);(case y=>rfl);(case z=>rfl);case w=>rfl))
  all_goals try (refine' K27.Ck.markI KX G ?a ?l;(case a=>k_is);case l=>k_is)
  all_goals try k_is
  all_goals try (refine' K27.Ck.tabI KX G ?a ?l ?s;(case a=>k_is);(case l=>k_is);case s=>rfl)
  all_goals try (first|refine' K27.Ck.Exc1.mk ?_ ?_ ?_|refine' L2.Cls.mk ?_ ?_ ?_ ?_|refine' L2.MkB.mk ?_ ?_ ?_|refine' L2.ExI.mk ?_ ?_ ?_ ?_ ?_ ?_ ?_ ?_|unfold L2.NoAttr)
  all_goals try k_is
  all_goals try ((first|refine' K27.Ck.b2 λ s _ _ hX=>binds_K hX ?x ?t ?y ?z ?w|refine' K27.Ck.b1 λ s _ hX=>binds_K hX ?x ?t ?y ?z ?w);(case x=>rfl);(case t=>k_is);(case y=>rfl);(case z=>rfl);case w=>rfl)
  all_goals try ((repeat refine' K27.Ck.mS λ _=>?_);exact K27.Ck.m0 rfl)
  all_goals try unfold L2.ExC
  all_goals try kernel_rfl
  all_goals decide
 case hC=>intro w;kernel_rfl

import PyProof.Rows.All
import Wide.All
import OpenK.AllK
import Wide.FinOn
import PyProof.EqAt
import PyProof.EqKinds
import PyProof.TupleCall
import PyProof.Seq
import PyProof.RangeIter
import PyProof.TupleIter
import PyProof.Rows.TupIter
import PyProof.StationsW
import PyProof.ExcClass2
import PyProof.NeKinds
import PyProof.Rows.TupMore
import PyProof.AutoSeq1
import PyProof.ZipIter
import PyProof.StrWalks
import PyProof.StrBlock2
import PyProof.StrBlockI
import PyProof.StrLaws
import PyProof.SliceStr2
import PyProof.Rows.Range3
import PyProof.Rows.StrRev
import PyProof.ConsumeWalk
import PyProof.Rows.SortShellK
import PyProof.Rows.SortRev
import PyProof.SeqI3
import KE.KEqDict
import PyProof.FString
import PyProof.ReprRoads
import PyProof.ReprLen
import PyProof.CallFns
import Lean
import PySem.Challenge.RW_balepress_k12_tables_refused
set_option Elab.async false
set_option linter.all false
set_option maxRecDepth 100000
namespace QQ
open PySem PyProof.Rows
/-! ## iterators' ends where an error may be in hand: it has no error behind it -/
/-- an error's record, and what stands behind it: nothing, or one that has nothing behind it -/
def Cx2 (h : Heap) (a : Addr) (vs : Array Value) : Prop := vs[2]? = some Value.none ∨ ∃ b ob us, vs[2]? = some (.ref b) ∧ b ≠ a ∧ h.get? b = some ob ∧ ob.data = .fields us ∧ 6 ≤ us.size ∧ us[2]? = some Value.none
/-- no error in hand, or one that has none behind it, or one only -/
def Hq (A : Around) (h : Heap) : Prop := A.handled = none ∨ ∃ a o vs, A.handled = some (.ref a) ∧ h.get? a = some o ∧ o.data = .fields vs ∧ 6 ≤ vs.size ∧ Cx2 h a vs
theorem Hq.keep {A : Around} {h h' : Heap} (q : Hq A h) (k : ∀ a o vs, h.get? a = some o → o.data = .fields vs → 6 ≤ vs.size → h'.get? a = some o) : Hq A h' := by
  rcases q with q | ⟨a, o, vs, e, g, d, z, c⟩
  · exact .inl q
  · refine .inr ⟨a, o, vs, e, k a o vs g d z, d, z, ?_⟩
    rcases c with c | ⟨b, ob, us, e1, n, e2, e3, e4, e5⟩
    · exact .inl c
    · exact .inr ⟨b, ob, us, e1, n, k b ob us e2 e3 e4, e3, e4, e5⟩
theorem entry_unch : entryFor table "proto.unchain" = some Builtin.«proto.unchain» := entryFor_of_fast (by kernel_rfl)
section
variable {prog : Program} {w : World} {A : Around} {E : Value → Shared → Prop} {s : Shared}
/-- a new error is raised: the one in hand stands behind it then -/
theorem raise_quiet {α : Type} {e : Addr} {oe : Obj} {vs : Array Value} {h0 : Heap} {Q : α → Shared → Prop} (hq : Hq A h0) (hk : ∀ b o, h0.get? b = some o → s.heap.get? b = some o ∧ b ≠ e) (he : s.heap.get? e = some oe) (hd : oe.data = .fields vs) (hz : 2 < vs.size)
    (h : ∀ h' o', h'.get? e = some o' → o'.cls = oe.cls → Heap.SameBut e s.heap h' → E (.ref e) { s with heap := h' }) : wpAny (model prog w) A (raiseNew (.ref e) : Sem α) Q E s := by
  unfold raiseNew
  refine wpAny_bind (wpAny_handled ?_)
  rcases hq with q | ⟨a, o, us, ea, ga, da, zz, za⟩
  · rw [q]
    exact wpAny_bind (wpAny_pure (wpAny_throw (h s.heap oe he rfl (Heap.SameBut.refl ..))))
  · rw [ea]
    obtain ⟨ga, nae⟩ := hk a o ga
    have ne : (Value.ref a != Value.ref e) = true := by simp [bne, nae]
    show wpAny _ _ (if (Value.ref a != Value.ref e) = true then _ else _) _ _ _
    rw [if_pos ne]
    have fin : wpAny (model prog w) A (updateField e 2 (.ref a) >>= fun _ => throw (.ref e)) Q E s := by
      refine wpAny_bind (wpAny_setField he hd hz ?_ : wpAny _ _ (setField (.ref e) 2 (.ref a)) _ _ s)
      exact wpAny_throw (h _ _ (Heap.get?_update_self _ he (Obj.isFreed_of_fields (Obj.data_mapFields hd _))) (Obj.cls_mapFields _ _) (Heap.SameBut.update ..))
    refine wpAny_bind (wpAny_holding (wpAny_runValue (codeAny_builtin entry_unch ?_)))
    show wpAny _ _ (field (.ref a) 2 >>= _) _ _ s
    rcases za with za | ⟨b, ob, vb, eb, nb, gb, db, sz, zb⟩
    · refine wpAny_bind (wpAny_field ga da za ?_)
      show wpAny _ _ (if (Value.none == Value.none) = true then _ else _) _ _ s
      rw [if_pos (by rfl)]
      refine wpAny_bind (wpAny_pure (wpAny_pure ?_))
      exact fin
    · obtain ⟨gb, nbe⟩ := hk b ob gb
      refine wpAny_bind (wpAny_field ga da eb ?_)
      have n1 : (Value.ref b == Value.none) = false := rfl
      have n2 : (Value.ref b == Value.ref e) = false := by simp [nbe]
      have n3 : (Value.ref b == Value.ref a) = false := by simp [nb]
      simp only [n1, n2, n3, Bool.false_eq_true, if_false]
      refine wpAny_bind (wpAny_pure (wpAny_pure ⟨Code.quiet_builtin _ (by decide +kernel), codeAny_builtin entry_unch ?_⟩))
      show wpAny _ _ (field (.ref b) 2 >>= _) _ _ s
      refine wpAny_bind (wpAny_field gb db zb ?_)
      show wpAny _ _ (if (Value.none == Value.none) = true then _ else _) _ _ s
      rw [if_pos (by rfl)]
      refine wpAny_bind (wpAny_pure (wpAny_pure ?_))
      exact fin
/-- the end of an iterator: a StopIteration is made and raised, and it is told that it is over -/
theorem stop_quiet {α : Type} {E' : Value → Shared → Prop} {R : α → Shared → Prop} (hq : Hq A s.heap)
    (h : ∀ h' e, (∀ b o, s.heap.get? b = some o → h'.get? b = some o) → (∃ o, h'.get? e = some o ∧ o.cls = .type "StopIteration") → E' (.ref e) { s with heap := h' }) :
    wpAny (model prog w) A (newExc (.type "StopIteration") [] >>= fun v => (raiseNew v : Sem α)) R E' s := by
  refine wpAny_bind ?_
  simp only [newExc, newTuple]
  refine wpAny_bind (wpAny_newObj_type ?_ (by size_fits))
  refine wpAny_bind (m := firstArgMember _ _) (wpAny_of_eq (a := Value.none) (by first | rfl | (simp only [firstArgMember]; rfl)) ?_)
  refine wpAny_newObj_type ?_ (by size_fits)
  have k2 : ∀ b o, s.heap.get? b = some o → ((s.heap.push { cls := .type "tuple", data := .seq ([] : List Value).toArray }).push { cls := .type "StopIteration", data := .fields (#[.ref s.heap.objs.size, .none, .none, .none, .bool false, .none] ++ ownMembersOf (.type "StopIteration") []) }).get? b = some o :=
    fun b o e => Heap.get?_push_of_some _ (Heap.get?_push_of_some _ e)
  refine raise_quiet hq (fun b o e => ⟨k2 b o e, ?_⟩) (Heap.get?_push_size _ rfl) rfl (by simp [ownMembersOf]) fun h' o' ge ce sb => ?_
  · intro z
    have := Heap.lt_size e
    rw [z, Heap.size_push] at this
    exact absurd this (Nat.not_lt.mpr (Nat.le_succ _))
  · refine h h' _ (fun b o e => sb.extBut b o (fun z => ?_) (k2 b o e)) ⟨o', ge, ce⟩
    have := Heap.lt_size e
    rw [z, Heap.size_push] at this
    exact absurd this (Nat.not_lt.mpr (Nat.le_succ _))
theorem hq_not {h : Heap} {it a : Addr} {o o' : Obj} {vs us : Array Value} (g : h.get? it = some o) (d : o.data = .fields vs) (z : vs.size < 6) (g' : h.get? a = some o') (d' : o'.data = .fields us) (z' : 6 ≤ us.size) : a ≠ it := by
  rintro rfl
  rw [g] at g'; cases g'
  rw [d] at d'; cases d'
  omega
theorem list_end_q {it l : Addr} {i : Nat} {items} {Q : Option Value → Shared → Prop} (hq : Hq A s.heap)
    (hit : s.heap.IsListIter it l i) (hl : s.heap.IsList l items) (hx : items[i]? = none)
    (hQ : ∀ h', Heap.ExtBut it s.heap h' → Q none { s with heap := h' }) : wpAny (model prog w) A (pyNext (.ref it)) Q E s := by
  obtain ⟨o, ho, hc, hd⟩ := id hit
  obtain ⟨ol, hol, _, nl, hdl⟩ := hl
  unfold pyNext
  refine wpAny_bind (wpAny_attempt (wpAny_callSpecial?_slot (name := Str.ofString "__next__") hit.typeIs slot_listiter_next (wpAny_call_entry slot_listiter_next hit.typeIs entry_listiter_next ?_ (args_listiter_next _))))
  show wpAny _ _ (field (.ref it) 0 >>= _) _ _ s
  refine wpAny_bind (wpAny_field ho hd (x := .ref l) rfl ?_)
  show wpAny _ _ (if (Value.ref l == Value.none) = true then _ else _) _ _ s
  rw [if_neg (show ¬ ((Value.ref l == Value.none) = true) from Bool.false_ne_true)]
  show wpAny _ _ (field (.ref it) 1 >>= _) _ _ s
  refine wpAny_bind (wpAny_field ho hd (x := .int i 0) rfl ?_)
  show wpAny _ _ (seqItems? (.ref l) >>= _) _ _ s
  refine wpAny_bind (wpAny_seqItems hol hdl ?_)
  simp only [Int.toNat_natCast, hx]
  refine wpAny_bind (wpAny_rule (wpAny_bind (wpAny_setField ho hd (by simp) ?_)))
  have sb1 := Heap.SameBut.update (h := s.heap) it (Obj.mapFields (·.setIfInBounds 0 Value.none))
  refine stop_quiet (A := A.in1) (hq.keep fun a o' us e d' z' => sb1.extBut a o' (hq_not ho hd (by simp) e d' z') e) fun h' e k ⟨o', ge, ce⟩ => ?_
  refine wpAny_bind (wpAny_isInstance (T := "StopIteration") (b := true) ⟨_, ge, ce⟩ isSubtype_stop ?_)
  exact wpAny_pure (hQ _ fun b ob hb e1 => k b ob (sb1.extBut b ob hb e1))
theorem tuple_end_q {it t : Addr} {i : Nat} {items} {Q : Option Value → Shared → Prop} (hq : Hq A s.heap)
    (hit : s.heap.IsTupleIter it t i) (ht : s.heap.IsTuple t items) (hx : items[i]? = none)
    (hQ : ∀ h', Heap.ExtBut it s.heap h' → Q none { s with heap := h' }) : wpAny (model prog w) A (pyNext (.ref it)) Q E s := by
  obtain ⟨o, ho, hc, hd⟩ := id hit
  obtain ⟨ol, hol, _, nl, hdl⟩ := ht
  unfold pyNext
  refine wpAny_bind (wpAny_attempt (wpAny_callSpecial?_slot (name := Str.ofString "__next__") hit.typeIs F.slot_tuple_iterator_next (wpAny_call_entry F.slot_tuple_iterator_next hit.typeIs F.entry_tuple_iterator_next ?_ (F.args_tuple_iterator_next_1 _))))
  show wpAny _ _ (field (.ref it) 0 >>= _) _ _ s
  refine wpAny_bind (wpAny_field ho hd (x := .ref t) rfl ?_)
  show wpAny _ _ (if (Value.ref t == Value.none) = true then _ else _) _ _ s
  rw [if_neg (show ¬ ((Value.ref t == Value.none) = true) from Bool.false_ne_true)]
  show wpAny _ _ (field (.ref it) 1 >>= _) _ _ s
  refine wpAny_bind (wpAny_field ho hd (x := .int i 0) rfl ?_)
  show wpAny _ _ (seqItems? (.ref t) >>= _) _ _ s
  refine wpAny_bind (wpAny_seqItems hol hdl ?_)
  simp only [Int.toNat_natCast, hx]
  refine wpAny_bind (wpAny_rule (wpAny_bind (wpAny_setField ho hd (by simp) ?_)))
  have sb1 := Heap.SameBut.update (h := s.heap) it (Obj.mapFields (·.setIfInBounds 0 Value.none))
  refine stop_quiet (A := A.in1) (hq.keep fun a o' us e d' z' => sb1.extBut a o' (hq_not ho hd (by simp) e d' z') e) fun h' e k ⟨o', ge, ce⟩ => ?_
  refine wpAny_bind (wpAny_isInstance (T := "StopIteration") (b := true) ⟨_, ge, ce⟩ isSubtype_stop ?_)
  exact wpAny_pure (hQ _ fun b ob hb e1 => k b ob (sb1.extBut b ob hb e1))
theorem range_end_q {it : Addr} {x left step : Int} {Q : Option Value → Shared → Prop} (hq : Hq A s.heap) (hit : IsRangeIter s.heap it x left step) (hleft : left ≤ 0)
    (hQ : ∀ h', Heap.ExtBut it s.heap h' → Q none { s with heap := h' }) : wpAny (model prog w) A (pyNext (.ref it)) Q E s := by
  have hT : s.TypeIs (.ref it) "range_iterator" := ⟨_, hit, rfl⟩
  unfold pyNext
  refine wpAny_bind (wpAny_attempt (wpAny_callSpecial?_slot (name := Str.ofString "__next__") hT F.slot_range_iterator_next (wpAny_call_entry F.slot_range_iterator_next hT F.entry_range_iterator_next ?_ (F.args_range_iterator_next_1 _))))
  show wpAny _ _ (field (.ref it) 0 >>= _) _ _ s
  refine wpAny_bind (wpAny_field hit rfl (x := rawInt x) rfl ?_)
  show wpAny _ _ (field (.ref it) 1 >>= _) _ _ s
  refine wpAny_bind (wpAny_field hit rfl (x := rawInt left) rfl ?_)
  show wpAny _ _ (field (.ref it) 2 >>= _) _ _ s
  refine wpAny_bind (wpAny_field hit rfl (x := rawInt step) rfl ?_)
  show wpAny _ _ (if left ≤ 0 then _ else _) _ _ s
  rw [if_pos hleft]
  refine wpAny_bind (wpAny_rule (wpAny_bind ?_))
  refine stop_quiet (A := A.in1) hq fun h' e k ⟨o', ge, ce⟩ => ?_
  refine wpAny_bind (wpAny_isInstance (T := "StopIteration") (b := true) ⟨_, ge, ce⟩ isSubtype_stop ?_)
  exact wpAny_pure (hQ _ fun b ob hb e1 => k b ob e1)
/-- a tuple taken apart -/
theorem unpackItems_q {t : Addr} {items : Array Value} {Q : List Value → Shared → Prop} (hq : Hq A s.heap) (ht : IsTup s.heap t items)
    (hQ : ∀ h', Heap.ExtBut s.heap.objs.size s.heap h' → Q items.toList { s with heap := h' }) : wpAny (model prog w) A (unpackItems (.ref t) items.size none) Q E s := by
  have nt : t ≠ s.heap.objs.size := by obtain ⟨o, ho, _⟩ := ht; exact Nat.ne_of_lt (Heap.lt_size ho)
  unfold unpackItems
  refine wpAny_bind ?_
  unfold notIterableAtAll
  refine wpAny_bind (wpAny_specialOf ht.typeIs slot_tuple_iter.lookup (wpAny_pure ?_))
  simp only [Bool.false_eq_true, if_false]
  refine wpAny_bind (wpAny_holding (iter_tuple ht (wpAny_bind (wpAny_holding (draw_tuple nt items.size 0 _ _ ⟨_, Heap.get?_push_size _ rfl, rfl, rfl⟩ (ht.push _) (by omega) fun g1 i1 b1 => ?_)))))
  rw [show List.take items.size (List.drop 0 items.toList) = items.toList by rw [List.drop_zero]; exact List.take_of_length_le (by simp), if_neg (by simp)]
  have k1 : ∀ b o, b ≠ s.heap.objs.size → s.heap.get? b = some o → g1.get? b = some o := fun b o hb e => b1.extBut b o hb (Heap.get?_push_of_some _ e)
  have q1 : Hq A g1 := hq.keep fun a o _ e _ _ => k1 a o (Nat.ne_of_lt (Heap.lt_size e)) e
  have t1 : IsTup g1 t items := (ht.push _).extBut b1.extBut nt
  refine wpAny_bind (wpAny_holding (tuple_end_q (s := { s with heap := g1 }) q1 (show g1.IsTupleIter _ t _ from i1) (show g1.IsTuple t items from t1) (by simp) fun g2 x2 => ?_))
  simp only [Option.isSome_none, Bool.false_eq_true, if_false]
  exact wpAny_pure (hQ g2 fun b o hb e => x2 b o hb (k1 b o hb e))
theorem assign_Tuple_q {env : Env} {elts : List Expr} {x1} {pos : Pos} {t : Addr} {items : Array Value} {Q : Unit → Shared → Prop} (hq : Hq A s.heap) (ht : IsTup s.heap t items)
    (hn : (assignEach elts env).length = items.size) (hstar : (assignEach elts env).findIdx? (·.1) = none)
    (h : ∀ h', Heap.ExtBut s.heap.objs.size s.heap h' → wpAny (model prog w) A (assignInOrder ((assignEach elts env).map (·.2)) items.toList) Q E { s with heap := h' }) :
    wpAny (model prog w) A (assign (.Tuple elts x1 pos) env (.ref t)) Q E s := by
  rw [assign_Tuple]
  refine wpAny_bind (wpAny_standAt ?_)
  unfold unpack
  rw [hn, hstar]
  exact wpAny_bind (wpAny_holding (unpackItems_q hq ht h))
end
end QQ

set_option Elab.async false
set_option linter.all false
set_option maxRecDepth 100000
namespace QQ
open PySem PyProof.Rows
/-! ## an error on its way: its object, its record of places, what changes -/
def exO (cls : Value) (vs : Array Value) : Obj := { cls := cls, data := .fields vs }
/-- an error of the class at e; fp: the objects that change as it goes -/
def Fly (h : Heap) (e : Addr) (cls : Value) (fp : List Addr) (c : Value) : Prop :=
  ∃ vs, h.get? e = some (exO cls vs) ∧ (vs[2]? = some c ∧ 6 ≤ vs.size) ∧ ((vs[1]? = some Value.none ∧ fp = [e]) ∨
    ∃ T oT ts, vs[1]? = some (.ref T) ∧ T ≠ e ∧ h.get? T = some oT ∧ oT.data = .fields ts ∧ ts[3]? = some Value.none ∧ fp = [e, T])
theorem Fly.here {h : Heap} {e : Addr} {cls : Value} {fp : List Addr} {c : Value} (F : Fly h e cls fp c) : e ∈ fp := by
  obtain ⟨vs, _, _, ⟨_, r⟩ | ⟨T, oT, ts, _, _, _, _, _, r⟩⟩ := F <;> simp [r]
theorem Fly.keep {h h' : Heap} {e : Addr} {cls : Value} {fp : List Addr} {c : Value} (F : Fly h e cls fp c) (k : ∀ b ∈ fp, ∀ o, h.get? b = some o → h'.get? b = some o) : Fly h' e cls fp c := by
  obtain ⟨vs, g, z, ⟨a, r⟩ | ⟨T, oT, ts, a, ne, gT, dT, zT, r⟩⟩ := F
  · exact ⟨vs, k e (by simp [r]) _ g, z, .inl ⟨a, r⟩⟩
  · exact ⟨vs, k e (by simp [r]) _ g, z, .inr ⟨T, oT, ts, a, ne, k T (by simp [r]) _ gT, dT, zT, r⟩⟩
/-- what stands at fp: records -/
theorem Fly.rec {h : Heap} {e : Addr} {cls : Value} {fp : List Addr} {c : Value} (F : Fly h e cls fp c) : ∀ b ∈ fp, ∃ o vs, h.get? b = some o ∧ o.data = .fields vs := by
  obtain ⟨vs, g, z, ⟨a, r⟩ | ⟨T, oT, ts, a, ne, gT, dT, zT, r⟩⟩ := F
  · intro b hb
    rw [r, List.mem_singleton] at hb
    subst hb
    exact ⟨_, vs, g, rfl⟩
  · intro b hb
    rw [r] at hb
    rcases List.mem_cons.mp hb with hb | hb
    · subst hb; exact ⟨_, vs, g, rfl⟩
    · rw [List.mem_singleton] at hb
      subst hb
      exact ⟨oT, ts, gT, dT⟩
theorem Fly.made {h h' : Heap} {e : Addr} {cls : Value} {args : List Value} (m : Heap.MadeExcOf h h' e cls args) : Fly h' e cls [e] .none := by
  obtain ⟨t, ht, _⟩ := m.there
  exact ⟨_, ht, ⟨rfl, by show (6 : Nat) ≤ 6; decide⟩, .inl ⟨rfl, rfl⟩⟩
section
variable {M : Model} {A : Around} {E : Value → Shared → Prop} {s : Shared}
theorem land_core {base : Heap} {env : Env} {outer : List Env} {L e : Addr} {cls head c : Value} {vs : Array Value} {had : Bool} {Q : Unit → Shared → Prop}
    (hfr : A.frames = some (env :: outer)) (hl : s.heap.FunFrames base (env :: outer)) (hf : env.frame = some L)
    (he : s.heap.get? e = some (exO cls vs)) (h1 : 1 < vs.size) (h2 : vs[2]? = some c ∧ 6 ≤ vs.size)
    (h : ∀ h' T, Fly h' e cls [e, T] c → s.heap.objs.size ≤ T → (∀ b o, s.heap.get? b = some o → b ≠ e → b ∉ (env :: outer).filterMap (·.frame) → h'.get? b = some o) →
      (∀ b o, s.heap.get? b = some o → b ≠ e → ∃ sl, h'.get? b = some { o with slots := sl }) → Q () { s with heap := h' }) :
    wpAny M A (do let a ← frameOf env; let pl ← entryPlaceOf L had; let b ← EntryCells.newEntry head a .none (rawInt L) .none pl; setField (.ref e) 1 b) (fun _ s' => wpAny M A (setFlight (.ref e) none) Q E s') E s := by
  have ne : e ∉ (env :: outer).filterMap (·.frame) := fun hm => by
    obtain ⟨_, o, ho, hnf⟩ := hl.mem hm
    rw [he] at ho; cases ho
    exact hnf vs rfl
  refine wpAny_bind (wpAny_frameOf_fun hfr hl hf fun g1 s1 => ?_)
  refine wpAny_bind (wpAny_entryPlaceOf fun pl hpl => ?_)
  unfold EntryCells.newEntry newFields
  refine wpAny_bind (wpAny_newObj_type ?_ (hpl.sizeOk5 _ _ _ _ _))
  have hsz : g1.objs.size = s.heap.objs.size := s1.1
  have he1 : g1.get? e = some (exO cls vs) := (s1.2.1 e ne).trans he
  generalize hO : ({ cls := .type "traceback", dict := none, data := .fields ([head, .ref L, .none, rawInt L, .none] ++ (if pl.isEmpty then List.replicate 6 Value.none else pl)).toArray } : Obj) = oT
  have e3 : ∃ ts, oT.data = .fields ts ∧ 3 < ts.size := ⟨_, by rw [← hO], by simp only [List.size_toArray, List.length_append, List.length_cons, List.length_nil]; omega⟩
  have hfreed : oT.isFreed = false := by rw [← hO]; rfl
  clear hO
  obtain ⟨ts, hts, hz3⟩ := e3
  have he2 : (g1.push oT).get? e = some (exO cls vs) := Heap.get?_push_of_some _ he1
  have hT2 : (g1.push oT).get? g1.objs.size = some oT := Heap.get?_push_size g1 hfreed
  have hTe : g1.objs.size ≠ e := Nat.ne_of_gt (Heap.lt_size he1)
  refine wpAny_setField he2 rfl h1 ?_
  have he3 := Heap.get?_update_self (Obj.mapFields (·.setIfInBounds 1 (Value.ref g1.objs.size))) he2 rfl
  have hT3 := (Heap.get?_update_other (g1.push oT) (Obj.mapFields (·.setIfInBounds 1 (Value.ref g1.objs.size))) (Ne.symm hTe)).trans hT2
  have he3' : ((g1.push oT).update e (Obj.mapFields (·.setIfInBounds 1 (Value.ref g1.objs.size)))).get? e = some (exO cls (vs.setIfInBounds 1 (Value.ref g1.objs.size))) := he3
  unfold setFlight
  refine wpAny_bind (wpAny_field he3' rfl (x := .ref g1.objs.size) (by simp [h1]) ?_)
  rw [if_pos (show (Value.ref g1.objs.size != Value.none) = true from by simp)]
  refine wpAny_setField hT3 hts hz3 ?_
  have keep : ∀ b o, b ≠ e → g1.get? b = some o → (((g1.push oT).update e (Obj.mapFields (·.setIfInBounds 1 (Value.ref g1.objs.size)))).update g1.objs.size (Obj.mapFields (·.setIfInBounds 3 ((none : Option Addr).elim Value.none fun f => rawInt f)))).get? b = some o := fun b o hb q => by
    rw [Heap.get?_update_other _ _ (Nat.ne_of_gt (Heap.lt_size q)), Heap.get?_update_other _ _ (Ne.symm hb)]
    exact Heap.get?_push_of_some _ q
  refine h _ g1.objs.size ⟨vs.setIfInBounds 1 (Value.ref g1.objs.size), ?_, ?_, .inr ⟨g1.objs.size, _, _, ?_, hTe, Heap.get?_update_self _ hT3 (Obj.isFreed_of_fields (Obj.data_mapFields hts _)), Obj.data_mapFields hts _, ?_, rfl⟩⟩ (Nat.le_of_eq hsz.symm) (fun b o q hb hn => ?_) fun b o q hb => ?_
  · rw [Heap.get?_update_other _ _ hTe]; exact he3'
  · rw [Array.getElem?_setIfInBounds_ne (by decide), Array.size_setIfInBounds]; exact h2
  · simp [h1]
  · simp [hz3]
  · exact keep b o hb ((s1.2.1 b hn).trans q)
  · obtain ⟨sl, e'⟩ := s1.2.2 b o q
    exact ⟨sl, keep b _ hb e'⟩
/-- an error is noted in the frame and lands there -/
theorem land {base : Heap} {env : Env} {outer : List Env} {L e : Addr} {cls c : Value} {fp : List Addr} {Q : Unit → Shared → Prop}
    (hfr : A.frames = some (env :: outer)) (hl : s.heap.FunFrames base (env :: outer)) (hf : env.frame = some L) (F : Fly s.heap e cls fp c)
    (h : ∀ h' T, Fly h' e cls [e, T] c → s.heap.objs.size ≤ T → (∀ b o, s.heap.get? b = some o → b ∉ fp → b ∉ (env :: outer).filterMap (·.frame) → h'.get? b = some o) →
      (∀ b o, s.heap.get? b = some o → b ∉ fp → ∃ sl, h'.get? b = some { o with slots := sl }) → (∀ b o, s.heap.get? b = some o → ∃ o', h'.get? b = some o') → Q () { s with heap := h' }) :
    wpAny M A (noteFrame (.ref e) env) (fun _ s' => wpAny M A (setFlight (.ref e) none) Q E s') E s := by
  obtain ⟨vs, he, h2, ⟨h1, r⟩ | ⟨T, oT, ts, h1, ne, gT, dT, zT, r⟩⟩ := F
  · subst r
    unfold noteFrame
    simp only [hf]
    refine wpAny_bind (wpAny_field he rfl h1 ?_)
    rw [if_neg (by decide)]
    refine land_core hfr hl hf he (Array.getElem?_eq_some_iff.mp h1).1 h2 fun h' T' f1 f2 f3 f4 => h h' T' f1 f2 (fun b o q hb hn => f3 b o q (fun z => hb (by simp [z])) hn) (fun b o q hb => f4 b o q fun z => hb (by simp [z])) fun b o q => ?_
    by_cases hb : b = e
    · obtain ⟨vs', g', _⟩ := f1
      subst hb
      exact ⟨_, g'⟩
    · obtain ⟨sl, e'⟩ := f4 b o q hb
      exact ⟨_, e'⟩
  · subst r
    unfold noteFrame
    simp only [hf]
    refine wpAny_bind (wpAny_field he rfl h1 ?_)
    rw [if_pos (show (Value.ref T != Value.none) = true from by simp)]
    refine wpAny_bind (wpAny_field gT dT zT ?_)
    rw [if_neg (show ¬ ((Value.none == rawInt L) = true) from by simp [rawInt])]
    refine wpAny_bind (wpAny_setField gT dT (Array.getElem?_eq_some_iff.mp zT).1 ?_)
    have oth : ∀ b, b ≠ T → (s.heap.update T (Obj.mapFields (·.setIfInBounds 3 Value.none))).get? b = s.heap.get? b := fun b hb => Heap.get?_update_other _ _ (Ne.symm hb)
    have gT' := Heap.get?_update_self (Obj.mapFields (·.setIfInBounds 3 Value.none)) gT (Obj.isFreed_of_fields (Obj.data_mapFields dT _))
    have nT : ∀ b o, s.heap.get? b = some o → (∀ us, o.data ≠ .fields us) → b ≠ T := fun b o q nf z => by
      rw [z, gT] at q; cases q; exact nf ts dT
    have sz : (s.heap.update T (Obj.mapFields (·.setIfInBounds 3 Value.none))).objs.size = s.heap.objs.size := Heap.size_after_update ..
    refine land_core hfr (hl.of_keeps fun b o q nf => ⟨o, (oth b (nT b o q nf)).trans q, rfl⟩) hf ((oth e (Ne.symm ne)).trans he) (Array.getElem?_eq_some_iff.mp h1).1 h2
      fun h' T' f1 f2 f3 f4 => h h' T' f1 (by rw [sz] at f2; exact f2) (fun b o q hb hn => ?_) (fun b o q hb => ?_) fun b o q => ?_
    · have b1 : b ≠ e := fun z => hb (by simp [z])
      have b2 : b ≠ T := fun z => hb (by simp [z])
      exact f3 b o ((oth b b2).trans q) b1 hn
    · have b1 : b ≠ e := fun z => hb (by simp [z])
      have b2 : b ≠ T := fun z => hb (by simp [z])
      exact f4 b o ((oth b b2).trans q) b1
    · by_cases hb : b = e
      · obtain ⟨vs', g', _⟩ := f1
        subst hb
        exact ⟨_, g'⟩
      · by_cases hT : b = T
        · subst hT
          obtain ⟨sl, e'⟩ := f4 b _ gT' hb
          exact ⟨_, e'⟩
        · obtain ⟨sl, e'⟩ := f4 b o ((oth b hT).trans q) hb
          exact ⟨_, e'⟩
/-- it is told again that it landed -/
theorem land_again {e : Addr} {cls c : Value} {T : Addr} {Q : Unit → Shared → Prop} (F : Fly s.heap e cls [e, T] c)
    (h : ∀ h', Fly h' e cls [e, T] c → (∀ b o, s.heap.get? b = some o → b ≠ T → h'.get? b = some o) → Q () { s with heap := h' }) : wpAny M A (setFlight (.ref e) none) Q E s := by
  obtain ⟨vs, he, h2, ⟨h1, r⟩ | ⟨T', oT, ts, h1, ne, gT, dT, zT, r⟩⟩ := F
  · cases r
  · cases r
    unfold setFlight
    refine wpAny_bind (wpAny_field he rfl h1 ?_)
    rw [if_pos (show (Value.ref T != Value.none) = true from by simp)]
    have z3 := (Array.getElem?_eq_some_iff.mp zT).1
    refine wpAny_setField gT dT z3 (h _ ⟨vs, ?_, h2, .inr ⟨T, _, _, h1, ne, Heap.get?_update_self _ gT (Obj.isFreed_of_fields (Obj.data_mapFields dT _)), Obj.data_mapFields dT _, by simp [z3], rfl⟩⟩ fun b o q hb => ?_)
    · rw [Heap.get?_update_other _ _ ne]; exact he
    · rw [Heap.get?_update_other _ _ (Ne.symm hb)]; exact q
end
end QQ

set_option Elab.async false
set_option linter.all false
set_option maxRecDepth 100000
/-! THE HAND LAYER, for ints, bools, texts, own classes, LISTS and tuples (index, slices, in, append, pop ..), calls, loops. Paste it whole ahead of your own text; what your proof does not reach may be deleted. -/
namespace L2
open PySem PySem.Spec PyProof.Rows

/-- a key: an int or a str -/
abbrev Key := Sum Int Str
def keyIs : Key → Value → Bool
  | .inl k, v => Value.isInt k v
  | .inr x, v => Value.isStrOf x v
def keyH (w : World) : Key → Int
  | .inl k => hashInt k
  | .inr x => hashStr w x
theorem keyIs_shape : ∀ {k : Key} {v : Value}, keyIs k v = true → (∃ i t, k = Sum.inl i ∧ v = Value.int i t) ∨ (∃ x t, k = Sum.inr x ∧ v = Value.str x t)
  | .inl i, v, h => by
    obtain ⟨t, e⟩ := Value.isInt_shape (k := i) (v := v) h
    exact .inl ⟨i, t, rfl, e⟩
  | .inr x, v, h => by
    obtain ⟨t, e⟩ := Value.isStrOf_shape (x := x) (v := v) h
    exact .inr ⟨x, t, rfl, e⟩
theorem key_ll (a b : Int) : decide ((Sum.inl a : Key) = Sum.inl b) = (a == b) := by
  by_cases e : a = b
  · subst e; simp
  · have h : ¬ (Sum.inl a : Key) = Sum.inl b := fun q => e (Sum.inl.inj q)
    rw [decide_eq_false h]
    exact (beq_eq_false_iff_ne.mpr e).symm
theorem key_rr (a b : Str) : decide ((Sum.inr a : Key) = Sum.inr b) = decide (a = b) := by
  by_cases e : a = b
  · subst e; simp
  · have h : ¬ (Sum.inr a : Key) = Sum.inr b := fun q => e (Sum.inr.inj q)
    rw [decide_eq_false h, decide_eq_false e]
theorem key_lr (a : Int) (b : Str) : decide ((Sum.inl a : Key) = Sum.inr b) = false := decide_eq_false (fun q => nomatch q)
theorem key_rl (a : Str) (b : Int) : decide ((Sum.inr a : Key) = Sum.inl b) = false := decide_eq_false (fun q => nomatch q)

def mixKind (prog : Program) (w : World) : PySem.KeyKind prog w Key where
  is := keyIs
  hash := keyH w
  inj := fun v a b ha hb => by
    rcases keyIs_shape ha with ⟨i, t, rfl, rfl⟩ | ⟨x, t, rfl, rfl⟩
    · rcases keyIs_shape hb with ⟨j, u, rfl, e⟩ | ⟨y, u, rfl, e⟩
      · injection e with e1 _; rw [e1]
      · exact nomatch e
    · rcases keyIs_shape hb with ⟨j, u, rfl, e⟩ | ⟨y, u, rfl, e⟩
      · exact nomatch e
      · injection e with e1 _; rw [e1]
  byValue := fun k v h => by
    rcases keyIs_shape h with ⟨i, t, rfl, rfl⟩ | ⟨x, t, rfl, rfl⟩ <;> rfl
  pyHash := fun hv h => by
    rcases keyIs_shape hv with ⟨i, t, rfl, rfl⟩ | ⟨x, t, rfl, rfl⟩
    · exact wpAny_pyHash_int h
    · exact wpAny_pyHash_str h
  eqBool := fun hu hv h => by
    rcases keyIs_shape hu with ⟨i, t, rfl, rfl⟩ | ⟨x, t, rfl, rfl⟩
    · rcases keyIs_shape hv with ⟨j, u, rfl, rfl⟩ | ⟨y, u, rfl, rfl⟩
      · rw [key_ll] at h; exact wpAny_eqBool_int h
      · rw [key_lr] at h; exact SeqAt.EqAt.int_str i t y u _ _ _ _ h
    · rcases keyIs_shape hv with ⟨j, u, rfl, rfl⟩ | ⟨y, u, rfl, rfl⟩
      · rw [key_rl] at h; exact SeqAt.EqAt.str_int x t j u _ _ _ _ h
      · rw [key_rr] at h; exact wpAny_eqBool_str h
  «strs» := fun k x t v h => by
    rcases keyIs_shape h with ⟨i, u, rfl, e⟩ | ⟨y, u, rfl, e⟩
    · exact nomatch e
    · injection e with e1 _
      subst e1
      cases v <;> rfl

end L2

namespace L2
open PySem PySem.Spec PyProof.Rows

/-- a value, without the heap -/
inductive V where
  | non | bl (b : Bool) | int (i : Int) | str (x : Str) | byt (b : Array UInt8) | flt (b : UInt64) | ref (a : Addr) | ty (n : String)
  deriving DecidableEq

def RelV : V → Value → Prop
  | .non, u => u = Value.none
  | .bl b, u => u = Value.bool b
  | .int i, u => ∃ t, u = Value.int i t
  | .str x, u => ∃ t, u = Value.str x t
  | .byt b, u => ∃ t, u = Value.bytes b t
  | .flt b, u => ∃ t, u = Value.float b t
  | .ref a, u => u = Value.ref a
  | .ty n, u => u = Value.type n

abbrev Vals : List V → List Value → Prop := Paired RelV
theorem Vals.length {xs : List V} {us : List Value} (r : Vals xs us) : xs.length = us.length := Paired.length r
theorem Vals.get : ∀ {xs : List V} {us : List Value} {i : Nat} {x : V}, Vals xs us → xs[i]? = some x → ∃ u, us[i]? = some u ∧ RelV x u
  | _, _, _, _, .nil, e => by simp at e
  | _, _, 0, _, .cons r _, e => by simp at e; subst e; exact ⟨_, rfl, r⟩
  | _, _, i + 1, x, .cons _ t, e => by
    obtain ⟨u, h1, h2⟩ := Vals.get (i := i) (x := x) t (by simpa using e)
    exact ⟨u, by simpa using h1, h2⟩
theorem Vals.set {x : V} {u : Value} (r : RelV x u) : ∀ {xs : List V} {us : List Value} (i : Nat), Vals xs us → Vals (xs.set i x) (us.set i u)
  | _, _, _, .nil => .nil
  | _, _, 0, .cons _ t => .cons r t
  | _, _, i + 1, .cons q t => .cons q (Vals.set r i t)
theorem Vals.append : ∀ {xs ys : List V} {us ws : List Value}, Vals xs us → Vals ys ws → Vals (xs ++ ys) (us ++ ws)
  | _, _, _, _, .nil, s => s
  | _, _, _, _, .cons r t, s => .cons r (Vals.append t s)
theorem Vals.take : ∀ {xs : List V} {us : List Value} (n : Nat), Vals xs us → Vals (xs.take n) (us.take n)
  | _, _, 0, _ => .nil
  | _, _, _ + 1, .nil => .nil
  | _, _, n + 1, .cons r t => .cons r (Vals.take n t)
theorem Vals.drop : ∀ {xs : List V} {us : List Value} (n : Nat), Vals xs us → Vals (xs.drop n) (us.drop n)
  | _, _, 0, r => r
  | _, _, _ + 1, .nil => .nil
  | _, _, n + 1, .cons _ t => Vals.drop n t
theorem Vals.none_of : ∀ {xs : List V} {us : List Value} {i : Nat}, Vals xs us → xs[i]? = none → us[i]? = none := fun {xs us i} r e => by
  have h1 := r.length
  have h2 : xs.length ≤ i := List.getElem?_eq_none_iff.mp e
  exact List.getElem?_eq_none_iff.mpr (by omega)

def RelO : Option V → Option Value → Prop
  | some v, some u => RelV v u
  | none, none => True
  | _, _ => False
def KV {κ : Type} : List (κ × V) → List (κ × Value) → Prop := Paired fun (p : κ × V) (q : κ × Value) => p.1 = q.1 ∧ RelV p.2 q.2

/-- a key of a dict (00_mix): an int or a text -/
def kV : Key → V
  | .inl i => .int i
  | .inr x => .str x

/-- what stands at a tracked address -/
inductive HO where
  /-- a list -/
  | lst (xs : List V)
  /-- a tuple (never changes) -/
  | tup (xs : List V)
  /-- a dict whose keys are ints and texts; one whose keys are tuples of ints and texts (the empty one is both) -/
  | dK (kvs : List (Key × V)) | dT (kvs : List (List Key × V))
  /-- a set of ints: its members, its size -/
  | set (S : Int → Bool) (n : Nat)
  /-- an instance of the class at C, its dict at dx, its attributes -/
  | ins (C dx : Addr) (fs : List (Str × V))
  /-- the dict of the instance at x -/
  | own (x : Addr)
  /-- the dict of an exception -/
  | xd (fs : List (Str × V))
  /-- a bound method, f of x -/
  | met (f x : Addr)
  /-- a range object lo, lo + 1, .. below hi -/
  | rng (lo hi : Int)
  /-- a thing that is known to the object (the script; a dict while a loop walks it): read, never written while it is so -/
  | frz (o : Obj) (u : HO)
  /-- a code object's table -/
  | tbl (ps : Array Value)
  /-- any other thing, by what is true of its one object (a def of one's own: SetO a S n := HO.ext fun h => ..) -/
  | ext (φ : Heap → Prop)

abbrev Hp := Addr → Option HO
def upd (H : Hp) (a : Addr) (o : HO) : Hp := fun b => if b = a then some o else H b
theorem upd_same {H : Hp} {a : Addr} {o : HO} : upd H a o a = some o := by unfold upd; rw [if_pos rfl]
theorem upd_ne {H : Hp} {a b : Addr} {o : HO} (h : b ≠ a) : upd H a o b = H b := by unfold upd; rw [if_neg h]
theorem upd_upd {H : Hp} {a : Addr} {o u : HO} : upd (upd H a o) a u = upd H a u := by
  funext b; unfold upd; split <;> rfl
/-- two objects of different content stand apart -/
theorem ne_of {H : Hp} {a b : Addr} {o u : HO} (h : H a = some o) (h' : H b = some u) (d : o ≠ u) : a ≠ b := by
  intro e; subst e; rw [h] at h'; exact d (Option.some.inj h')
theorem ne_of_none {H : Hp} {a b : Addr} {o : HO} (h : H a = some o) (h' : H b = none) : a ≠ b := by
  intro e; subst e; rw [h] at h'; cases h'

section
variable (P : Program) (w : World)
def ObjOk (H : Hp) (h : Heap) (a : Addr) : HO → Prop
  | .lst xs => xs.length ≤ sizeLine ∧ ∃ (its : List Value) (n : Nat), Vals xs its ∧ h.get? a = some { cls := .type "list", data := .seq its.toArray n }
  | .tup xs => xs.length ≤ sizeLine ∧ ∃ its : List Value, Vals xs its ∧ IsTup h a its.toArray
  | .dK kvs => kvs.length ≤ sizeLine ∧ (a == sysModules) = false ∧ ∃ vs, KV kvs vs ∧ h.DictOf (mixKind P w) a vs
  | .dT kvs => kvs.length ≤ sizeLine ∧ (a == sysModules) = false ∧ ∃ xs : List (List Key × Addr × Value),
      Paired (fun (p : List Key × V) (q : List Key × Addr × Value) => p.1 = q.1 ∧ H q.2.1 = some (.tup (p.1.map kV)) ∧ RelV p.2 q.2.2) kvs xs ∧
      ∃ o es ep, h.get? a = some o ∧ o.ExactDict ∧ o.data = .dict es ep ∧ es.toList = xs.map (entryOfKey (tupleKind (mixKind P w))) ∧ (xs.map (·.1)).Nodup
  | .set S n => h.SetOf (intKind P w) a S n
  | .ins C dx fs => H dx = some (.own a) ∧ fs.length ≤ 1000 ∧ dx ≠ a ∧ h.get? a = some (PySem.W.instObj C dx) ∧
      ∃ mA, h.Ns1 dx mA ∧ (∀ f, RelO (fs.lookup f) (mA f)) ∧ PySem.Within mA (fs.map (·.1))
  | .own _ => ∃ o, h.get? a = some o
  | .xd fs => ∃ mA, h.Ns1 a mA ∧ ∀ f, RelO (fs.lookup f) (mA f)
  | .rng lo hi => ∃ t u v, h.get? a = some { cls := .type "range", data := .fields #[.int lo t, .int hi u, .int 1 v] }
  | .frz o u => h.get? a = some o ∧ ObjOk H h a u
  | .tbl ps => h.get? a = some { cls := .none, data := .fields ps }
  | .met f x => h.get? a = some (PySem.W.methodObj (.ref f) (.ref x))
  | .ext φ => φ h ∧ (∃ o, h.get? a = some o) ∧ ∀ h1 h2 : Heap, φ h1 → (∀ o, h1.get? a = some o → h2.get? a = some o) → φ h2
/-- the abstract heap is held -/
def HOk (H : Hp) (h : Heap) : Prop := ∀ a o, H a = some o → ObjOk P w H h a o
end

section
variable {P : Program} {w : World} {H H' : Hp} {h h' : Heap} {a : Addr} {o : HO}
theorem ObjOk.lt (x : ObjOk P w H h a o) : a < h.objs.size := by
  cases o with
  | lst xs => obtain ⟨_, _, _, _, e⟩ := x; exact Heap.lt_size e
  | tup xs => obtain ⟨_, _, _, p⟩ := x; exact p.lt
  | dK kvs => obtain ⟨_, _, _, _, o, _, _, e, _⟩ := x; exact Heap.lt_size e
  | dT kvs => obtain ⟨_, _, _, _, o, _, _, e, _⟩ := x; exact Heap.lt_size e
  | set S n => obtain ⟨o, _, _, _, e, _⟩ := x; exact Heap.lt_size e
  | ins C dx fs => obtain ⟨_, _, _, e, _⟩ := x; exact Heap.lt_size e
  | own y => obtain ⟨_, e⟩ := x; exact Heap.lt_size e
  | xd fs => obtain ⟨_, ⟨_, _, _, e, _⟩, _⟩ := x; exact Heap.lt_size e
  | rng lo hi => obtain ⟨_, _, _, e⟩ := x; exact Heap.lt_size e
  | frz ob u => obtain ⟨e, _⟩ := x; exact Heap.lt_size e
  | tbl ps => exact Heap.lt_size (show h.get? a = some _ from x)
  | met f y => exact Heap.lt_size (show h.get? a = some _ from x)
  | ext φ => obtain ⟨_, ⟨_, e⟩, _⟩ := x; exact Heap.lt_size e
theorem Paired.mapP {α β : Type} {F G : α → β → Prop} : ∀ {l₁ : List α} {l₂ : List β}, Paired F l₁ l₂ → (∀ a b, F a b → G a b) → Paired G l₁ l₂
  | _, _, .nil, _ => .nil
  | _, _, .cons r t, f => .cons (f _ _ r) (Paired.mapP t f)
/-- what an object's description leans on: its own object, its own dict, the tuples -/
theorem ObjOk.stay (x : ObjOk P w H h a o) (k : ∀ b u, (b = a ∨ H b = some (.own a)) → h.get? b = some u → h'.get? b = some u)
    (ho : ∀ b, H b = some (.own a) → H' b = some (.own a)) (ht : ∀ b xs, H b = some (.tup xs) → H' b = some (.tup xs)) : ObjOk P w H' h' a o := by
  induction o with
  | lst xs => obtain ⟨z, its, n, r, e⟩ := x; exact ⟨z, its, n, r, k _ _ (.inl rfl) e⟩
  | tup xs => obtain ⟨z, its, r, ob, e, c⟩ := x; exact ⟨z, its, r, ob, k _ _ (.inl rfl) e, c⟩
  | dK kvs => obtain ⟨z, y, vs, r, ob, es, ep, e, c⟩ := x; exact ⟨z, y, vs, r, ob, es, ep, k _ _ (.inl rfl) e, c⟩
  | dT kvs =>
    obtain ⟨z, y, xs, r, ob, es, ep, e, c⟩ := x
    exact ⟨z, y, xs, Paired.mapP r fun p q z => ⟨z.1, ht _ _ z.2.1, z.2.2⟩, ob, es, ep, k _ _ (.inl rfl) e, c⟩
  | set S n => obtain ⟨ob, es, ep, t, e, c⟩ := x; exact ⟨ob, es, ep, t, k _ _ (.inl rfl) e, c⟩
  | ins C dx fs =>
    obtain ⟨d, z, ne, e, mA, ⟨od, es, ep, e2, c⟩, r⟩ := x
    exact ⟨ho _ d, z, ne, k _ _ (.inl rfl) e, mA, ⟨od, es, ep, k _ _ (.inr d) e2, c⟩, r⟩
  | own y => obtain ⟨ob, e⟩ := x; exact ⟨ob, k _ _ (.inl rfl) e⟩
  | xd fs => obtain ⟨mA, ⟨od, es, ep, e, c⟩, r⟩ := x; exact ⟨mA, ⟨od, es, ep, k _ _ (.inl rfl) e, c⟩, r⟩
  | rng lo hi => obtain ⟨t, u, v, e⟩ := x; exact ⟨t, u, v, k _ _ (.inl rfl) e⟩
  | frz ob u ih => obtain ⟨e, q⟩ := x; exact ⟨k _ _ (.inl rfl) e, ih q⟩
  | tbl ps =>
    have e : h.get? a = some { cls := .none, data := .fields ps } := x
    show h'.get? a = some { cls := .none, data := .fields ps }
    exact k a _ (.inl rfl) e
  | met f y =>
    have e : h.get? a = some (PySem.W.methodObj (.ref f) (.ref y)) := x
    show h'.get? a = some (PySem.W.methodObj (.ref f) (.ref y))
    exact k a _ (.inl rfl) e
  | ext φ => obtain ⟨p, ⟨o, e⟩, st⟩ := x; exact ⟨st _ _ p fun o q => k _ _ (.inl rfl) q, ⟨o, k _ _ (.inl rfl) e⟩, st⟩
theorem HOk.lt (x : HOk P w H h) (e : H a = some o) : a < h.objs.size := (x a o e).lt
theorem HOk.fresh (x : HOk P w H h) (e : h.objs.size ≤ a) : H a = none := by
  cases q : H a with
  | none => rfl
  | some u => exact absurd (Nat.lt_of_lt_of_le (x.lt q) e) (Nat.lt_irrefl _)
/-- every object of the heap is kept -/
theorem HOk.kept (x : HOk P w H h) (k : ∀ b u, h.get? b = some u → h'.get? b = some u) : HOk P w H h' := fun a o e =>
  (x a o e).stay (fun b u _ q => k b u q) (fun _ q => q) fun _ _ q => q
/-- a new object is laid and tracked -/
theorem HOk.laid (x : HOk P w H h) (k : ∀ b u, h.get? b = some u → h'.get? b = some u) (hp : h.objs.size ≤ a) (new : ObjOk P w (upd H a o) h' a o) : HOk P w (upd H a o) h' := fun b u e => by
  have hn := x.fresh hp
  by_cases hb : b = a
  · subst hb; rw [upd_same] at e; cases e; exact new
  · rw [upd_ne hb] at e
    exact (x b u e).stay (fun c v _ q => k c v q) (fun c q => by rw [upd_ne (ne_of_none q hn)]; exact q) fun c xs q => by rw [upd_ne (ne_of_none q hn)]; exact q
end

/-- what may be read as u: it is u, or a known u -/
def Rd (H : Hp) (a : Addr) (u : HO) : Prop := H a = some u ∨ ∃ o, H a = some (.frz o u)
theorem Rd.of {H : Hp} {a : Addr} {u : HO} (h : H a = some u) : Rd H a u := .inl h
theorem Rd.ok {P : Program} {w : World} {H : Hp} {h : Heap} {a : Addr} {u : HO} (r : Rd H a u) (x : HOk P w H h) : ObjOk P w H h a u := by
  rcases r with r | ⟨o, r⟩
  · exact x a u r
  · obtain ⟨_, q⟩ := x a _ r
    exact q
/-- what may be written -/
def Mut : Option HO → Prop
  | some (.lst _) => True
  | some (.dK _) => True
  | some (.dT _) => True
  | some (.set _ _) => True
  | some (.ins _ _ _) => True
  | some (.ext _) => True
  | _ => False
section
variable {P : Program} {w : World} {H : Hp} {h h' : Heap} {x e : Addr} {o' : HO}
/-- the object at e is changed: x itself, or the dict of the instance x -/
theorem HOk.write (ok : HOk P w H h) (mu : Mut (H x)) (he : e = x ∨ H e = some (.own x)) (k : ∀ b u, b ≠ e → h.get? b = some u → h'.get? b = some u) (heo : ∃ u, h'.get? e = some u)
    (new : ObjOk P w (upd H x o') h' x o') : HOk P w (upd H x o') h' := fun b u q => by
  have nown : ∀ c y, H c = some (.own y) → c ≠ x := fun c y r z => by subst z; rw [r] at mu; exact mu
  have ntup : ∀ c xs, H c = some (.tup xs) → c ≠ x := fun c xs r z => by subst z; rw [r] at mu; exact mu
  by_cases hb : b = x
  · subst hb; rw [upd_same] at q; cases q; exact new
  · rw [upd_ne hb] at q
    by_cases hbe : b = e
    · have q' : H b = some (.own x) := by
        rcases he with z | z
        · exact absurd (hbe.trans z) hb
        · rw [hbe]; exact z
      rw [q] at q'; cases q'
      obtain ⟨v, hv⟩ := heo
      exact ⟨v, by rw [hbe]; exact hv⟩
    · refine (ok b u q).stay (fun c v hc r => k c v ?_ r) (fun c r => by rw [upd_ne (nown c b r)]; exact r) fun c xs r => by rw [upd_ne (ntup c xs r)]; exact r
      rcases hc with rfl | hc
      · exact hbe
      · rintro rfl
        rcases he with z | z
        · exact nown c b hc z
        · rw [hc] at z; cases z; exact hb rfl
end

/-! ### kept unless tracked; of the frames at fs (the callers') the slots may change (an exception that passes writes there); of the records at ex (iterators) nothing is said -/
structure Un (fs ex : List Addr) (H H' : Hp) (h h' : Heap) : Prop where
  keep : ∀ b o, h.get? b = some o → H b = none → b ∉ fs → b ∉ ex → h'.get? b = some o
  slot : ∀ b o, h.get? b = some o → H b = none → b ∈ fs → b ∉ ex → ∃ sl, h'.get? b = some { o with slots := sl }
  free : ∀ b o, h.get? b = some o → H b = none → b ∉ ex → H' b = none
  there : ∀ b o, h.get? b = some o → b ∉ ex → ∃ o', h'.get? b = some o'
  tups : ∀ b xs, H b = some (.tup xs) → H' b = some (.tup xs)
  frzs : ∀ b o u, H b = some (.frz o u) → H' b = some (.frz o u)
  tbls : ∀ b ps, H b = some (.tbl ps) → ∃ more, H' b = some (.tbl (ps ++ more))
section
variable {fs fs' ex ex' : List Addr} {H H1 H2 : Hp} {h h1 h2 h' : Heap} {a x e : Addr} {o : HO}
theorem Un.any (u : Un fs ex H H1 h h1) {b : Addr} {ob : Obj} (q : h.get? b = some ob) (n : H b = none) (hx : b ∉ ex) : ∃ sl, h1.get? b = some { ob with slots := sl } := by
  by_cases hb : b ∈ fs
  · exact u.slot b ob q n hb hx
  · exact ⟨ob.slots, u.keep b ob q n hb hx⟩
theorem Un.trans (a : Un fs ex H H1 h h1) (b : Un fs ex H1 H2 h1 h2) : Un fs ex H H2 h h2 where
  keep := fun c ob q n hc hx => b.keep c ob (a.keep c ob q n hc hx) (a.free c ob q n hx) hc hx
  slot := fun c ob q n hc hx => by
    obtain ⟨sl, e1⟩ := a.slot c ob q n hc hx
    obtain ⟨sl', e2⟩ := b.slot c _ e1 (a.free c ob q n hx) hc hx
    exact ⟨sl', e2⟩
  free := fun c ob q n hx => by
    obtain ⟨o', e1⟩ := a.there c ob q hx
    exact b.free c o' e1 (a.free c ob q n hx) hx
  there := fun c ob q hx => by
    obtain ⟨o', e1⟩ := a.there c ob q hx
    exact b.there c o' e1 hx
  tups := fun c xs q => b.tups c xs (a.tups c xs q)
  frzs := fun c ob xs q => b.frzs c ob xs (a.frzs c ob xs q)
  tbls := fun c ps q => by
    obtain ⟨m1, e1⟩ := a.tbls c ps q
    obtain ⟨m2, e2⟩ := b.tbls c _ e1
    exact ⟨m1 ++ m2, by rw [e2, Array.append_assoc]⟩
theorem Un.kept (k : ∀ b u, h.get? b = some u → h'.get? b = some u) : Un fs ex H H h h' :=
  ⟨fun b ob q _ _ _ => k b ob q, fun b ob q _ _ _ => ⟨ob.slots, k b ob q⟩, fun _ _ _ n _ => n, fun b ob q _ => ⟨ob, k b ob q⟩, fun _ _ q => q, fun _ _ _ q => q, fun _ ps q => ⟨#[], by rw [q]; simp⟩⟩
theorem Un.refl : Un fs ex H H h h := Un.kept fun _ _ q => q
theorem Un.laid (k : ∀ b u, h.get? b = some u → h'.get? b = some u) (hp : h.objs.size ≤ a) (hn : H a = none) : Un fs ex H (upd H a o) h h' where
  keep := fun b u q _ _ _ => k b u q
  slot := fun b u q _ _ _ => ⟨u.slots, k b u q⟩
  free := fun b u q n _ => by rw [upd_ne (Nat.ne_of_lt (Nat.lt_of_lt_of_le (Heap.lt_size q) hp))]; exact n
  there := fun b u q _ => ⟨u, k b u q⟩
  tups := fun b xs q => by rw [upd_ne (ne_of_none q hn)]; exact q
  frzs := fun b u xs q => by rw [upd_ne (ne_of_none q hn)]; exact q
  tbls := fun b ps q => ⟨#[], by rw [upd_ne (ne_of_none q hn), q]; simp⟩
theorem Un.write (mu : Mut (H x)) (he : e = x ∨ H e = some (.own x)) (k : ∀ b u, b ≠ e → h.get? b = some u → h'.get? b = some u) (heo : ∃ u, h'.get? e = some u) : Un fs ex H (upd H x o) h h' := by
  have hx : ∀ b, H b = none → b ≠ x := fun b n z => by subst z; rw [n] at mu; exact mu
  have hb : ∀ b, H b = none → b ≠ e := fun b n z => by
    subst z
    rcases he with r | r
    · exact hx b n r
    · rw [n] at r; cases r
  have hm : ∀ b u, H b = some u → ¬ Mut (some u) → b ≠ x := fun b u q nm z => by subst z; rw [q] at mu; exact nm mu
  refine ⟨fun b u q n _ _ => k b u (hb b n) q, fun b u q n _ _ => ⟨u.slots, k b u (hb b n) q⟩, fun b u q n _ => by rw [upd_ne (hx b n)]; exact n, fun b u q _ => ?_,
    fun b xs q => by rw [upd_ne (hm b _ q fun z => z)]; exact q, fun b u xs q => by rw [upd_ne (hm b _ q fun z => z)]; exact q, fun b ps q => ⟨#[], by rw [upd_ne (hm b _ q fun z => z), q]; simp⟩⟩
  by_cases hbe : b = e
  · subst hbe; exact heo
  · exact ⟨u, k b u hbe q⟩
theorem Un.mono (u : Un fs ex H H1 h h1) (hs : ∀ b ∈ fs, b ∈ fs') (hx : ∀ b ∈ ex, b ∈ ex') : Un fs' ex' H H1 h h1 :=
  ⟨fun b ob q n hb he => u.keep b ob q n (fun z => hb (hs b z)) fun z => he (hx b z), fun _ _ q n _ he => u.any q n fun z => he (hx _ z), fun b ob q n he => u.free b ob q n fun z => he (hx b z), fun b ob q he => u.there b ob q fun z => he (hx b z), u.tups, u.frzs, u.tbls⟩
end

/-! ### the heap without what is tracked -/
def trk (h : Heap) (H : Hp) : List Addr := (List.range h.objs.size).filter fun a => (H a).isSome
def hidT (h : Heap) (H : Hp) : Heap := PySem.W.hideAll h (trk h H)
theorem hidT_size (h : Heap) (H : Hp) : (hidT h H).objs.size = h.objs.size := PySem.W.hideAll_size _ _
theorem hidT_get {h : Heap} {H : Hp} {b : Addr} {o : Obj} (e : h.get? b = some o) (n : H b = none) : (hidT h H).get? b = some o :=
  PySem.W.hideAll_get _ e fun hm => by
    have q : (H b).isSome = true := (List.mem_filter.mp hm).2
    rw [n] at q; simp at q
theorem of_hidT {h : Heap} {H : Hp} {b : Addr} {o : Obj} (e : (hidT h H).get? b = some o) : h.get? b = some o ∧ H b = none := by
  have e' : h.get? b = some o := PySem.W.of_hideAll (trk h H) e
  refine ⟨e', ?_⟩
  cases q : H b with
  | none => rfl
  | some x =>
    have hm : b ∈ trk h H := List.mem_filter.mpr ⟨List.mem_range.mpr (Heap.lt_size e'), by simp [q]⟩
    have z : (hidT h H).get? b = none := PySem.W.hideAll_none (trk h H) hm
    rw [z] at e; cases e

/-! ### OpenK's ledger, filled with every new object but one -/
def allNews (g h : Heap) (L : Addr) : List (Addr × Obj) := (List.range h.objs.size).filterMap fun a => if a = L ∨ (g.get? a).isSome = true then none else (h.get? a).map fun o => (a, o)
def rest (g h : Heap) (L d : Addr) : List (Addr × Obj) := (allNews g h L).filter fun p => decide (p.1 ≠ d)
end L2

namespace L2
open PySem PySem.Spec PyProof.Rows

/-- the module's facts, over the base: the heap at the law's entry without what is tracked there -/
structure Mod (K : PySem.W.Frag) (mg : Str → Option Value) (base : Heap) : Prop where
  kin : K.In base
  glob : base.Ns mainGlobals mg
  blt : ∃ mb, base.Ns builtinsNs mb ∧ ∀ x : Str, x ≠ "__name__" → mb x = bootBuiltins x
  nolimit : base.NoLimit

/-- the context: a def's body (or a comprehension's block) running. base: fixed through the whole law; s₀, H₀: the entry; outer: the frames whose slots others may change (a def's callers); stack: all frames that run;
   ex: iterators that were made ahead of the entry and are walked here (a comprehension's); fn: the names whose cells were made at the entry (a def: all; a comprehension's block: its own); calm: not within an except suite; pn: pins that every state bears; xe: what is wanted of an exception that leaves the code -/
structure Cx where
  prog : Program
  w : World
  K : PySem.W.Frag
  mg : Str → Option Value
  base : Heap
  A : Around
  N : List Str
  s₀ : Shared
  H₀ : Hp
  env : Env
  outer : List Env
  stack : List Env
  ex : List Addr
  fn : Str → Bool
  calm : Bool
  pn : List (Addr × Obj)
  xe : Value → Shared → Prop
/-- what stands behind an error: nothing, or one that has nothing behind it -/
def BkH (H : Hp) (a : Addr) (c : Value) : Prop := c = .none ∨ ∃ b ob us, c = .ref b ∧ b ≠ a ∧ H b = some (.frz ob (.own b)) ∧ ob.data = .fields us ∧ 6 ≤ us.size ∧ us[2]? = some Value.none
/-- an error in hand is known -/
def Qt (A : Around) (H : Hp) : Prop := A.handled = none ∨ ∃ a o vs c, A.handled = some (.ref a) ∧ H a = some (.frz o (.own a)) ∧ o.data = .fields vs ∧ (vs[2]? = some c ∧ 6 ≤ vs.size) ∧ BkH H a c
/-- the callers' frames -/
def frs (l : List Env) : List Addr := l.filterMap (·.frame)
abbrev Cx.fs (X : Cx) : List Addr := frs X.outer

def Vis (sc : Scope) (x : Str) : Prop := sc.names.lookup x = some .local ∨ sc.names.lookup x = some .cell ∨ sc.names.lookup x = some .free
def Loc (sc : Scope) (x : Str) : Prop := sc.names.lookup x = some .local ∨ sc.names.lookup x = some .cell
def Look (env : Env) (h : Heap) (m : Str → Option Value) (x : Str) (u : Value) : Prop :=
  (env.kindOf x = some .local ∧ m x = some u) ∨ ((env.kindOf x = some .cell ∨ env.kindOf x = some .free) ∧ ∃ c, env.cells.lookup x = some c ∧ h.IsCell c (some u))

structure Cx.Ok (X : Cx) : Prop where
  mod : Mod X.K X.mg X.base
  kind : X.env.scope.kind = .function
  glob : X.env.globals = mainGlobals
  blt : X.env.builtins = builtinsNs
  above : X.s₀.heap.objs.size ≤ X.env.locals
  inj : ∀ x y c, X.env.cells.lookup x = some c → X.env.cells.lookup y = some c → x = y
  has : ∀ x, (X.env.kindOf x = some .cell ∨ X.env.kindOf x = some .free) → ∃ c, X.env.cells.lookup x = some c
  cab : ∀ x c, X.fn x = true → X.env.cells.lookup x = some c → X.s₀.heap.objs.size ≤ c
  hd : Qt X.A X.H₀
  frames : X.A.frames = some X.stack
  stk : X.stack = X.outer ∨ (X.stack = X.env :: X.outer ∧ X.env.frame = some X.env.locals)
  exf : ∀ b ∈ X.ex, b ≠ X.env.locals ∧ ∀ x c, X.env.cells.lookup x = some c → c ≠ b
  bs : ∀ b o, X.base.get? b = some o → X.s₀.heap.get? b = some o ∧ X.H₀ b = none
  bsz : X.base.objs.size ≤ X.s₀.heap.objs.size
  noex : ∀ b o, X.base.get? b = some o → b ∉ X.ex
  exfs : ∀ b ∈ X.ex, b ∉ X.fs
  funs : X.s₀.heap.FunFrames X.base X.outer
  frf : ∀ b ∈ X.fs, X.H₀ b = none

structure Inv (X : Cx) (pins : List (Addr × Obj)) (σ : List (Option V)) (H : Hp) (s : Shared) : Prop where
  ok : X.Ok
  os : s.os = X.s₀.os
  bare : AllBare s.gens
  base : Un X.fs X.ex X.H₀ H X.s₀.heap s.heap
  loc : ∃ m, s.heap.Ns X.env.locals m ∧ ∀ (i : Nat) (x : Str) (v : V), X.N[i]? = some x → σ[i]? = some (some v) → Vis X.env.scope x → ∃ u, RelV v u ∧ Look X.env s.heap m x u
  cell : ∀ x c, X.env.cells.lookup x = some c → ∃ v, s.heap.IsCell c v
  free : H X.env.locals = none
  freeC : ∀ x c, X.env.cells.lookup x = some c → H c = none
  pin : ∀ p ∈ X.pn ++ pins, s.heap.get? p.1 = some p.2 ∧ H p.1 = none ∧ p.1 ≠ X.env.locals ∧ p.1 ∉ X.fs ∧ ∀ v, p.2.data ≠ .cell v
  hok : HOk X.prog X.w H s.heap
  len : σ.length = X.N.length

section
variable {X : Cx} {pins : List (Addr × Obj)} {σ : List (Option V)} {H H' : Hp} {s : Shared} {h' : Heap}

theorem Cx.Ok.nofr (ok : X.Ok) {b : Addr} {o : Obj} (e : X.base.get? b = some o) : b ∉ X.fs := fun hb => by
  have := (ok.funs.mem hb).1
  rw [e] at this; cases this
theorem Inv.bs (I : Inv X pins σ H s) : ∀ b o, X.base.get? b = some o → s.heap.get? b = some o ∧ H b = none := fun b o e =>
  ⟨I.base.keep b o (I.ok.bs b o e).1 (I.ok.bs b o e).2 (I.ok.nofr e) (I.ok.noex b o e), I.base.free b o (I.ok.bs b o e).1 (I.ok.bs b o e).2 (I.ok.noex b o e)⟩
theorem Inv.bk (I : Inv X pins σ H s) : ∀ b o, X.base.get? b = some o → s.heap.get? b = some o := fun b o e => (I.bs b o e).1
theorem Inv.mod (I : Inv X pins σ H s) : Mod X.K X.mg X.base := I.ok.mod
theorem BkH.keep {H H' : Hp} {a : Addr} {c : Value} (h : BkH H a c) (k : ∀ b o u, H b = some (.frz o u) → H' b = some (.frz o u)) : BkH H' a c := by
  rcases h with h | ⟨b, ob, us, e, n, g, r⟩
  · exact .inl h
  · exact .inr ⟨b, ob, us, e, n, k _ _ _ g, r⟩
theorem Inv.qt (I : Inv X pins σ H s) : Qt X.A H := by
  rcases I.ok.hd with q | ⟨a, o, vs, c, e, f, d, z, b⟩
  · exact .inl q
  · exact .inr ⟨a, o, vs, c, e, I.base.frzs _ _ _ f, d, z, b.keep I.base.frzs⟩
theorem Inv.hq (I : Inv X pins σ H s) : QQ.Hq X.A s.heap := by
  rcases I.qt with q | ⟨a, o, vs, c, e, f, d, z, b⟩
  · exact .inl q
  · obtain ⟨g, _⟩ := I.hok a _ f
    refine .inr ⟨a, o, vs, e, g, d, z.2, ?_⟩
    rcases b with b | ⟨b, ob, us, e1, n, f1, r⟩
    · exact .inl (z.1.trans (congrArg some b))
    · obtain ⟨g1, _⟩ := I.hok b _ f1
      exact .inr ⟨b, ob, us, z.1.trans (congrArg some e1), n, g1, r⟩
theorem Inv.kIn (I : Inv X pins σ H s) : X.K.In s.heap := I.ok.mod.kin.keeps I.bk
theorem Inv.nolimit (I : Inv X pins σ H s) : s.heap.NoLimit := I.ok.mod.nolimit.keeps I.bk
/-- the frame over the base: for OpenK's rules (K.In X.base is I.mod.kin) -/
theorem Inv.fr (I : Inv X pins σ H s) : ∃ m, Fr X.base X.env.locals s.heap m :=
  let ⟨m, hn, _⟩ := I.loc
  ⟨m, hn, I.bk, Nat.le_trans I.ok.bsz I.ok.above⟩
theorem Inv.lt (I : Inv X pins σ H s) : X.env.locals < s.heap.objs.size := let ⟨_, hn, _⟩ := I.loc; hn.lt
theorem Inv.sz (I : Inv X pins σ H s) : X.s₀.heap.objs.size ≤ s.heap.objs.size := Nat.le_trans I.ok.above (Nat.le_of_lt I.lt)
theorem Inv.nofs (I : Inv X pins σ H s) {a : Addr} (h : s.heap.objs.size ≤ a) : a ∉ X.fs := fun hb => by
  obtain ⟨_, o, ho, _⟩ := I.ok.funs.mem hb
  exact absurd (Nat.lt_of_lt_of_le (Heap.lt_size ho) (Nat.le_trans I.sz h)) (Nat.lt_irrefl _)
theorem Inv.cne (I : Inv X pins σ H s) : ∀ x c, X.env.cells.lookup x = some c → c ≠ X.env.locals := fun x c e z => by
  obtain ⟨v, o, ho, hd⟩ := I.cell x c e
  obtain ⟨m, ⟨o', es, ep, ho', hd', _⟩, _⟩ := I.loc
  rw [z, ho'] at ho; cases ho; rw [hd'] at hd; cases hd
theorem Inv.funs (I : Inv X pins σ H s) : s.heap.FunFrames X.base X.outer := by
  have all : ∀ (l : List Env), (∀ b ∈ frs l, b ∈ X.fs) → X.s₀.heap.FunFrames X.base l → s.heap.FunFrames X.base l := by
    intro l
    induction l with
    | nil => intro _ _; trivial
    | cons env r ih =>
      intro hs hl
      obtain ⟨hk, ⟨L, o, hf, hn, ho, hd⟩, hr⟩ := hl
      have hL : L ∈ X.fs := hs L (by unfold frs; rw [List.filterMap_cons, hf]; exact List.mem_cons_self)
      obtain ⟨sl, e⟩ := I.base.slot L o ho (I.ok.frf L hL) hL fun z => I.ok.exfs L z hL
      exact ⟨hk, ⟨L, _, hf, hn, e, hd⟩, ih (fun b hb => hs b (by unfold frs; rw [List.filterMap_cons, hf]; exact List.mem_cons_of_mem _ hb)) hr⟩
  exact all X.outer (fun _ hb => hb) I.ok.funs

/-- the frames that run, for a call -/
theorem Inv.stack (I : Inv X pins σ H s) : s.heap.FunFrames X.base X.stack := by
  rcases I.ok.stk with e | ⟨e, hf⟩
  · rw [e]; exact I.funs
  · rw [e]
    obtain ⟨m, hn, _⟩ := I.loc
    refine .cons (by rw [I.ok.kind]; decide) hf hn ?_ I.funs
    exact Heap.get?_none_of_le (Nat.le_trans I.ok.bsz I.ok.above)
theorem Inv.stkSub (I : Inv X pins σ H s) : ∀ b ∈ frs X.stack, b ∈ X.env.locals :: X.fs := fun b hb => by
  rcases I.ok.stk with e | ⟨e, hf⟩
  · rw [e] at hb; exact List.mem_cons_of_mem _ hb
  · rw [e] at hb
    unfold frs at hb
    rw [List.filterMap_cons, hf] at hb
    exact hb
theorem Inv.stkFree (I : Inv X pins σ H s) : ∀ b ∈ frs X.stack, H b = none := fun b hb => by
  rcases List.mem_cons.mp (I.stkSub b hb) with e | hb
  · rw [e]; exact I.free
  · obtain ⟨_, o, ho, _⟩ := I.ok.funs.mem hb
    exact I.base.free b o ho (I.ok.frf b hb) fun z => I.ok.exfs b z hb

/-- THE STEP: the untracked objects but the frame and the records at ch are kept (the callers' frames up to slots), the frame's map is kept, the new abstract heap is held -/
theorem Inv.step {g' : Array GenState} {t' : Nat} {d' : Drawn} {ch : List Addr} (I : Inv X pins σ H s)
    (hch : ∀ b ∈ ch, (b ∈ X.ex ∨ X.s₀.heap.objs.size ≤ b) ∧ b ≠ X.env.locals ∧ (∀ x c, X.env.cells.lookup x = some c → c ≠ b) ∧ ∀ p ∈ X.pn ++ pins, p.1 ≠ b)
    (keep : ∀ b o, b ≠ X.env.locals → b ∉ X.fs → b ∉ ch → s.heap.get? b = some o → H b = none → h'.get? b = some o)
    (slot : ∀ b o, b ≠ X.env.locals → b ∈ X.fs → b ∉ ch → s.heap.get? b = some o → H b = none → ∃ sl, h'.get? b = some { o with slots := sl }) (free : ∀ b o, b ∉ ch → s.heap.get? b = some o → H b = none → H' b = none)
    (there : ∀ b o, b ∉ ch → s.heap.get? b = some o → ∃ o', h'.get? b = some o')
    (tups : ∀ b xs, H b = some (.tup xs) → H' b = some (.tup xs)) (frzs : ∀ b o u, H b = some (.frz o u) → H' b = some (.frz o u)) (tbls : ∀ b ps, H b = some (.tbl ps) → ∃ more, H' b = some (.tbl (ps ++ more)))
    (ns : ∀ m, s.heap.Ns X.env.locals m → h'.Ns X.env.locals m) (hok : HOk X.prog X.w H' h') (hg : AllBare g') :
    Inv X pins σ H' { s with heap := h', gens := g', drawn := d', toks := t' } := by
  have neL : ∀ b o, X.s₀.heap.get? b = some o → b ≠ X.env.locals := fun b o e => Nat.ne_of_lt (Nat.lt_of_lt_of_le (Heap.lt_size e) I.ok.above)
  have neC : ∀ b o, X.s₀.heap.get? b = some o → b ∉ X.ex → b ∉ ch := fun b o e hx hb => by
    rcases (hch b hb).1 with z | z
    · exact hx z
    · exact absurd (Nat.lt_of_lt_of_le (Heap.lt_size e) z) (Nat.lt_irrefl _)
  have cellK : ∀ x c, X.env.cells.lookup x = some c → ∀ v, s.heap.IsCell c v → h'.IsCell c v := fun x c e v ⟨o, ho, hd⟩ => by
    have nch : c ∉ ch := fun z => (hch c z).2.2.1 x c e rfl
    by_cases hc : c ∈ X.fs
    · obtain ⟨sl, q⟩ := slot c o (I.cne x c e) hc nch ho (I.freeC x c e)
      exact ⟨_, q, hd⟩
    · exact ⟨o, keep c o (I.cne x c e) hc nch ho (I.freeC x c e), hd⟩
  refine ⟨I.ok, I.os, hg, ⟨fun b o e n hb hx => ?_, fun b o e n hb hx => ?_, fun b o e n hx => ?_, fun b o e hx => ?_, fun b xs e => tups b xs (I.base.tups b xs e), fun b o xs e => frzs b o xs (I.base.frzs b o xs e), fun b ps e => ?_⟩, ?_, fun x c e => ?_, ?_, fun x c e => ?_, fun p hp => ?_, hok, I.len⟩
  · exact keep b o (neL b o e) hb (neC b o e hx) (I.base.keep b o e n hb hx) (I.base.free b o e n hx)
  · obtain ⟨sl, e1⟩ := I.base.slot b o e n hb hx
    obtain ⟨sl', e2⟩ := slot b _ (neL b o e) hb (neC b o e hx) e1 (I.base.free b o e n hx)
    exact ⟨sl', e2⟩
  · obtain ⟨o', e1⟩ := I.base.there b o e hx
    exact free b o' (neC b o e hx) e1 (I.base.free b o e n hx)
  · obtain ⟨o', e1⟩ := I.base.there b o e hx
    exact there b o' (neC b o e hx) e1
  · obtain ⟨m1, e1⟩ := I.base.tbls b ps e
    obtain ⟨m2, e2⟩ := tbls b _ e1
    exact ⟨m1 ++ m2, by rw [e2, Array.append_assoc]⟩
  · obtain ⟨m, hn, hl⟩ := I.loc
    refine ⟨m, ns m hn, fun i x v e1 e2 e3 => ?_⟩
    obtain ⟨u, r, l⟩ := hl i x v e1 e2 e3
    refine ⟨u, r, ?_⟩
    rcases l with l | ⟨k, c, e, z⟩
    · exact .inl l
    · exact .inr ⟨k, c, e, cellK x c e _ z⟩
  · obtain ⟨v, z⟩ := I.cell x c e
    exact ⟨v, cellK x c e v z⟩
  · obtain ⟨m, ⟨o, _, _, ho, _⟩, _⟩ := I.loc
    exact free _ o (fun z => (hch _ z).2.1 rfl) ho I.free
  · obtain ⟨v, o, ho, hd⟩ := I.cell x c e
    exact free c o (fun z => (hch c z).2.2.1 x c e rfl) ho (I.freeC x c e)
  · obtain ⟨e, n, ne, nf, d⟩ := I.pin p hp
    have nch : p.1 ∉ ch := fun z => (hch p.1 z).2.2.2 p hp rfl
    exact ⟨keep p.1 p.2 ne nf nch e n, free p.1 p.2 nch e n, ne, nf, d⟩
theorem Inv.step0 {g' : Array GenState} {t' : Nat} {d' : Drawn} {ch : List Addr} (I : Inv X pins σ H s)
    (hch : ∀ b ∈ ch, (b ∈ X.ex ∨ X.s₀.heap.get? b = none) ∧ b ≠ X.env.locals ∧ (∀ x c, X.env.cells.lookup x = some c → c ≠ b) ∧ ∀ p ∈ X.pn ++ pins, p.1 ≠ b)
    (keep : ∀ b o, b ≠ X.env.locals → b ∉ X.fs → b ∉ ch → s.heap.get? b = some o → H b = none → h'.get? b = some o)
    (slot : ∀ b o, b ≠ X.env.locals → b ∈ X.fs → b ∉ ch → s.heap.get? b = some o → H b = none → ∃ sl, h'.get? b = some { o with slots := sl }) (free : ∀ b o, b ∉ ch → s.heap.get? b = some o → H b = none → H' b = none)
    (there : ∀ b o, b ∉ ch → s.heap.get? b = some o → ∃ o', h'.get? b = some o')
    (tups : ∀ b xs, H b = some (.tup xs) → H' b = some (.tup xs)) (frzs : ∀ b o u, H b = some (.frz o u) → H' b = some (.frz o u)) (tbls : ∀ b ps, H b = some (.tbl ps) → ∃ more, H' b = some (.tbl (ps ++ more)))
    (ns : ∀ m, s.heap.Ns X.env.locals m → h'.Ns X.env.locals m) (hok : HOk X.prog X.w H' h') (hg : AllBare g') :
    Inv X pins σ H' { s with heap := h', gens := g', drawn := d', toks := t' } := by
  have neL : ∀ b o, X.s₀.heap.get? b = some o → b ≠ X.env.locals := fun b o e => Nat.ne_of_lt (Nat.lt_of_lt_of_le (Heap.lt_size e) I.ok.above)
  have neC : ∀ b o, X.s₀.heap.get? b = some o → b ∉ X.ex → b ∉ ch := fun b o e hx hb => by
    rcases (hch b hb).1 with z | z
    · exact hx z
    · rw [e] at z; cases z
  have cellK : ∀ x c, X.env.cells.lookup x = some c → ∀ v, s.heap.IsCell c v → h'.IsCell c v := fun x c e v ⟨o, ho, hd⟩ => by
    have nch : c ∉ ch := fun z => (hch c z).2.2.1 x c e rfl
    by_cases hc : c ∈ X.fs
    · obtain ⟨sl, q⟩ := slot c o (I.cne x c e) hc nch ho (I.freeC x c e)
      exact ⟨_, q, hd⟩
    · exact ⟨o, keep c o (I.cne x c e) hc nch ho (I.freeC x c e), hd⟩
  refine ⟨I.ok, I.os, hg, ⟨fun b o e n hb hx => ?_, fun b o e n hb hx => ?_, fun b o e n hx => ?_, fun b o e hx => ?_, fun b xs e => tups b xs (I.base.tups b xs e), fun b o xs e => frzs b o xs (I.base.frzs b o xs e), fun b ps e => ?_⟩, ?_, fun x c e => ?_, ?_, fun x c e => ?_, fun p hp => ?_, hok, I.len⟩
  · exact keep b o (neL b o e) hb (neC b o e hx) (I.base.keep b o e n hb hx) (I.base.free b o e n hx)
  · obtain ⟨sl, e1⟩ := I.base.slot b o e n hb hx
    obtain ⟨sl', e2⟩ := slot b _ (neL b o e) hb (neC b o e hx) e1 (I.base.free b o e n hx)
    exact ⟨sl', e2⟩
  · obtain ⟨o', e1⟩ := I.base.there b o e hx
    exact free b o' (neC b o e hx) e1 (I.base.free b o e n hx)
  · obtain ⟨o', e1⟩ := I.base.there b o e hx
    exact there b o' (neC b o e hx) e1
  · obtain ⟨m1, e1⟩ := I.base.tbls b ps e
    obtain ⟨m2, e2⟩ := tbls b _ e1
    exact ⟨m1 ++ m2, by rw [e2, Array.append_assoc]⟩
  · obtain ⟨m, hn, hl⟩ := I.loc
    refine ⟨m, ns m hn, fun i x v e1 e2 e3 => ?_⟩
    obtain ⟨u, r, l⟩ := hl i x v e1 e2 e3
    refine ⟨u, r, ?_⟩
    rcases l with l | ⟨k, c, e, z⟩
    · exact .inl l
    · exact .inr ⟨k, c, e, cellK x c e _ z⟩
  · obtain ⟨v, z⟩ := I.cell x c e
    exact ⟨v, cellK x c e v z⟩
  · obtain ⟨m, ⟨o, _, _, ho, _⟩, _⟩ := I.loc
    exact free _ o (fun z => (hch _ z).2.1 rfl) ho I.free
  · obtain ⟨v, o, ho, hd⟩ := I.cell x c e
    exact free c o (fun z => (hch c z).2.2.1 x c e rfl) ho (I.freeC x c e)
  · obtain ⟨e, n, ne, nf, d⟩ := I.pin p hp
    have nch : p.1 ∉ ch := fun z => (hch p.1 z).2.2.2 p hp rfl
    exact ⟨keep p.1 p.2 ne nf nch e n, free p.1 p.2 nch e n, ne, nf, d⟩
/-- .. where the frame's own object is kept too -/
theorem Inv.un {t' : Nat} (I : Inv X pins σ H s) (u : Un X.fs [] H H' s.heap h') (hok : HOk X.prog X.w H' h') : Inv X pins σ H' { s with heap := h', toks := t' } := by
  obtain ⟨m, ⟨o, es, ep, ho, r⟩, _⟩ := id I.loc
  obtain ⟨sl, hL⟩ := u.any ho I.free (by simp)
  exact I.step (g' := s.gens) (d' := s.drawn) (ch := []) (fun _ z => nomatch z) (fun b o _ hb _ e n => u.keep b o e n hb (by simp)) (fun b o _ hb _ e n => u.slot b o e n hb (by simp)) (fun b o _ e n => u.free b o e n (by simp)) (fun b o _ e => u.there b o e (by simp)) u.tups u.frzs u.tbls (fun m' hm => by
    obtain ⟨o', es', ep', ho', r'⟩ := hm
    rw [ho] at ho'; cases ho'
    exact ⟨_, es', ep', hL, r'⟩) hok I.bare
/-- behind a call (or a comprehension's block): the slots of this frame may have changed too, the records at ch may have turned -/
theorem Inv.call {g' : Array GenState} {t' : Nat} {d' : Drawn} {ch : List Addr} (I : Inv X pins σ H s) (u : Un (frs X.stack) ch H H' s.heap h') (hok : HOk X.prog X.w H' h') (hg : AllBare g')
    (hch : ∀ b ∈ ch, (b ∈ X.ex ∨ X.s₀.heap.objs.size ≤ b) ∧ b ≠ X.env.locals ∧ (∀ x c, X.env.cells.lookup x = some c → c ≠ b) ∧ ∀ p ∈ X.pn ++ pins, p.1 ≠ b) :
    Inv X pins σ H' { s with heap := h', gens := g', drawn := d', toks := t' } := by
  obtain ⟨m, ⟨o, es, ep, ho, r⟩, _⟩ := id I.loc
  obtain ⟨sl, hL⟩ := u.any ho I.free fun z => (hch _ z).2.1 rfl
  exact I.step (ch := ch) hch (fun b o hL hb hc e n => u.keep b o e n (fun z => (List.mem_cons.mp (I.stkSub b z)).elim hL hb) hc) (fun b o _ _ hc e n => u.any e n hc) (fun b o hc e n => u.free b o e n hc) (fun b o hc e => u.there b o e hc) u.tups u.frzs u.tbls (fun m' hm => by
    obtain ⟨o', es', ep', ho', r'⟩ := hm
    rw [ho] at ho'; cases ho'
    exact ⟨_, es', ep', hL, r'⟩) hok hg
/-- an untracked record of ours (an iterator) has turned -/
theorem Inv.turned {t' : Nat} {it : Addr} (I : Inv X pins σ H s) (k : ∀ b o, b ≠ it → s.heap.get? b = some o → h'.get? b = some o) (hn : H it = none) (hL : it ≠ X.env.locals)
    (h1 : it ∈ X.ex ∨ X.s₀.heap.objs.size ≤ it) (h2 : ∀ x c, X.env.cells.lookup x = some c → c ≠ it) (h3 : ∀ p ∈ X.pn ++ pins, p.1 ≠ it) : Inv X pins σ H { s with heap := h', toks := t' } := by
  have nit : ∀ b u, H b = some u → b ≠ it := fun b u e z => by rw [z, hn] at e; cases e
  refine I.step (g' := s.gens) (d' := s.drawn) (ch := [it]) (fun b hb => ?_) (fun b o _ _ hc e _ => k b o (fun z => hc (by simp [z])) e) (fun b o _ _ hc e _ => ⟨o.slots, k b o (fun z => hc (by simp [z])) e⟩) (fun _ _ _ _ n => n)
    (fun b o hc e => ⟨o, k b o (fun z => hc (by simp [z])) e⟩) (fun _ _ e => e) (fun _ _ _ e => e) (fun b ps e => ⟨#[], by rw [e]; simp⟩) (fun m hm => ?_) (fun b u e => ?_) I.bare
  · have e : b = it := by simpa using hb
    subst e
    exact ⟨h1, hL, h2, h3⟩
  · obtain ⟨o, es, ep, ho, r⟩ := hm
    exact ⟨o, es, ep, k _ o (Ne.symm hL) ho, r⟩
  · refine (I.hok b u e).stay (fun c v hc q => k c v ?_ q) (fun _ q => q) fun _ _ q => q
    rcases hc with z | z
    · rw [z]; exact nit b u e
    · exact nit c _ z
theorem Inv.tok (I : Inv X pins σ H s) (t : Nat) : Inv X pins σ H { s with toks := t } := I.un (h' := s.heap) (t' := t) Un.refl I.hok
/-- all objects kept -/
theorem Inv.kept {t' : Nat} (I : Inv X pins σ H s) (k : ∀ b u, s.heap.get? b = some u → h'.get? b = some u) : Inv X pins σ H { s with heap := h', toks := t' } := I.un (Un.kept k) (I.hok.kept k)
/-- a new object laid and tracked -/
theorem Inv.laid {a : Addr} {o : HO} {t' : Nat} (I : Inv X pins σ H s) (k : ∀ b u, s.heap.get? b = some u → h'.get? b = some u) (hp : s.heap.objs.size ≤ a) (new : ObjOk X.prog X.w (upd H a o) h' a o) :
    Inv X pins σ (upd H a o) { s with heap := h', toks := t' } := I.un (Un.laid k hp (I.hok.fresh hp)) (I.hok.laid k hp new)
/-- an object written -/
theorem Inv.write {x e : Addr} {o : HO} {t' : Nat} (I : Inv X pins σ H s) (mu : Mut (H x)) (he : e = x ∨ H e = some (.own x)) (k : ∀ b u, b ≠ e → s.heap.get? b = some u → h'.get? b = some u) (heo : ∃ u, h'.get? e = some u)
    (new : ObjOk X.prog X.w (upd H x o) h' x o) : Inv X pins σ (upd H x o) { s with heap := h', toks := t' } := I.un (Un.write mu he k heo) (I.hok.write mu he k heo new)
theorem Inv.pins_of {pins' : List (Addr × Obj)} (I : Inv X pins σ H s) (h : ∀ p ∈ pins', s.heap.get? p.1 = some p.2 ∧ H p.1 = none ∧ p.1 ≠ X.env.locals ∧ p.1 ∉ X.fs ∧ ∀ v, p.2.data ≠ .cell v) : Inv X pins' σ H s :=
  ⟨I.ok, I.os, I.bare, I.base, I.loc, I.cell, I.free, I.freeC, fun p hp => (List.mem_append.mp hp).elim (fun z => I.pin p (List.mem_append_left _ z)) (h p), I.hok, I.len⟩

theorem nodup_ix {N : List Str} (hN : N.Nodup) {i j : Nat} {x : Str} (a : N[i]? = some x) (b : N[j]? = some x) : i = j := by
  obtain ⟨h1, e1⟩ := List.getElem?_eq_some_iff.mp a
  obtain ⟨h2, e2⟩ := List.getElem?_eq_some_iff.mp b
  exact (List.getElem_inj hN).mp (e1.trans e2.symm)

/-- a name is stored; what changed -/
theorem store_ok2 {M : Model} {A : Around} {E : Value → Shared → Prop} {i : Nat} {x : Str} {v : V} {u : Value} {Q : Unit → Shared → Prop} (I : Inv X pins σ H s) (hN : X.N.Nodup) (hi : X.N[i]? = some x) (hx : Loc X.env.scope x) (r : RelV v u)
    (h : ∀ s', Inv X pins (σ.set i (some v)) H s' → (∃ a, Heap.SameBut a s.heap s'.heap ∧ (a = X.env.locals ∨ X.env.cells.lookup x = some a)) → Q () s') (hf : X.fn x = true ∨ X.env.scope.names.lookup x = some .local := by first | exact .inl rfl | exact .inr rfl | assumption) : wpAny M A (storeName X.env x u) Q E s := by
  obtain ⟨m, hn, hl⟩ := id I.loc
  have hcls : (X.env.scope.kind == .class || (X.env.scope.kind == .module && X.env.locals != X.env.globals)) = false := by rw [I.ok.kind]; rfl
  have hiσ : i < σ.length := by rw [I.len]; exact (List.getElem?_eq_some_iff.mp hi).1
  have cne := I.cne
  have tracked : ∀ {a : Addr} {h' : Heap}, (∃ o, s.heap.get? a = some o ∧ H a = none) → Heap.SameBut a s.heap h' → HOk X.prog X.w H h' := fun {a h'} ha hs b ob e => by
    obtain ⟨_, _, hfree⟩ := ha
    refine (I.hok b ob e).stay (fun c w' hc q => (hs.2 c ?_).trans q) (fun _ q => q) fun _ _ q => q
    rintro rfl
    rcases hc with rfl | hc
    · rw [hfree] at e; cases e
    · rw [hfree] at hc; cases hc
  rcases hx with hk | hk
  · refine wpAny_storeName_local hk hn (fun h' hn' hs => ?_) hcls
    obtain ⟨oL, _, _, hoL, _⟩ := id hn
    refine h _ ⟨I.ok, I.os, I.bare, ⟨fun b o e n hb hx => ?_, fun b o e n hb hx => ?_, I.base.free, fun b o e hx => ?_, I.base.tups, I.base.frzs, I.base.tbls⟩, ⟨_, hn', fun j y v' e1 e2 e3 => ?_⟩, fun y c e => ?_, I.free, I.freeC, fun p hp => ?_, tracked ⟨oL, hoL, I.free⟩ hs, by simpa using I.len⟩ ⟨_, hs, .inl rfl⟩
    · exact (hs.2 b (Nat.ne_of_lt (Nat.lt_of_lt_of_le (Heap.lt_size e) I.ok.above))).trans (I.base.keep b o e n hb hx)
    · obtain ⟨sl, e1⟩ := I.base.slot b o e n hb hx
      exact ⟨sl, (hs.2 b (Nat.ne_of_lt (Nat.lt_of_lt_of_le (Heap.lt_size e) I.ok.above))).trans e1⟩
    · obtain ⟨o', e1⟩ := I.base.there b o e hx
      exact ⟨o', (hs.2 b (Nat.ne_of_lt (Nat.lt_of_lt_of_le (Heap.lt_size e) I.ok.above))).trans e1⟩
    · by_cases hj : j = i
      · subst hj
        rw [hi] at e1; cases e1
        rw [List.getElem?_set_self hiσ] at e2
        cases e2
        exact ⟨u, r, .inl ⟨hk, by simp⟩⟩
      · rw [List.getElem?_set_ne (Ne.symm hj)] at e2
        obtain ⟨u', r', q⟩ := hl j y v' e1 e2 e3
        refine ⟨u', r', ?_⟩
        rcases q with ⟨k, e⟩ | ⟨k, c, e, z⟩
        · refine .inl ⟨k, ?_⟩
          have : y ≠ x := fun e => hj (nodup_ix hN e1 (e ▸ hi))
          simp [this, e]
        · exact .inr ⟨k, c, e, z.sameBut hs (cne y c e)⟩
    · obtain ⟨w', z⟩ := I.cell y c e
      exact ⟨w', z.sameBut hs (cne y c e)⟩
    · obtain ⟨e, n, ne, nf, d⟩ := I.pin p hp
      exact ⟨(hs.2 p.1 ne).trans e, n, ne, nf, d⟩
  · have hfn : X.fn x = true := by
      rcases hf with z | z
      · exact z
      · rw [z] at hk; cases hk
    obtain ⟨c, hc⟩ := I.ok.has x (.inl hk)
    obtain ⟨w', z⟩ := I.cell x c hc
    refine wpAny_storeName_cell I.ok.kind hk hc z (fun h' hc' hs => ?_)
    obtain ⟨oc, hoc, hocd⟩ := id z
    refine h { s with heap := h' } ⟨I.ok, I.os, I.bare, ⟨fun b o e n hb hx => ?_, fun b o e n hb hx => ?_, I.base.free, fun b o e hx => ?_, I.base.tups, I.base.frzs, I.base.tbls⟩, ⟨m, hn.sameBut hs (Ne.symm (cne x c hc)), fun j y v' e1 e2 e3 => ?_⟩, fun y c' e => ?_, I.free, I.freeC, fun p hp => ?_, tracked ⟨oc, hoc, I.freeC x c hc⟩ hs, by simpa using I.len⟩ ⟨c, hs, .inr hc⟩
    · exact (hs.2 b (Nat.ne_of_lt (Nat.lt_of_lt_of_le (Heap.lt_size e) (I.ok.cab x c hfn hc)))).trans (I.base.keep b o e n hb hx)
    · obtain ⟨sl, e1⟩ := I.base.slot b o e n hb hx
      exact ⟨sl, (hs.2 b (Nat.ne_of_lt (Nat.lt_of_lt_of_le (Heap.lt_size e) (I.ok.cab x c hfn hc)))).trans e1⟩
    · obtain ⟨o', e1⟩ := I.base.there b o e hx
      exact ⟨o', (hs.2 b (Nat.ne_of_lt (Nat.lt_of_lt_of_le (Heap.lt_size e) (I.ok.cab x c hfn hc)))).trans e1⟩
    · by_cases hj : j = i
      · subst hj
        rw [hi] at e1; cases e1
        rw [List.getElem?_set_self hiσ] at e2
        cases e2
        exact ⟨u, r, .inr ⟨.inl hk, c, hc, hc'⟩⟩
      · rw [List.getElem?_set_ne (Ne.symm hj)] at e2
        obtain ⟨u', r', q⟩ := hl j y v' e1 e2 e3
        refine ⟨u', r', ?_⟩
        rcases q with q | ⟨k, c', e, z'⟩
        · exact .inl q
        · refine .inr ⟨k, c', e, z'.sameBut hs ?_⟩
          rintro rfl
          exact hj (nodup_ix hN e1 (I.ok.inj _ _ _ e hc ▸ hi))
    · by_cases hcc : c' = c
      · subst hcc; exact ⟨_, hc'⟩
      · obtain ⟨w2, z2⟩ := I.cell y c' e
        exact ⟨w2, z2.sameBut hs hcc⟩
    · obtain ⟨e, n, ne, nf, d⟩ := I.pin p hp
      refine ⟨(hs.2 p.1 ?_).trans e, n, ne, nf, d⟩
      intro q
      rw [q, hoc] at e
      have q' : oc = p.2 := Option.some.inj e
      exact d w' (by rw [← q']; exact hocd)
theorem store_ok {M : Model} {A : Around} {E : Value → Shared → Prop} {i : Nat} {x : Str} {v : V} {u : Value} {Q : Unit → Shared → Prop} (I : Inv X pins σ H s) (hN : X.N.Nodup) (hi : X.N[i]? = some x) (hx : Loc X.env.scope x) (r : RelV v u)
    (h : ∀ s', Inv X pins (σ.set i (some v)) H s' → Q () s') (hf : X.fn x = true ∨ X.env.scope.names.lookup x = some .local := by first | exact .inl rfl | exact .inr rfl | assumption) : wpAny M A (storeName X.env x u) Q E s :=
  store_ok2 I hN hi hx r (fun s' I' _ => h s' I') hf
/-- behind a call or a block, the state as it is -/
theorem Inv.call' {s' : Shared} {ch : List Addr} (I : Inv X pins σ H s) (ho : s'.os = s.os) (u : Un (frs X.stack) ch H H' s.heap s'.heap) (hok : HOk X.prog X.w H' s'.heap) (hg : AllBare s'.gens)
    (hch : ∀ b ∈ ch, (b ∈ X.ex ∨ X.s₀.heap.objs.size ≤ b) ∧ b ≠ X.env.locals ∧ (∀ x c, X.env.cells.lookup x = some c → c ≠ b) ∧ ∀ p ∈ X.pn ++ pins, p.1 ≠ b) : Inv X pins σ H' s' := by
  obtain ⟨h', g', d', t', o'⟩ := s'
  have e : o' = s.os := ho
  subst e
  exact I.call (g' := g') (t' := t') (d' := d') u hok hg hch
end

/-! ### the judgements -/
/-- an exception: its class, its own dict's address (where it has one), the abstract heap behind it -/
abbrev XK := Value → Option Addr → Hp → Prop
abbrev St := List (Option V)
abbrev VK := V → Hp → Prop
/-- an expression's reading; a test's; an argument list's -/
abbrev TE := St → Hp → VK → Prop
abbrev TT := St → Hp → (Bool → Hp → Prop) → Prop
abbrev TA := St → Hp → (List V → Hp → Prop) → Prop
/-- what is wanted behind a statement -/
structure Ends where
  nx : St → Hp → Prop
  rt : VK
  bk : St → Hp → Prop := fun _ _ => False
  ct : St → Hp → Prop := fun _ _ => False
abbrev TS := Ends → St → Hp → Prop

def EP (X : Cx) (pins : List (Addr × Obj)) (σ : St) (Q : VK) (u : Value) (s' : Shared) : Prop := ∃ v H', Inv X pins σ H' s' ∧ RelV v u ∧ Q v H'
def TP (X : Cx) (pins : List (Addr × Obj)) (σ : St) (Q : Bool → Hp → Prop) (b : Bool) (s' : Shared) : Prop := ∃ H', Inv X pins σ H' s' ∧ Q b H'
def AP (X : Cx) (pins : List (Addr × Obj)) (σ : St) (Q : List V → Hp → Prop) (us : List Value) (s' : Shared) : Prop := ∃ vs H', Inv X pins σ H' s' ∧ Vals vs us ∧ Q vs H'
def SP (X : Cx) (pins : List (Addr × Obj)) (D : Ends) (f : Flow) (s' : Shared) : Prop :=
  match f with
  | .next => ∃ σ' H', Inv X pins σ' H' s' ∧ D.nx σ' H'
  | .brk => ∃ σ' H', Inv X pins σ' H' s' ∧ D.bk σ' H'
  | .cont => ∃ σ' H', Inv X pins σ' H' s' ∧ D.ct σ' H'
  | .ret u => ∃ v σ' H', Inv X pins σ' H' s' ∧ RelV v u ∧ D.rt v H'

def PE (X : Cx) (e : Expr) (t : TE) : Prop :=
  ∀ (pins : List (Addr × Obj)) (s : Shared) (σ : St) (H : Hp) (Q : VK), Inv X pins σ H s → t σ H Q → wpAny (model X.prog X.w) X.A (eval e X.env) (EP X pins σ Q) X.xe s
def PT (X : Cx) (e : Expr) (t : TT) : Prop :=
  ∀ (pins : List (Addr × Obj)) (s : Shared) (σ : St) (H : Hp) (Q : Bool → Hp → Prop), Inv X pins σ H s → t σ H Q → wpAny (model X.prog X.w) X.A (isTrue e X.env (eval e X.env)) (TP X pins σ Q) X.xe s
/-- a test whatever its 'whole' is (and, or) -/
def PW (X : Cx) (e : Expr) (t : TT) : Prop :=
  ∀ (whole : Sem Value) (pins : List (Addr × Obj)) (s : Shared) (σ : St) (H : Hp) (Q : Bool → Hp → Prop), Inv X pins σ H s → t σ H Q → wpAny (model X.prog X.w) X.A (isTrue e X.env whole) (TP X pins σ Q) X.xe s
theorem PW.pt {X : Cx} {e : Expr} {t : TT} (h : PW X e t) : PT X e t := h _
/-- an argument list (no star), from the left -/
def PA (X : Cx) (es : List Expr) (t : TA) : Prop :=
  ∀ (pos : Pos) (pins : List (Addr × Obj)) (s : Shared) (σ : St) (H : Hp) (Q : List V → Hp → Prop), Inv X pins σ H s → t σ H Q → wpAny (model X.prog X.w) X.A (spliced (backTo pos (starEach es X.env))) (AP X pins σ Q) X.xe s
def PS (X : Cx) (st : Stmt) (t : TS) : Prop :=
  ∀ (pins : List (Addr × Obj)) (s : Shared) (σ : St) (H : Hp) (D : Ends), Inv X pins σ H s → t D σ H → wpAny (model X.prog X.w) X.A (exec st X.env) (SP X pins D) X.xe s
def PSs (X : Cx) (st : List Stmt) (t : TS) : Prop :=
  ∀ (pins : List (Addr × Obj)) (s : Shared) (σ : St) (H : Hp) (D : Ends), Inv X pins σ H s → t D σ H → wpAny (model X.prog X.w) X.A (execs st X.env) (SP X pins D) X.xe s
/-- weaken the end -/
theorem thn {α : Type} {t : Sem α} {Q Q' : α → Shared → Prop} {M : Model} {A : Around} {E : Value → Shared → Prop} {s : Shared} (h : wpAny M A t Q E s) (hQ : ∀ a s, Q a s → Q' a s) : wpAny M A t Q' E s := wpAny_mono h hQ fun _ _ x => x
end L2

namespace L2
open PySem PySem.Spec PyProof.Rows
section
variable {X : Cx}

/-! ### names and constants -/
def tVar (i : Nat) : TE := fun σ H Q => ∃ v, σ[i]? = some (some v) ∧ Q v H
def tC (v : V) : TE := fun _ H Q => Q v H
theorem pe_var {i : Nat} {x : Str} {pos : Pos} (hN : X.N[i]? = some x) (hv : Vis X.env.scope x) (hd : (x == ("__debug__" : Str)) = false := by decide) (hcd : (x == ("__classdict__" : Str)) = false := by decide) : PE X (.Name x pos) (tVar i) := by
  intro pins s σ H Q I h
  obtain ⟨v, e, h⟩ := h
  obtain ⟨m, hn, hl⟩ := I.loc
  obtain ⟨u, r, l⟩ := hl i x v hN e hv
  have fin : EP X pins σ Q u s := ⟨v, H, I, r, h⟩
  rcases l with ⟨hk, hm⟩ | ⟨hk, c, hc, hcell⟩
  · exact wpAny_Name (wpAny_loadName_local I.ok.kind hk hn hm fin) hd
  · rcases hk with hk | hk
    · exact wpAny_Name (wpAny_loadName_cell I.ok.kind hk hc hcell fin) hd
    · exact wpAny_Name (wpAny_loadName_free I.ok.kind hk hc hcell fin hcd) hd
theorem pe_int {i j pos} : PE X (.Constant (.int i) j pos) (tC (.int i)) := fun _ _ _ H _ I h => wpAny_Constant_int ⟨.int i, H, I.tok _, ⟨_, rfl⟩, h⟩
theorem pe_bl {b j pos} : PE X (.Constant (.bool b) j pos) (tC (.bl b)) := fun _ _ _ H _ I h => Constant_bool ⟨.bl b, H, I, rfl, h⟩
theorem pe_non {j pos} : PE X (.Constant .none j pos) (tC .non) := fun _ _ _ H _ I h => Constant_none ⟨.non, H, I, rfl, h⟩
theorem pe_str {x j pos} : PE X (.Constant (.str x) j pos) (tC (.str x)) := fun _ _ _ H _ I h => Calls.Constant_str ⟨.str x, H, I.tok _, ⟨_, rfl⟩, h⟩

/-- a global name of the def -/
def Gl (X : Cx) (x : Str) : Prop := X.env.kindOf x = some .globalImplicit
theorem ld_glob {E : Value → Shared → Prop} {pins : List (Addr × Obj)} {s : Shared} {σ : St} {H : Hp} {x : Str} {u : Value} {pos : Pos} {Q : Value → Shared → Prop} (I : Inv X pins σ H s) (hg : Gl X x) (hm : X.mg x = some u) (h : Q u s)
    (hd : (x == ("__debug__" : Str)) = false := by decide) : wpAny (model X.prog X.w) X.A (eval (.Name x pos) X.env) Q E s :=
  Calls.Name_function_global I.ok.kind hg (Calls.loadGlobal_global (by rw [I.ok.glob]; exact I.mod.glob.keeps I.bk) hm h) hd
theorem ld_blt {E : Value → Shared → Prop} {pins : List (Addr × Obj)} {s : Shared} {σ : St} {H : Hp} {x : Str} {u : Value} {pos : Pos} {Q : Value → Shared → Prop} (I : Inv X pins σ H s) (hg : Gl X x) (hm : X.mg x = none) (hv : bootBuiltins x = some u) (h : Q u s)
    (hn : x ≠ "__name__" := by decide) (hd : (x == ("__debug__" : Str)) = false := by decide) : wpAny (model X.prog X.w) X.A (eval (.Name x pos) X.env) Q E s := by
  obtain ⟨mb, h1, h2⟩ := I.mod.blt
  exact Calls.Name_function_global I.ok.kind hg (Calls.loadGlobal_builtin (by rw [I.ok.glob]; exact I.mod.glob.keeps I.bk) hm (by rw [I.ok.blt]; exact h1.keeps I.bk) ((h2 x hn).trans hv) h) hd
/-- a module's constant, a class, a function, as a value -/
theorem pe_glob {x : Str} {v : V} {u : Value} {pos : Pos} (hg : Gl X x) (hm : X.mg x = some u) (r : RelV v u) (hd : (x == ("__debug__" : Str)) = false := by decide) : PE X (.Name x pos) (tC v) :=
  fun _ _ _ H _ I h => ld_glob I hg hm ⟨v, H, I, r, h⟩ hd
theorem pe_bltn {x : Str} {v : V} {u : Value} {pos : Pos} (hg : Gl X x) (hm : X.mg x = none) (hv : bootBuiltins x = some u) (r : RelV v u) (hn : x ≠ "__name__" := by decide) (hd : (x == ("__debug__" : Str)) = false := by decide) : PE X (.Name x pos) (tC v) :=
  fun _ _ _ H _ I h => ld_blt I hg hm hv ⟨v, H, I, r, h⟩ hn hd

/-! ### arithmetic -/
variable {a b : Expr} {ta tb : TE} {pos : Pos}
/-! ### comparisons -/
def PC (X : Cx) (op : CmpOp) (a b : Expr) (t : TE) : Prop :=
  ∀ (pins : List (Addr × Obj)) (s : Shared) (σ : St) (H : Hp) (Q : VK), Inv X pins σ H s → t σ H Q →
    wpAny (model X.prog X.w) X.A (eval a X.env) (fun v s₁ => wpAny (model X.prog X.w) X.A (eval b X.env) (fun u s₂ => wpAny (model X.prog X.w) X.A (compareOp op v u) (EP X pins σ Q) X.xe s₂) X.xe s₁) X.xe s
/-- a comparison as a value, as a test -/
def tB (t : TE) : TT := fun σ H Q => t σ H fun x H1 => ∃ c, x = .bl c ∧ Q c H1
/-- an expression whose value is a bool, as a test -/
theorem pt_val {e : Expr} {t : TE} (h : PE X e t) (he : ∀ whole, isTrue e X.env whole = (do let v ← whole; standAt e.pos; holding [v] (truthy v)) := by intro _; rfl) : PT X e (tB t) := by
  intro pins s σ H Q I hw
  refine isTrue_plain (thn (h pins s σ H _ I hw) fun v s1 ⟨x, H1, I1, r1, q1⟩ => ?_) (he _)
  obtain ⟨d, rfl, q⟩ := q1
  cases r1
  exact wpAny_truthy_bool ⟨H1, I1, q⟩

/-! ### and, or, not -/
variable {tA tB' : TT} {rest : List Expr}
def tAnd (t u : TT) : TT := fun σ H Q => t σ H fun c H1 => if c = true then u σ H1 Q else Q false H1
def tOr (t u : TT) : TT := fun σ H Q => t σ H fun c H1 => if c = true then Q true H1 else u σ H1 Q
def tNot (t : TT) : TT := fun σ H Q => t σ H fun c H1 => Q (!c) H1
theorem pw_and1 (ha : PT X a tA) : PW X (.BoolOp .And [a] pos) tA := by
  intro wh pins s σ H Q I h
  refine isTrue_and (thn (ha pins s σ H Q I h) fun c s1 e => ?_)
  cases c with
  | true => exact isTrue_and_nil e
  | false => exact e
theorem pw_or1 (ha : PT X a tA) : PW X (.BoolOp .Or [a] pos) tA := by
  intro wh pins s σ H Q I h
  refine isTrue_or (thn (ha pins s σ H Q I h) fun c s1 e => ?_)
  cases c with
  | false => exact isTrue_or_nil e
  | true => exact e
theorem pw_and (ha : PT X a tA) (hb : PW X (.BoolOp .And (b :: rest) pos) tB') : PW X (.BoolOp .And (a :: b :: rest) pos) (tAnd tA tB') := by
  intro wh pins s σ H Q I h
  refine isTrue_and (thn (ha pins s σ H _ I h) fun c s1 ⟨H1, I1, q1⟩ => ?_)
  cases c with
  | true => exact hb wh pins s1 σ H1 Q I1 q1
  | false => exact ⟨H1, I1, q1⟩
theorem pw_or (ha : PT X a tA) (hb : PW X (.BoolOp .Or (b :: rest) pos) tB') : PW X (.BoolOp .Or (a :: b :: rest) pos) (tOr tA tB') := by
  intro wh pins s σ H Q I h
  refine isTrue_or (thn (ha pins s σ H _ I h) fun c s1 ⟨H1, I1, q1⟩ => ?_)
  cases c with
  | true => exact ⟨H1, I1, q1⟩
  | false => exact hb wh pins s1 σ H1 Q I1 q1
theorem pt_not (ha : PT X a tA) : PT X (.UnaryOp .Not a pos) (tNot tA) := by
  intro pins s σ H Q I h
  exact isTrue_not (ha pins s σ H (fun c H1 => Q (!c) H1) I h)
/-- .. as values (bools) -/
def tAndV (ta tb : TE) : TE := fun σ H Q => ta σ H fun x H1 => ∃ c, x = .bl c ∧ if c = true then tb σ H1 Q else Q (.bl false) H1
def tNotV (ta : TE) : TE := fun σ H Q => ta σ H fun x H1 => ∃ c, x = .bl c ∧ Q (.bl (!c)) H1
theorem pe_one {op} {t : TE} (h : PE X a t) : PE X (.BoolOp op [a] pos) t := fun pins s σ H Q I hw => BoolOp_one (h pins s σ H Q I hw)
theorem pe_and (ha : PE X a ta) (hb : PE X (.BoolOp .And (b :: rest) pos) tb) : PE X (.BoolOp .And (a :: b :: rest) pos) (tAndV ta tb) := by
  intro pins s σ H Q I h
  refine BoolOp_and (thn (ha pins s σ H _ I h) fun v s1 ⟨x, H1, I1, r1, q1⟩ => ?_)
  obtain ⟨c, rfl, q1⟩ := q1
  cases r1
  refine wpAny_truthy_bool ?_
  cases c with
  | true => exact hb pins s1 σ H1 Q I1 q1
  | false => exact ⟨.bl false, H1, I1, rfl, q1⟩
theorem pe_not (ha : PE X a ta) : PE X (.UnaryOp .Not a pos) (tNotV ta) := by
  intro pins s σ H Q I h
  refine UnaryOp_ (thn (ha pins s σ H _ I h) fun v s1 ⟨x, H1, I1, r1, q1⟩ => ?_)
  obtain ⟨c, rfl, q1⟩ := q1
  cases r1
  exact not_of (wpAny_truthy_bool ⟨.bl (!c), H1, I1, rfl, q1⟩)
end
end L2

namespace L2
open PySem PySem.Spec PyProof.Rows

/-! ### a list, a tuple that is read: tracked, frozen, or an object of the module -/
def SqL (K : PySem.W.Frag) (H : Hp) (a : Addr) (xs : List V) : Prop :=
  Rd H a (.lst xs) ∨
    ∃ (o : Obj) (its : Array Value) (n : Nat), K.lookup a = some o ∧ o.cls = .type "list" ∧ o.dict = none ∧ o.data = .seq its n ∧ its.size ≤ sizeLine ∧ Vals xs its.toList
def SqT (K : PySem.W.Frag) (H : Hp) (a : Addr) (xs : List V) : Prop :=
  Rd H a (.tup xs) ∨
    ∃ (o : Obj) (its : Array Value) (n : Nat), K.lookup a = some o ∧ o.cls = .type "tuple" ∧ o.data = .seq its n ∧ its.size ≤ sizeLine ∧ Vals xs its.toList
def absV : Value → Option V
  | .none => some .non
  | .bool b => some (.bl b)
  | .int i _ => some (.int i)
  | .str x _ => some (.str x)
  | .bytes b _ => some (.byt b)
  | .float b _ => some (.flt b)
  | .ref a => some (.ref a)
  | .type n => some (.ty n)
  | _ => none
theorem RelV.abs {x : V} {u : Value} (r : RelV x u) : absV u = some x := by
  cases x with
  | non => cases r; rfl
  | bl _ => cases r; rfl
  | int _ => obtain ⟨t, rfl⟩ := r; rfl
  | str _ => obtain ⟨t, rfl⟩ := r; rfl
  | byt _ => obtain ⟨t, rfl⟩ := r; rfl
  | flt _ => obtain ⟨t, rfl⟩ := r; rfl
  | ref _ => cases r; rfl
  | ty _ => cases r; rfl
theorem RelV.inj {x y : V} {u : Value} (r : RelV x u) (q : RelV y u) : x = y := Option.some.inj (r.abs.symm.trans q.abs)
theorem Vals.inj : ∀ {xs ys : List V} {us : List Value}, Vals xs us → Vals ys us → xs = ys
  | _, _, _, .nil, .nil => rfl
  | _, _, _, .cons r t, .cons r' t' => by rw [r.inj r', Vals.inj t t']
section
variable {X : Cx} {pins : List (Addr × Obj)} {σ : St} {H : Hp} {s : Shared} {a : Addr} {xs ys : List V}
theorem SqL.of {K : PySem.W.Frag} (h : H a = some (.lst xs)) : SqL K H a xs := .inl (.inl h)
theorem SqT.of {K : PySem.W.Frag} (h : H a = some (.tup xs)) : SqT K H a xs := .inl (.inl h)
theorem Inv.list (I : Inv X pins σ H s) (h : SqL X.K H a xs) : ∃ its : List Value, Vals xs its ∧ PlainL s.heap a its.toArray ∧ xs.length ≤ sizeLine := by
  rcases h with h | ⟨o, its, n, hk, hc, hd, hs, hz, r⟩
  · obtain ⟨z, its, n, r, e⟩ := h.ok I.hok
    exact ⟨its, r, ⟨_, n, e, rfl, rfl, rfl⟩, z⟩
  · refine ⟨its.toList, r, ⟨o, n, I.kIn a o hk, hc, hd, by simpa using hs⟩, ?_⟩
    have e := r.length
    simp only [Array.length_toList] at e
    omega
theorem Inv.tuple (I : Inv X pins σ H s) (h : SqT X.K H a xs) : ∃ its : List Value, Vals xs its ∧ IsTup s.heap a its.toArray ∧ xs.length ≤ sizeLine := by
  rcases h with h | ⟨o, its, n, hk, hc, hs, hz, r⟩
  · obtain ⟨z, its, r, p⟩ := h.ok I.hok
    exact ⟨its, r, p, z⟩
  · refine ⟨its.toList, r, ⟨o, I.kIn a o hk, hc, n, by simpa using hs⟩, ?_⟩
    have e := r.length
    simp only [Array.length_toList] at e
    omega
theorem Inv.list_inj (I : Inv X pins σ H s) (h : SqL X.K H a xs) (h' : SqL X.K H a ys) : xs = ys := by
  obtain ⟨its, r, ⟨o, n, e, _, _, d⟩, _⟩ := I.list h
  obtain ⟨its', r', ⟨o', n', e', _, _, d'⟩, _⟩ := I.list h'
  rw [e] at e'; cases e'
  rw [d] at d'
  injection d' with d1 _
  have : its = its' := by simpa using congrArg Array.toList d1
  subst this
  exact r.inj r'
end

/-! ### another wish about exceptions -/
abbrev Cx.wish (X : Cx) (E : Value → Shared → Prop) : Cx := { X with xe := E }
/-- no exception leaves -/
abbrev Cx.nox (X : Cx) : Cx := X.wish fun _ _ => False
theorem Cx.Ok.wish {X : Cx} (ok : X.Ok) (E : Value → Shared → Prop) : (X.wish E).Ok :=
  ⟨ok.mod, ok.kind, ok.glob, ok.blt, ok.above, ok.inj, ok.has, ok.cab, ok.hd, ok.frames, ok.stk, ok.exf, ok.bs, ok.bsz, ok.noex, ok.exfs, ok.funs, ok.frf⟩
theorem Cx.Ok.unwish {X : Cx} {E : Value → Shared → Prop} (ok : (X.wish E).Ok) : X.Ok :=
  ⟨ok.mod, ok.kind, ok.glob, ok.blt, ok.above, ok.inj, ok.has, ok.cab, ok.hd, ok.frames, ok.stk, ok.exf, ok.bs, ok.bsz, ok.noex, ok.exfs, ok.funs, ok.frf⟩
section
variable {X : Cx} {pins : List (Addr × Obj)} {σ : St} {H : Hp} {s : Shared} {E : Value → Shared → Prop}
theorem Inv.wish (I : Inv X pins σ H s) (E : Value → Shared → Prop) : Inv (X.wish E) pins σ H s := ⟨I.ok.wish E, I.os, I.bare, I.base, I.loc, I.cell, I.free, I.freeC, I.pin, I.hok, I.len⟩
theorem Inv.unwish (I : Inv (X.wish E) pins σ H s) : Inv X pins σ H s := ⟨I.ok.unwish, I.os, I.bare, I.base, I.loc, I.cell, I.free, I.freeC, I.pin, I.hok, I.len⟩
theorem SP.unwish {D : Ends} {f : Flow} {s' : Shared} (h : SP (X.wish E) pins D f s') : SP X pins D f s' := by
  cases f with
  | next => obtain ⟨σ', H', I, q⟩ := h; exact ⟨σ', H', I.unwish, q⟩
  | brk => obtain ⟨σ', H', I, q⟩ := h; exact ⟨σ', H', I.unwish, q⟩
  | cont => obtain ⟨σ', H', I, q⟩ := h; exact ⟨σ', H', I.unwish, q⟩
  | ret u => obtain ⟨v, σ', H', I, r, q⟩ := h; exact ⟨v, σ', H', I.unwish, r, q⟩
theorem PE.nox {e : Expr} {t : TE} (h : PE X.nox e t) : PE X e t := fun pins s σ H Q I hw =>
  wpAny_mono (h pins s σ H Q (I.wish _) hw) (fun _ _ ⟨v, H', I', r, q⟩ => ⟨v, H', I'.unwish, r, q⟩) fun _ _ z => False.elim z
theorem PT.nox {e : Expr} {t : TT} (h : PT X.nox e t) : PT X e t := fun pins s σ H Q I hw =>
  wpAny_mono (h pins s σ H Q (I.wish _) hw) (fun _ _ ⟨H', I', q⟩ => ⟨H', I'.unwish, q⟩) fun _ _ z => False.elim z
theorem PSs.nox {st : List Stmt} {t : TS} (h : PSs X.nox st t) : PSs X st t := fun pins s σ H D I hw =>
  wpAny_mono (h pins s σ H D (I.wish _) hw) (fun _ _ q => q.unwish) fun _ _ z => False.elim z
end

/-! ### blocks and small statements -/
section
variable {X : Cx} {st : Stmt} {rest : List Stmt} {t u : TS} {e : Expr} {te : TE} {pos : Pos}
def tNext : TS := fun D σ H => D.nx σ H
def tSeq (t u : TS) : TS := fun D σ H => t { D with nx := u D } σ H
theorem pss_nil : PSs X [] tNext := fun _ _ σ H _ I h => wpAny_execs_nil ⟨σ, H, I, h⟩
theorem pss_cons (h1 : PS X st t) (h2 : PSs X rest u) : PSs X (st :: rest) (tSeq t u) := by
  intro pins s σ H D I h
  refine wpAny_execs_cons (thn (h1 pins s σ H { D with nx := u D } I h) fun f s1 q => ?_)
  cases f with
  | next =>
    obtain ⟨σ', H', I', q⟩ := q
    exact h2 pins s1 σ' H' D I' q
  | ret v => exact q
  | brk => exact q
  | cont => exact q
theorem pss_one (h1 : PS X st t) : PSs X [st] t := by
  intro pins s σ H D I h
  refine wpAny_execs_cons (thn (h1 pins s σ H D I h) fun f s1 q => ?_)
  cases f with
  | next => exact wpAny_execs_nil q
  | ret v => exact q
  | brk => exact q
  | cont => exact q
/-- in a def's body nothing is shown -/
theorem Inv.quiet {pins : List (Addr × Obj)} {σ : St} {H : Hp} {s : Shared} (I : Inv X pins σ H s) : interactive X.env = false := by simp [interactive, I.ok.kind]
/-- an expression whose value is dropped -/
def tDrop (te : TE) : TS := fun D σ H => te σ H fun _ H1 => D.nx σ H1
theorem ps_expr (he : PE X e te) (hs : swapsWith e none pos.line X.env = pure false := by rfl) : PS X (.Expr e pos) (tDrop te) := by
  intro pins s σ H D I h
  exact wpAny_Expr_any (thn (he pins s σ H _ I h) fun v s1 ⟨x, H1, I1, r1, q1⟩ => ⟨σ, H1, I1, q1⟩) I.quiet hs
def tRet (te : TE) : TS := fun D σ H => te σ H D.rt
theorem ps_ret (he : PE X e te) : PS X (.Return (some e) pos) (tRet te) := by
  intro pins s σ H D I h
  exact wpAny_Return_some (thn (he pins s σ H _ I h) fun v s1 ⟨x, H1, I1, r1, q1⟩ => ⟨x, σ, H1, I1, r1, q1⟩)
def tIfS (c : TT) (t u : TS) : TS := fun D σ H => c σ H fun b H1 => if b = true then t D σ H1 else u D σ H1
theorem ps_if {c : Expr} {a b : List Stmt} {tc : TT} (hc : PT X c tc) (ha : PSs X a t) (hb : PSs X b u) : PS X (.If c a b pos) (tIfS tc t u) := by
  intro pins s σ H D I h
  refine wpAny_If (thn (hc pins s σ H _ I h) fun d s1 ⟨H1, I1, q1⟩ => ?_)
  cases d with
  | true => exact ha pins s1 σ H1 D I1 q1
  | false => exact hb pins s1 σ H1 D I1 q1
/-- code that the proof never comes to -/
def tNever : TS := fun _ _ _ => False
theorem ps_never : PS X st tNever := fun _ _ _ _ _ _ h => h.elim
end

/-! ### targets -/
abbrev TG := V → St → Hp → (St → Hp → Prop) → Prop
abbrev TGs := List V → St → Hp → (St → Hp → Prop) → Prop
def PG (X : Cx) (target : Expr) (t : TG) : Prop :=
  ∀ (pins : List (Addr × Obj)) (s : Shared) (σ : St) (H : Hp) (v : V) (u : Value) (Q : St → Hp → Prop), Inv X pins σ H s → RelV v u → t v σ H Q →
    wpAny (model X.prog X.w) X.A (assign target X.env u) (fun _ s' => ∃ σ' H', Inv X pins σ' H' s' ∧ Q σ' H') X.xe s
/-- several targets, one after another -/
def PGs (X : Cx) (ts : List Expr) (t : TGs) : Prop :=
  ∀ (pins : List (Addr × Obj)) (s : Shared) (σ : St) (H : Hp) (vs : List V) (us : List Value) (Q : St → Hp → Prop), Inv X pins σ H s → Vals vs us → t vs σ H Q →
    wpAny (model X.prog X.w) X.A (assignInOrder ((assignEach ts X.env).map (·.2)) us) (fun _ s' => ∃ σ' H', Inv X pins σ' H' s' ∧ Q σ' H') X.xe s
/-- a op= b, by values -/
abbrev TIp := V → V → Hp → VK → Prop
def PIp (X : Cx) (op : Operator) (t : TIp) : Prop :=
  ∀ (pins : List (Addr × Obj)) (s : Shared) (σ : St) (H : Hp) (x y : V) (v u : Value) (Q : VK), Inv X pins σ H s → RelV x v → RelV y u → t x y H Q →
    wpAny (model X.prog X.w) X.A (inplaceOp op v u) (EP X pins σ Q) X.xe s
section
variable {X : Cx} {pos : Pos}
def gName (i : Nat) : TG := fun v σ H Q => Q (σ.set i (some v)) H
theorem pg_name {i : Nat} {x : Str} (hN : X.N.Nodup) (hi : X.N[i]? = some x) (hx : Loc X.env.scope x) (hf : X.fn x = true ∨ X.env.scope.names.lookup x = some .local := by first | exact .inl rfl | exact .inr rfl | assumption) : PG X (.Name x pos) (gName i) := by
  intro pins s σ H v u Q I r h
  exact wpAny_assign_Name (store_ok I hN hi hx r (fun s' I' => ⟨_, H, I', h⟩) hf)
def gNil : TGs := fun vs σ H Q => vs = [] ∧ Q σ H
def gCons (t : TG) (u : TGs) : TGs := fun vs σ H Q => ∃ v r, vs = v :: r ∧ t v σ H fun σ' H' => u r σ' H' Q
theorem pgs_nil : PGs X [] gNil := by
  intro pins s σ H vs us Q I r h
  obtain ⟨e, h⟩ := h
  subst e
  cases r
  exact assignInOrder_nil ⟨σ, H, I, h⟩
theorem pgs_cons {e : Expr} {es : List Expr} {t : TG} {u : TGs} (h1 : PG X e t) (h2 : PGs X es u)
    (hs : (assignEach (e :: es) X.env).map (·.2) = assign e X.env :: (assignEach es X.env).map (·.2) := by rfl) : PGs X (e :: es) (gCons t u) := by
  intro pins s σ H vs us Q I r h
  obtain ⟨v, vr, e1, h⟩ := h
  subst e1
  cases r with
  | cons r rr =>
    rw [hs]
    refine assignInOrder_cons (thn (h1 pins s σ H _ _ _ I r h) fun _ s1 ⟨σ1, H1, I1, q1⟩ => ?_)
    exact h2 pins s1 σ1 H1 _ _ Q I1 rr q1
/-- (a, b, ..) = a tuple of that length -/
def gTup (K : PySem.W.Frag) (n : Nat) (t : TGs) : TG := fun v σ H Q => ∃ a xs, v = .ref a ∧ SqT K H a xs ∧ xs.length = n ∧ t xs σ H Q
theorem pg_tup {es : List Expr} {k : Nat} {t : TGs} {n : Nat} (hc : X.calm = true) (h : PGs X es t)
    (hn : (assignEach es X.env).length = n := by rfl) (hst : (assignEach es X.env).findIdx? (·.1) = none := by rfl) : PG X (.Tuple es k pos) (gTup X.K n t) := by
  intro pins s σ H v u Q I r hw
  obtain ⟨a, xs, e1, hq, hl, hw⟩ := hw
  subst e1
  cases r
  obtain ⟨its, rv, ht, hz⟩ := I.tuple hq
  refine QQ.assign_Tuple_q I.hq ht (by simp [hn, ← hl, rv.length]) hst fun h' hx => ?_
  have I1 : Inv X pins σ H { s with heap := h' } := I.kept (t' := s.toks) fun b o e => hx b o (Nat.ne_of_lt (Heap.lt_size e)) e
  exact h pins _ σ H xs _ Q I1 (by simpa using rv) hw
/-- target = value -/
def tAsg (te : TE) (g : TG) : TS := fun D σ H => te σ H fun x H1 => g x σ H1 D.nx
theorem ps_asg {tg e : Expr} {te : TE} {g : TG} (he : PE X e te) (hg : PG X tg g) (hs : swapsWithSole [tg] e pos.line X.env = pure false := by rfl) (hw : swappedStores [tg] e X.env = pure none := by rfl)
    (h1 : (assignEach [tg] X.env).map (·.2) = [assign tg X.env] := by rfl) : PS X (.Assign [tg] e pos) (tAsg te g) := by
  intro pins s σ H D I h
  refine wpAny_Assign_stores (thn (he pins s σ H _ I h) fun v s1 ⟨x, H1, I1, r1, q1⟩ => ?_) hs hw
  rw [h1]
  exact thn (hg pins s1 σ H1 x v _ I1 r1 q1) fun _ s2 q => q
/-- name = value -/
theorem ps_set {i : Nat} {x : Str} {e : Expr} {te : TE} {pos' : Pos} (hN : X.N.Nodup) (hi : X.N[i]? = some x) (hx : Loc X.env.scope x) (he : PE X e te) (hs : swapsWith e (some (.Name x pos')) pos.line X.env = pure false := by rfl) (hf : X.fn x = true ∨ X.env.scope.names.lookup x = some .local := by first | exact .inl rfl | exact .inr rfl | assumption) :
    PS X (.Assign [.Name x pos'] e pos) (tAsg te (gName i)) := by
  intro pins s σ H D I h
  refine wpAny_Assign_Name (thn (he pins s σ H _ I h) fun v s1 ⟨y, H1, I1, r1, q1⟩ => ?_) hs
  exact store_ok I1 hN hi hx r1 (fun s2 I2 => ⟨_, H1, I2, q1⟩) hf
/-- name op= e -/
def tAug (i : Nat) (te : TE) (ti : TIp) : TS := fun D σ H => ∃ x, σ[i]? = some (some x) ∧ te σ H fun y H1 => ti x y H1 fun z H2 => D.nx (σ.set i (some z)) H2
theorem ps_aug {i : Nat} {x : Str} {e : Expr} {te : TE} {op : Operator} {ti : TIp} {pos' : Pos} (hN : X.N.Nodup) (hi : X.N[i]? = some x) (hx : Loc X.env.scope x) (he : PE X e te) (ho : PIp X op ti) (hf : X.fn x = true ∨ X.env.scope.names.lookup x = some .local := by first | exact .inl rfl | exact .inr rfl | assumption) :
    PS X (.AugAssign (.Name x pos') op e pos) (tAug i te ti) := by
  intro pins s σ H D I h
  obtain ⟨v, e1, h⟩ := h
  obtain ⟨m, hn, hl⟩ := I.loc
  have vis : Vis X.env.scope x := by rcases hx with k | k; exact .inl k; exact .inr (.inl k)
  obtain ⟨u, r, l⟩ := hl i x v hi e1 vis
  refine wpAny_AugAssign_Name ?_
  have go : wpAny (model X.prog X.w) X.A (eval e X.env) (fun w s₂ => wpAny (model X.prog X.w) X.A (inplaceOp op u w) (fun r s₃ => wpAny (model X.prog X.w) X.A (storeName X.env x r) (fun _ => SP X pins D .next) X.xe s₃) X.xe s₂) X.xe s := by
    refine thn (he pins s σ H _ I h) fun w s1 ⟨y, H1, I1, r1, q1⟩ => ?_
    refine thn (ho pins s1 σ H1 v y u w _ I1 r r1 q1) fun z s2 ⟨zv, H2, I2, r2, q2⟩ => ?_
    exact store_ok I2 hN hi hx r2 (fun s3 I3 => ⟨_, H2, I3, q2⟩) hf
  rcases l with ⟨hk, hm⟩ | ⟨hk, c, hc, hcell⟩
  · exact wpAny_loadName_local I.ok.kind hk hn hm go
  · rcases hk with hk | hk
    · exact wpAny_loadName_cell I.ok.kind hk hc hcell go
    · rcases hx with k | k
      · have : X.env.scope.names.lookup x = some .free := hk
        rw [k] at this; cases this
      · have : X.env.scope.names.lookup x = some .free := hk
        rw [k] at this; cases this
/-- ints -/
def ipI (f : Int → Int → Int) : TIp := fun x y H Q => ∃ i j, x = .int i ∧ y = .int j ∧ Q (.int (f i j)) H
theorem ip_add : PIp X .Add (ipI fun i j => i + j) := by
  intro pins s σ H x y v u Q I r1 r2 h
  obtain ⟨i, j, e1, e2, q⟩ := h
  subst e1; subst e2
  obtain ⟨t, rfl⟩ := r1
  obtain ⟨t', rfl⟩ := r2
  exact iadd_int ⟨.int _, H, I.tok _, ⟨_, rfl⟩, q⟩
theorem ip_sub : PIp X .Sub (ipI fun i j => i - j) := by
  intro pins s σ H x y v u Q I r1 r2 h
  obtain ⟨i, j, e1, e2, q⟩ := h
  subst e1; subst e2
  obtain ⟨t, rfl⟩ := r1
  obtain ⟨t', rfl⟩ := r2
  exact isub_int ⟨.int _, H, I.tok _, ⟨_, rfl⟩, q⟩
end

/-! ### while -/
section
variable {X : Cx} {pos : Pos}
/-- the invariant W with its measure -/
def tWhile (c : TT) (tb : TS) : TS := fun D σ H => ∃ W : Nat → St → Hp → Prop, (∃ m, W m σ H) ∧ ∀ m σ H, W m σ H →
  c σ H fun b H1 => if b = true then ∃ N : St → Hp → Prop, (∀ σ' H', N σ' H' → ∃ m', m' < m ∧ W m' σ' H') ∧ tb { D with nx := N, ct := N, bk := D.nx } σ H1 else D.nx σ H1
theorem ps_while {c : Expr} {body : List Stmt} {tc : TT} {tb : TS} (hp : PassesOwn (model X.prog X.w) X.A X.env X.xe) (hc : PT X c tc) (hb : PSs X body tb) : PS X (.While c body [] pos) (tWhile tc tb) := by
  intro pins s σ H D I h
  obtain ⟨W, ⟨m0, w0⟩, turn⟩ := h
  refine wpAny_While (codeAny_whileLoop (fun n s' => ∃ σ' H', Inv X pins σ' H' s' ∧ W n σ' H') ?_ m0 ⟨σ, H, I, w0⟩)
  rintro n s1 ⟨σ1, H1, I1, w1⟩
  refine wpAny_passesOwn hp (thn (hc pins s1 σ1 H1 _ I1 (turn n σ1 H1 w1)) fun b s2 ⟨H2, I2, q2⟩ => ?_)
  cases b with
  | true =>
    obtain ⟨N, hN, q2⟩ := q2
    rw [if_pos rfl]
    refine wpAny_passesOwn hp (thn (hb pins s2 σ1 H2 _ I2 q2) fun f s3 q3 => ?_)
    cases f with
    | next =>
      obtain ⟨σ3, H3, I3, n3⟩ := q3
      obtain ⟨m', hm, w3⟩ := hN σ3 H3 n3
      exact ⟨m', hm, σ3, H3, I3, w3⟩
    | cont =>
      obtain ⟨σ3, H3, I3, n3⟩ := q3
      obtain ⟨m', hm, w3⟩ := hN σ3 H3 n3
      exact ⟨m', hm, σ3, H3, I3, w3⟩
    | brk => exact q3
    | ret v => exact q3
  | false =>
    rw [if_neg Bool.false_ne_true]
    exact wpAny_execs_nil ⟨σ1, H2, I2, q2⟩
end

/-! ### what a loop or a comprehension walks -/
/-- at turn i: it yields x (the heap may grow), or it stops -/
structure It where
  go : Nat → Hp → Prop
  yld : Nat → Hp → V → Hp → Prop
  stop : Nat → Hp → Prop
/-- the iterator's own objects may turn: they are not the frame's, not pinned, younger than the entry (or a comprehension's own) -/
def FpOk (X : Cx) (pins : List (Addr × Obj)) (H : Hp) (b : Addr) : Prop :=
  H b = none ∧ b ≠ X.env.locals ∧ b ∉ X.fs ∧ (b ∈ X.ex ∨ X.s₀.heap.objs.size ≤ b) ∧ (∀ x c, X.env.cells.lookup x = some c → c ≠ b) ∧ ∀ p ∈ X.pn ++ pins, p.1 ≠ b
theorem Inv.fpOk {X : Cx} {pins : List (Addr × Obj)} {σ : St} {H H' : Hp} {s : Shared} {b : Addr} (I : Inv X pins σ H s) (hb : s.heap.objs.size ≤ b) (hn : H' b = none) : FpOk X pins H' b := by
  refine ⟨hn, Nat.ne_of_gt (Nat.lt_of_lt_of_le I.lt hb), I.nofs hb, .inr (Nat.le_trans I.sz hb), fun x c e z => ?_, fun p hp z => ?_⟩
  · obtain ⟨v, q⟩ := I.cell x c e
    exact absurd (Nat.lt_of_lt_of_le q.lt (by rw [z]; exact hb)) (Nat.lt_irrefl _)
  · exact absurd (Nat.lt_of_lt_of_le (Heap.lt_size (I.pin p hp).1) (by rw [z]; exact hb)) (Nat.lt_irrefl _)
structure Turn (P : Program) (w : World) (K : PySem.W.Frag) (tg : Expr) (J : It) (fp : List Addr) (it : Addr) (tn : Nat → Heap → Prop) : Prop where
  mem : it ∈ fp
  obj : ∀ i h, tn i h → ∀ b ∈ fp, ∃ o, h.get? b = some o ∧ ∀ v, o.data ≠ .cell v
  keep : ∀ i h h', tn i h → (∀ b ∈ fp, ∀ o, h.get? b = some o → h'.get? b = some o) → tn i h'
  item : ∀ (X : Cx), X.prog = P → X.w = w → X.K = K → X.calm = true → ∀ (i : Nat) (pins : List (Addr × Obj)) (s : Shared) (σ : St) (H : Hp) (E : Value → Shared → Prop), Inv X pins σ H s → (∀ b ∈ fp, FpOk X pins H b) → tn i s.heap → J.go i H →
    wpAny (model P w) X.A (pyNext (.ref it)) (fun r s1 => ∃ u, r = some u ∧
      wpAny (model P w) X.A (letOwnedTupleGo tg (.ref it) u) (fun _ s2 => ∃ x H', Inv X pins σ H' s2 ∧ RelV x u ∧ J.yld i H x H' ∧ tn (i + 1) s2.heap ∧ ∀ b ∈ fp, H' b = none) E s1) E s
  done : ∀ (X : Cx), X.prog = P → X.w = w → X.K = K → X.calm = true → ∀ (i : Nat) (pins : List (Addr × Obj)) (s : Shared) (σ : St) (H : Hp) (E : Value → Shared → Prop), Inv X pins σ H s → (∀ b ∈ fp, FpOk X pins H b) → tn i s.heap → J.stop i H →
    wpAny (model P w) X.A (pyNext (.ref it)) (fun r s1 => r = none ∧ Inv X pins σ H s1) E s
  self : ∀ (A : Around) (i : Nat) (s : Shared) (Q : Value → Shared → Prop) (E : Value → Shared → Prop), tn i s.heap → Q (.ref it) s → wpAny (model P w) A (pyIter (.ref it)) Q E s
abbrev TI := St → Hp → (It → Hp → Prop) → Prop
/-- an iterator has come -/
def PIE (X : Cx) (pins : List (Addr × Obj)) (σ : St) (tg : Expr) (R : It → Hp → Prop) (itv : Value) (s2 : Shared) : Prop :=
  ∃ (it : Addr) (fp : List Addr) (tn : Nat → Heap → Prop) (J : It) (H' : Hp), itv = .ref it ∧ Inv X pins σ H' s2 ∧ Turn X.prog X.w X.K tg J fp it tn ∧ tn 0 s2.heap ∧ (∀ b ∈ fp, FpOk X pins H' b) ∧ R J H'
def PI (X : Cx) (tg iter : Expr) (wi : TI) : Prop :=
  ∀ (pins : List (Addr × Obj)) (s : Shared) (σ : St) (H : Hp) (R : It → Hp → Prop), Inv X pins σ H s → wi σ H R →
    wpAny (model X.prog X.w) X.A (eval iter X.env) (fun v s1 => wpAny (model X.prog X.w) X.A (pyIter v) (PIE X pins σ tg R) X.xe s1) X.xe s

/-- the step ahead of the store is nothing for an iterator that keeps no tuple -/
theorem go_of {M : Model} {A : Around} {E : Value → Shared → Prop} {s : Shared} {tg : Expr} {it : Addr} {u : Value} {o : Obj} {n : String} {vs : Array Value} {Q : Unit → Shared → Prop} (ho : s.heap.get? it = some o) (hc : o.cls = .type n) (hd : o.data = .fields vs)
    (hn : ["enumerate", "zip", "dict_itemiterator", "dict_reverseitemiterator", "odict_iterator", "itertools.zip_longest", "itertools.pairwise"].contains n = false) (hQ : Q () s) : wpAny M A (letOwnedTupleGo tg (.ref it) u) Q E s := by
  unfold letOwnedTupleGo
  cases tg <;> first
    | exact wpAny_pure hQ
    | (cases u <;> first
        | exact wpAny_pure hQ
        | (refine wpAny_bind (wpAny_load ho ?_)
           rw [hc, hd]
           show wpAny M A (if (["enumerate", "zip", "dict_itemiterator", "dict_reverseitemiterator", "odict_iterator", "itertools.zip_longest", "itertools.pairwise"].contains n && vs[0]? == some (rawInt _)) = true then _ else _) Q E s
           rw [if_neg (by intro h; rw [hn, Bool.false_and] at h; cases h)]
           exact wpAny_pure hQ))

/-- the list at a, as it stands at each turn (a loop may append to it) -/
def Itl (K : PySem.W.Frag) (a : Addr) : It :=
  ⟨fun i H => ∃ xs x, SqL K H a xs ∧ xs[i]? = some x, fun i H x H' => H' = H ∧ ∀ xs, SqL K H a xs → xs[i]? = some x, fun i H => ∃ xs, SqL K H a xs ∧ xs.length ≤ i⟩
/-- lo, lo + 1, .. (n of them) -/
def Itr (lo : Int) (n : Nat) : It := ⟨fun i _ => i < n, fun i H x H' => H' = H ∧ x = .int (lo + i), fun i _ => n ≤ i⟩
theorem turn_list {P : Program} {w : World} {K : PySem.W.Frag} {tg : Expr} (a it : Addr) : Turn P w K tg (Itl K a) [it] it (fun i h => h.IsListIter it a i) where
  mem := by simp
  obj := fun i h st b hb => by
    have e : b = it := by simpa using hb
    subst e
    obtain ⟨o, e, c, d⟩ := st
    exact ⟨o, e, fun v z => by rw [d] at z; cases z⟩
  keep := fun i h h' st k => st.at fun o e => k it (by simp) o e
  item := by
    intro X hP hw hK hc i pins s σ H E I hf st hg
    subst hP hw hK
    obtain ⟨xs, x, hq, hx⟩ := hg
    obtain ⟨its, rv, p, hz⟩ := I.list hq
    obtain ⟨u, hu, ru⟩ := rv.get hx
    obtain ⟨f0, f1, f2, f3, f4, f5⟩ := hf it (by simp)
    refine wpAny_pyNext_list_item st p.isList (x := u) (by simpa using hu) fun h' st' sb => ?_
    have I1 : Inv X pins σ H { s with heap := h' } := I.turned (t' := s.toks) (fun b o hb e => (sb.2 b hb).trans e) f0 f1 f3 f4 f5
    obtain ⟨o, e, c, d⟩ := id st'
    exact ⟨u, rfl, go_of (s := { s with heap := h' }) e c d (by decide) ⟨x, H, I1, ru, ⟨rfl, fun ys hy => by rw [I.list_inj hy hq]; exact hx⟩, st', fun b hb => (hf b hb).1⟩⟩
  done := by
    intro X hP hw hK hc i pins s σ H E I hf st hg
    subst hP hw hK
    obtain ⟨xs, hq, hx⟩ := hg
    obtain ⟨its, rv, p, hz⟩ := I.list hq
    obtain ⟨f0, f1, f2, f3, f4, f5⟩ := hf it (by simp)
    have hl := rv.length
    exact QQ.list_end_q I.hq st p.isList (by simp; omega) fun h' eb => ⟨rfl, I.turned (t' := s.toks) (fun b o hb e => eb b o hb e) f0 f1 f3 f4 f5⟩
  self := fun _ _ _ _ _ st h => wpAny_pyIter_listiter st h
theorem turn_range {P : Program} {w : World} {K : PySem.W.Frag} {tg : Expr} (it : Addr) (lo : Int) (n : Nat) : Turn P w K tg (Itr lo n) [it] it (fun i h => IsRangeIter h it (lo + (i : Nat) * 1) ((n : Int) - (i : Nat)) 1) where
  mem := by simp
  obj := fun i h st b hb => by
    have e : b = it := by simpa using hb
    subst e
    exact ⟨_, st, fun v z => by
      have z' : Data.fields _ = Data.cell v := z
      cases z'⟩
  keep := fun i h h' st k => k it (by simp) _ st
  item := by
    intro X hP hw hK hc i pins s σ H E I hf st hg
    subst hP hw hK
    obtain ⟨f0, f1, f2, f3, f4, f5⟩ := hf it (by simp)
    refine wpAny_pyNext_range_item st (by have : i < n := hg; omega) fun h' st1 sb => ?_
    have st' : IsRangeIter h' it (lo + ((i + 1 : Nat) : Int) * 1) ((n : Int) - ((i + 1 : Nat) : Int)) 1 := by
      have e1 : lo + ((i + 1 : Nat) : Int) * 1 = lo + (i : Int) * 1 + 1 := by omega
      have e2 : (n : Int) - ((i + 1 : Nat) : Int) = (n : Int) - (i : Int) - 1 := by omega
      rw [e1, e2]; exact st1
    have I1 : Inv X pins σ H { s with heap := h', toks := s.toks + 1 } := I.turned (fun b o hb e => sb.extBut b o hb e) f0 f1 f3 f4 f5
    refine ⟨_, rfl, go_of (s := { s with heap := h', toks := s.toks + 1 }) (n := "range_iterator") st' rfl rfl (by decide) ⟨.int (lo + i), H, I1, ⟨s.toks, ?_⟩, ⟨rfl, rfl⟩, st', fun b hb => (hf b hb).1⟩⟩
    rw [Int.mul_one]
  done := by
    intro X hP hw hK hc i pins s σ H E I hf st hg
    subst hP hw hK
    obtain ⟨f0, f1, f2, f3, f4, f5⟩ := hf it (by simp)
    exact QQ.range_end_q I.hq st (by have : n ≤ i := hg; omega) fun h' eb => ⟨rfl, I.turned (t' := s.toks) (fun b o hb e => eb b o hb e) f0 f1 f3 f4 f5⟩
  self := fun _ _ _ _ _ st h => wpAny_pyIter_rangeiter st h
end L2

namespace L2
open PySem PySem.Spec PyProof.Rows
section
variable {X : Cx} {tg : Expr}
def iList (K : PySem.W.Frag) (tl : TE) : TI := fun σ H R => tl σ H fun x H1 => ∃ a, x = .ref a ∧ (∃ xs, SqL K H1 a xs) ∧ R (Itl K a) H1
theorem pi_list {l : Expr} {tl : TE} (hl : PE X l tl) : PI X tg l (iList X.K tl) := by
  intro pins s σ H R I h
  refine thn (hl pins s σ H _ I h) fun v s1 ⟨x, H1, I1, r1, q1⟩ => ?_
  obtain ⟨a, e, ⟨xs, hq⟩, q⟩ := q1
  subst e
  cases r1
  obtain ⟨its, rv, p, hz⟩ := I1.list hq
  refine wpAny_pyIter_list p.isList ?_
  refine ⟨s1.heap.objs.size, [s1.heap.objs.size], _, _, H1, rfl, I1.kept (t' := s1.toks) fun b o e => Heap.get?_push_of_some _ e, turn_list a _, ⟨_, Heap.get?_push_size _ rfl, rfl, rfl⟩, fun b hb => ?_, q⟩
  have e : b = s1.heap.objs.size := by simpa using hb
  subst e
  exact I1.fpOk (Nat.le_refl _) (I1.hok.fresh (Nat.le_refl _))
/-- a range object just made, walked -/
theorem range_it {pins : List (Addr × Obj)} {σ : St} {H : Hp} {s : Shared} {R : It → Hp → Prop} {E : Value → Shared → Prop} {lo hi : Int} {t u v : Tok} {tk : Nat} (I : Inv X pins σ H s) (h1 : -(2 ^ 62) ≤ lo) (h2 : lo < 2 ^ 62) (h3 : -(2 ^ 62) ≤ hi) (h4 : hi < 2 ^ 62)
    (q : R (Itr lo (hi - lo).toNat) H) : wpAny (model X.prog X.w) X.A (pyIter (.ref s.heap.objs.size)) (PIE X pins σ tg R) E { s with heap := s.heap.push { cls := .type "range", data := .fields #[.int lo t, .int hi u, .int 1 v] }, toks := tk } := by
  refine wpAny_pyIter_range (IsRange.new ..) (small_one h1 h2 h3 h4) ?_
  have I1 : Inv X pins σ H { s with heap := s.heap.push { cls := .type "range", data := .fields #[.int lo t, .int hi u, .int 1 v] }, toks := tk } := I.kept fun b o e => Heap.get?_push_of_some _ e
  refine ⟨(s.heap.push { cls := .type "range", data := .fields #[.int lo t, .int hi u, .int 1 v] }).objs.size, [(s.heap.push { cls := .type "range", data := .fields #[.int lo t, .int hi u, .int 1 v] }).objs.size], _, _, H, rfl,
    I1.kept (t' := tk) fun b o e => Heap.get?_push_of_some _ e, turn_range _ lo (hi - lo).toNat, ?_, fun b hb => ?_, q⟩
  · have e1 : lo + ((0 : Nat) : Int) * 1 = lo := by simp
    have e2 : (((hi - lo).toNat : Nat) : Int) - ((0 : Nat) : Int) = Builtin.Range.rangeSize lo hi 1 := by rw [rangeSize_one]; split <;> omega
    show IsRangeIter _ _ (lo + ((0 : Nat) : Int) * 1) ((((hi - lo).toNat : Nat) : Int) - ((0 : Nat) : Int)) 1
    rw [e1, e2]
    exact Heap.get?_push_size _ rfl
  · have e : b = (s.heap.push { cls := .type "range", data := .fields #[.int lo t, .int hi u, .int 1 v] }).objs.size := by simpa using hb
    subst e
    exact I1.fpOk (Nat.le_refl _) (I1.hok.fresh (Nat.le_refl _))
def iRng1 (ta : TA) : TI := fun σ H R => ta σ H fun vs H1 => ∃ j : Int, vs = [.int j] ∧ -(2 ^ 62) ≤ j ∧ j < 2 ^ 62 ∧ R (Itr 0 j.toNat) H1
theorem pi_range1 {a : Expr} {ta : TA} {p pos : Pos} (hg : Gl X "range") (hm : X.mg "range" = none) (ha : PA X [a] ta) (hs : starEach [a] X.env = [(false, eval a X.env)] := by rfl) : PI X tg (.Call (.Name "range" p) [a] [] pos) (iRng1 ta) := by
  intro pins s σ H R I h
  refine Call_ (ld_blt I hg hm boot_range (PyProof.Rows.callWith_type1 (thn (ha pos pins s σ H _ I h) fun us s1 ⟨vs, H1, I1, r1, q1⟩ => ?_) hs rfl))
  obtain ⟨j, e, q1, q2, q⟩ := q1
  subst e
  cases r1 with
  | cons r rr =>
    cases rr
    obtain ⟨t, rfl⟩ := r
    exact call_range_1 (range_it I1 (by omega) (by omega) q1 q2 (by simpa using q))
/-! ### for -/
/-- W: the invariant by the turn and a measure; N: what the body is to reach -/
def tFor (wi : TI) (g : TG) (tb : TS) : TS := fun D σ H => wi σ H fun J H1 => ∃ W : Nat → Nat → St → Hp → Prop, (∃ m, W 0 m σ H1) ∧ ∀ i m σ H, W i m σ H →
  (J.stop i H ∧ D.nx σ H) ∨ (J.go i H ∧ ∃ N : St → Hp → Prop, (∀ σ' H', N σ' H' → ∃ m', m' < m ∧ W (i + 1) m' σ' H') ∧ ∀ x H', J.yld i H x H' → g x σ H' fun σ2 H2 => tb { D with nx := N, ct := N, bk := D.nx } σ2 H2)
/-- the records at fp as they stand -/
def pinsAt (fp : List Addr) (h : Heap) : List (Addr × Obj) := fp.filterMap fun b => (h.get? b).map fun o => (b, o)
theorem mem_pinsAt {fp : List Addr} {h : Heap} {b : Addr} {o : Obj} (hb : b ∈ fp) (e : h.get? b = some o) : (b, o) ∈ pinsAt fp h := List.mem_filterMap.mpr ⟨b, hb, by rw [e]; rfl⟩
theorem of_pinsAt {fp : List Addr} {h : Heap} {p : Addr × Obj} (hp : p ∈ pinsAt fp h) : p.1 ∈ fp ∧ h.get? p.1 = some p.2 := by
  obtain ⟨b, hb, e⟩ := List.mem_filterMap.mp hp
  cases q : h.get? b with
  | none => rw [q] at e; cases e
  | some o =>
    rw [q] at e
    have e' : (b, o) = p := Option.some.inj e
    subst e'
    exact ⟨hb, q⟩
theorem Inv.pinned {pins : List (Addr × Obj)} {σ : St} {H : Hp} {s : Shared} {fp : List Addr} (I : Inv X pins σ H s) (hf : ∀ b ∈ fp, FpOk X pins H b) (ho : ∀ b ∈ fp, ∃ o, s.heap.get? b = some o ∧ ∀ v, o.data ≠ .cell v) : Inv X (pins ++ pinsAt fp s.heap) σ H s :=
  I.pins_of fun p hp => (List.mem_append.mp hp).elim (fun z => I.pin p (List.mem_append_right _ z)) fun z => by
    obtain ⟨hb, e⟩ := of_pinsAt z
    obtain ⟨f0, f1, f2, _⟩ := hf p.1 hb
    obtain ⟨o, e', d⟩ := ho p.1 hb
    rw [e] at e'; cases e'
    exact ⟨e, f0, f1, f2, d⟩
theorem Inv.unpinned {pins pl : List (Addr × Obj)} {σ : St} {H : Hp} {s : Shared} (I : Inv X (pins ++ pl) σ H s) : Inv X pins σ H s := I.pins_of fun p hp => I.pin p (List.mem_append_right _ (List.mem_append_left _ hp))
theorem ps_for {iter : Expr} {body : List Stmt} {wi : TI} {g : TG} {tb : TS} {pos : Pos} (hp : PassesOwn (model X.prog X.w) X.A X.env X.xe) (hc : X.calm = true) (hi : PI X tg iter wi) (hg : PG X tg g) (hb : PSs X body tb)
    (hs : ∀ x, foldedSetIterable iter X.env x = pure x := by intro _; rfl) : PS X (.For tg iter body [] pos) (tFor wi g tb) := by
  intro pins s σ H D I h
  refine wpAny_For (thn (hi pins s σ H _ I h) fun v s1 h1 => thn h1 fun itv s2 h2 => ?_) hs
  obtain ⟨it, fp, tn, J, H2, e, I2, T, st2, f2, W, ⟨m0, w0⟩, turn⟩ := h2
  subst e
  -- what stays true of the iterator's objects through the loop
  have stat : ∀ {H' : Hp}, (∀ b ∈ fp, H' b = none) → ∀ b ∈ fp, FpOk X pins H' b := fun hn b hb => ⟨hn b hb, (f2 b hb).2⟩
  refine codeAny_forLoop_any (fun n s' => ∃ i σ' H', Inv X pins σ' H' s' ∧ tn i s'.heap ∧ (∀ b ∈ fp, H' b = none) ∧ W i n σ' H') ?_ m0 ⟨0, σ, H2, I2, st2, fun b hb => (f2 b hb).1, w0⟩
  rintro n s3 ⟨i, σ3, H3, I3, st3, fr3, w3⟩
  rcases turn i n σ3 H3 w3 with ⟨stop, qn⟩ | ⟨go, N, hN, step⟩
  · refine wpAny_passesOwn hp (thn (T.done X rfl rfl rfl hc i pins s3 σ3 H3 X.xe I3 (stat fr3) st3 stop) fun r s4 ⟨hr, I4⟩ => ?_)
    subst hr
    exact wpAny_execs_nil ⟨σ3, H3, I4, qn⟩
  · refine wpAny_passesOwn hp (thn (T.item X rfl rfl rfl hc i pins s3 σ3 H3 X.xe I3 (stat fr3) st3 go) fun r s4 ⟨u, hr, h4⟩ => ?_)
    subst hr
    refine wpAny_passesOwn hp (thn h4 fun _ s5 ⟨x, H5, I5, r5, y5, st5, fr5⟩ => ?_)
    have I5' := I5.pinned (stat fr5) (T.obj _ _ st5)
    refine wpAny_passesOwn hp (thn (hg _ s5 σ3 H5 x u _ I5' r5 (step x H5 y5)) fun _ s6 ⟨σ6, H6, I6, q6⟩ => ?_)
    refine wpAny_passesOwn hp (thn (hb _ s6 σ6 H6 _ I6 q6) fun f s7 q7 => ?_)
    have again : ∀ {σ7 : St} {H7 : Hp}, Inv X (pins ++ pinsAt fp s5.heap) σ7 H7 s7 → N σ7 H7 → ∃ m, m < n ∧ ∃ i σ' H', Inv X pins σ' H' s7 ∧ tn i s7.heap ∧ (∀ b ∈ fp, H' b = none) ∧ W i m σ' H' := fun {σ7 H7} I7 n7 => by
      obtain ⟨m', hm, w7⟩ := hN σ7 H7 n7
      refine ⟨m', hm, i + 1, σ7, H7, I7.unpinned, T.keep _ _ _ st5 fun b hb o e => (I7.pin (b, o) (List.mem_append_right _ (List.mem_append_right _ (mem_pinsAt hb e)))).1, fun b hb => ?_, w7⟩
      obtain ⟨o, e, d⟩ := T.obj _ _ st5 b hb
      exact (I7.pin (b, o) (List.mem_append_right _ (List.mem_append_right _ (mem_pinsAt hb e)))).2.1
    cases f with
    | next => obtain ⟨σ7, H7, I7, n7⟩ := q7; exact again I7 n7
    | cont => obtain ⟨σ7, H7, I7, n7⟩ := q7; exact again I7 n7
    | brk => obtain ⟨σ7, H7, I7, q7⟩ := q7; exact ⟨σ7, H7, I7.unpinned, q7⟩
    | ret v => obtain ⟨x7, σ7, H7, I7, r7, q7⟩ := q7; exact ⟨x7, σ7, H7, I7.unpinned, r7, q7⟩
end

/-! ### the forms one uses -/
/-- over a list that the body leaves as it is -/
theorem for_list {K : PySem.W.Frag} {a : Addr} {xs : List V} {g : TG} {tb : TS} {D : Ends} {σ : St} {H : Hp} (Pv : Nat → St → Hp → Prop) (h0 : Pv 0 σ H) (hl : ∀ i σ H, i ≤ xs.length → Pv i σ H → SqL K H a xs)
    (hs : ∀ i x σ H, xs[i]? = some x → Pv i σ H → g x σ H fun σ2 H2 => tb { D with nx := Pv (i + 1), ct := Pv (i + 1), bk := D.nx } σ2 H2) (hd : ∀ σ H, Pv xs.length σ H → D.nx σ H) :
    ∃ W : Nat → Nat → St → Hp → Prop, (∃ m, W 0 m σ H) ∧ ∀ i m σ H, W i m σ H →
      ((Itl K a).stop i H ∧ D.nx σ H) ∨ ((Itl K a).go i H ∧ ∃ N : St → Hp → Prop, (∀ σ' H', N σ' H' → ∃ m', m' < m ∧ W (i + 1) m' σ' H') ∧ ∀ x H', (Itl K a).yld i H x H' → g x σ H' fun σ2 H2 => tb { D with nx := N, ct := N, bk := D.nx } σ2 H2) := by
  refine ⟨fun i m σ H => m = xs.length - i ∧ i ≤ xs.length ∧ Pv i σ H, ⟨xs.length, by simp, Nat.zero_le _, h0⟩, ?_⟩
  rintro i m σ H ⟨rfl, hi, p⟩
  have q := hl i σ H hi p
  by_cases hlt : i < xs.length
  · refine .inr ⟨⟨xs, xs[i], q, by simp [hlt]⟩, Pv (i + 1), fun σ' H' p' => ⟨xs.length - (i + 1), by omega, rfl, hlt, p'⟩, fun x H' y => ?_⟩
    obtain ⟨e, y⟩ := y
    subst e
    exact hs i x σ _ (y xs q) p
  · have e : i = xs.length := by omega
    subst e
    exact .inl ⟨⟨xs, q, Nat.le_refl _⟩, hd σ H p⟩
theorem for_range {lo : Int} {n : Nat} {g : TG} {tb : TS} {D : Ends} {σ : St} {H : Hp} (Pv : Nat → St → Hp → Prop) (h0 : Pv 0 σ H)
    (hs : ∀ i σ H, i < n → Pv i σ H → g (.int (lo + i)) σ H fun σ2 H2 => tb { D with nx := Pv (i + 1), ct := Pv (i + 1), bk := D.nx } σ2 H2) (hd : ∀ σ H, Pv n σ H → D.nx σ H) :
    ∃ W : Nat → Nat → St → Hp → Prop, (∃ m, W 0 m σ H) ∧ ∀ i m σ H, W i m σ H →
      ((Itr lo n).stop i H ∧ D.nx σ H) ∨ ((Itr lo n).go i H ∧ ∃ N : St → Hp → Prop, (∀ σ' H', N σ' H' → ∃ m', m' < m ∧ W (i + 1) m' σ' H') ∧ ∀ x H', (Itr lo n).yld i H x H' → g x σ H' fun σ2 H2 => tb { D with nx := N, ct := N, bk := D.nx } σ2 H2) := by
  refine ⟨fun i m σ H => m = n - i ∧ i ≤ n ∧ Pv i σ H, ⟨n, by simp, Nat.zero_le _, h0⟩, ?_⟩
  rintro i m σ H ⟨rfl, hi, p⟩
  by_cases hlt : i < n
  · refine .inr ⟨hlt, Pv (i + 1), fun σ' H' p' => ⟨n - (i + 1), by omega, rfl, hlt, p'⟩, fun x H' y => ?_⟩
    obtain ⟨e, y⟩ := y
    subst e y
    exact hs i σ _ hlt p
  · have e : i = n := by omega
    subst e
    exact .inl ⟨Nat.le_refl _, hd σ H p⟩
end L2

namespace L2
open PySem PySem.Spec PyProof.Rows

abbrev R2 := V → V → Hp → VK → Prop
/-- a two-place operation on values: f is binaryOp op, inplaceOp op or compareOp op -/
def OpR (X : Cx) (f : Value → Value → Sem Value) (r : R2) : Prop :=
  ∀ (pins : List (Addr × Obj)) (s : Shared) (σ : St) (H : Hp) (x y : V) (v u : Value) (Q : VK), Inv X pins σ H s → RelV x v → RelV y u → r x y H Q →
    wpAny (model X.prog X.w) X.A (f v u) (EP X pins σ Q) X.xe s
/-- a one-place operation -/
def UnR (X : Cx) (f : Value → Sem Value) (r : V → Hp → VK → Prop) : Prop :=
  ∀ (pins : List (Addr × Obj)) (s : Shared) (σ : St) (H : Hp) (x : V) (v : Value) (Q : VK), Inv X pins σ H s → RelV x v → r x H Q →
    wpAny (model X.prog X.w) X.A (f v) (EP X pins σ Q) X.xe s
/-- a call of a value that is known (a builtin, a type) with values -/
def CallR (X : Cx) (f : Value) (r : List V → Hp → VK → Prop) : Prop :=
  ∀ (pins : List (Addr × Obj)) (s : Shared) (σ : St) (H : Hp) (xs : List V) (us : List Value) (Q : VK), Inv X pins σ H s → Vals xs us → r xs H Q →
    wpAny (model X.prog X.w) X.A (call f us) (EP X pins σ Q) X.xe s
def tOp (r : R2) (ta tb : TE) : TE := fun σ H Q => ta σ H fun x H1 => tb σ H1 fun y H2 => r x y H2 Q
def tUn (r : V → Hp → VK → Prop) (ta : TE) : TE := fun σ H Q => ta σ H fun x H1 => r x H1 Q
/-- ints in, under C, and a value out -/
def rI (C : Int → Int → Prop) (g : Int → Int → V) : R2 := fun x y H Q => ∃ i j, x = .int i ∧ y = .int j ∧ C i j ∧ Q (g i j) H
def rI0 (g : Int → Int → V) : R2 := fun x y H Q => ∃ i j, x = .int i ∧ y = .int j ∧ Q (g i j) H
def rU (g : Int → V) : V → Hp → VK → Prop := fun x H Q => ∃ i, x = .int i ∧ Q (g i) H

section
variable {X : Cx} {a b c : Expr} {ta tb tc : TE} {pos : Pos}

theorem binT (ha : PE X a ta) (hb : PE X b tb) {pins : List (Addr × Obj)} {s : Shared} {σ : St} {H : Hp} {R : V → V → Hp → Prop} (I : Inv X pins σ H s)
    (h : ta σ H fun x H1 => tb σ H1 fun y H2 => R x y H2) {Q : Value → Shared → Prop} {f : Value → Value → Sem Value}
    (hf : ∀ v u s2 x y H2, Inv X pins σ H2 s2 → RelV x v → RelV y u → R x y H2 → wpAny (model X.prog X.w) X.A (f v u) Q X.xe s2) :
    wpAny (model X.prog X.w) X.A (eval a X.env) (fun v s₁ => wpAny (model X.prog X.w) X.A (eval b X.env) (fun u s₂ => wpAny (model X.prog X.w) X.A (f v u) Q X.xe s₂) X.xe s₁) X.xe s := by
  refine thn (ha pins s σ H _ I h) fun v s1 ⟨x, H1, I1, r1, q1⟩ => ?_
  refine thn (hb pins s1 σ H1 _ I1 q1) fun u s2 ⟨y, H2, I2, r2, q2⟩ => ?_
  exact hf v u s2 x y H2 I2 r1 r2 q2

theorem pe_op {op : Operator} {r : R2} (ho : OpR X (binaryOp op) r) (ha : PE X a ta) (hb : PE X b tb) : PE X (.BinOp a op b pos) (tOp r ta tb) := by
  intro pins s σ H Q I h
  exact wpAny_BinOp (binT ha hb I h fun v u s2 x y H2 I2 rx ry q => ho pins s2 σ H2 x y v u Q I2 rx ry q)
theorem pe_un {op : UnaryOp} {r : V → Hp → VK → Prop} (ho : UnR X (unaryOp op) r) (ha : PE X a ta) : PE X (.UnaryOp op a pos) (tUn r ta) := by
  intro pins s σ H Q I h
  exact UnaryOp_ (thn (ha pins s σ H _ I h) fun v s1 ⟨x, H1, I1, r1, q1⟩ => ho pins s1 σ H1 x v Q I1 r1 q1)
/-! ### ints -/
theorem opI {f : Value → Value → Sem Value} {C : Int → Int → Prop} {g : Int → Int → Int}
    (rule : ∀ (i j : Int) (t u : Tok) (s : Shared) (Q : Value → Shared → Prop) (E : Value → Shared → Prop), C i j → Q (.int (g i j) s.toks) { s with toks := s.toks + 1 } → wpAny (model X.prog X.w) X.A (f (.int i t) (.int j u)) Q E s) :
    OpR X f (rI C fun i j => .int (g i j)) := by
  intro pins s σ H x y v u Q I rx ry h
  obtain ⟨i, j, rfl, rfl, hc, q⟩ := h
  obtain ⟨t, rfl⟩ := rx
  obtain ⟨t', rfl⟩ := ry
  exact rule i j t t' s _ _ hc ⟨.int (g i j), H, I.tok _, ⟨_, rfl⟩, q⟩
theorem opI0 {f : Value → Value → Sem Value} {g : Int → Int → Int}
    (rule : ∀ (i j : Int) (t u : Tok) (s : Shared) (Q : Value → Shared → Prop) (E : Value → Shared → Prop), Q (.int (g i j) s.toks) { s with toks := s.toks + 1 } → wpAny (model X.prog X.w) X.A (f (.int i t) (.int j u)) Q E s) :
    OpR X f (rI0 fun i j => .int (g i j)) := by
  intro pins s σ H x y v u Q I rx ry h
  obtain ⟨i, j, rfl, rfl, q⟩ := h
  obtain ⟨t, rfl⟩ := rx
  obtain ⟨t', rfl⟩ := ry
  exact rule i j t t' s _ _ ⟨.int (g i j), H, I.tok _, ⟨_, rfl⟩, q⟩
theorem opB0 {f : Value → Value → Sem Value} {g : Int → Int → Bool}
    (rule : ∀ (i j : Int) (t u : Tok) (s : Shared) (Q : Value → Shared → Prop) (E : Value → Shared → Prop), Q (.bool (g i j)) s → wpAny (model X.prog X.w) X.A (f (.int i t) (.int j u)) Q E s) :
    OpR X f (rI0 fun i j => .bl (g i j)) := by
  intro pins s σ H x y v u Q I rx ry h
  obtain ⟨i, j, rfl, rfl, q⟩ := h
  obtain ⟨t, rfl⟩ := rx
  obtain ⟨t', rfl⟩ := ry
  exact rule i j t t' s _ _ ⟨.bl (g i j), H, I, rfl, q⟩

def CDiv (i j : Int) : Prop := 0 < j ∧ j < 1073741824
def CPow (i j : Int) : Prop := 0 ≤ j ∧ j ≤ 1000000 ∧ i.natAbs < 2 ^ 64
def CMul (i j : Int) : Prop := (-(2 ^ 64) < i ∧ i < 2 ^ 64) ∨ (-(2 ^ 64) < j ∧ j < 2 ^ 64)
theorem CMul.ok {i j : Int} (h : CMul i j) : IntMulOk i j := by
  rcases h with ⟨h1, h2⟩ | ⟨h1, h2⟩
  · exact .of_left (intBits_le_64 h1 h2)
  · exact .of_right (intBits_le_64 h1 h2)
theorem two_pow_nn (k : Nat) : (0 : Int) ≤ 2 ^ k := by
  rw [two_pow_cast]
  exact Int.natCast_nonneg _

theorem op_add : OpR X (binaryOp .Add) (rI0 fun i j => .int (i + j)) := opI0 fun _ _ _ _ _ _ _ q => add_int q
theorem op_sub : OpR X (binaryOp .Sub) (rI0 fun i j => .int (i - j)) := opI0 fun _ _ _ _ _ _ _ q => sub_int q
theorem op_mul : OpR X (binaryOp .Mult) (rI CMul fun i j => .int (i * j)) := opI fun _ _ _ _ _ _ _ hc q => mul_int q hc.ok
/-- // by a positive divisor -/
theorem op_fdiv : OpR X (binaryOp .FloorDiv) (rI CDiv fun i j => .int (i / j)) := opI fun i j _ _ _ _ _ hc q => by
  have h1 : (0 : Int) < j := hc.1
  have h2 : j < 1073741824 := hc.2
  exact floordiv_int (by omega) (by rw [Int.fdiv_eq_ediv_of_nonneg i (by omega)]; exact q) (.inl (PyProof.noPylong_small (by omega)))
/-- % by a positive divisor of any size -/
theorem op_mod : OpR X (binaryOp .Mod) (rI (fun _ j => 0 < j) fun i j => .int (i % j)) := opI fun i j _ _ _ _ _ hc q => by
  have h1 : (0 : Int) < j := hc
  exact mod_int' (by omega) (by rw [Int.fmod_eq_emod_of_nonneg i (by omega)]; exact q)
theorem op_pow : OpR X (binaryOp .Pow) (rI CPow fun i j => .int (i ^ j.toNat)) := opI fun _ _ _ _ _ _ _ hc q => pow_int_small hc.1 hc.2.1 hc.2.2 q
theorem op_shl : OpR X (binaryOp .LShift) (rI CPow fun i j => .int (i * 2 ^ j.toNat)) := opI fun _ _ _ _ _ _ _ hc q => lshift_int_small hc.1 hc.2.1 hc.2.2 q
theorem op_shr : OpR X (binaryOp .RShift) (rI (fun _ j => 0 ≤ j) fun i j => .int (i / 2 ^ j.toNat)) := opI fun i j _ _ _ _ _ hc q =>
  rshift_int hc (by rw [Int.fdiv_eq_ediv_of_nonneg i (two_pow_nn _)]; exact q)
theorem op_and : OpR X (binaryOp .BitAnd) (rI0 fun i j => .int (Builtin.bitAnd i j)) := opI0 fun _ _ _ _ _ _ _ q => and_int q
theorem op_or : OpR X (binaryOp .BitOr) (rI0 fun i j => .int (Builtin.bitOr i j)) := opI0 fun _ _ _ _ _ _ _ q => or_int q
theorem unI {f : Value → Sem Value} {g : Int → Int}
    (rule : ∀ (i : Int) (t : Tok) (s : Shared) (Q : Value → Shared → Prop) (E : Value → Shared → Prop), Q (.int (g i) s.toks) { s with toks := s.toks + 1 } → wpAny (model X.prog X.w) X.A (f (.int i t)) Q E s) :
    UnR X f (rU fun i => .int (g i)) := by
  intro pins s σ H x v Q I rx h
  obtain ⟨i, rfl, q⟩ := h
  obtain ⟨t, rfl⟩ := rx
  exact rule i t s _ _ ⟨.int (g i), H, I.tok _, ⟨_, rfl⟩, q⟩
theorem un_neg : UnR X (unaryOp .USub) (rU fun i => .int (-i)) := unI fun _ _ _ _ _ q => neg_int q
/-! ### bools among ints: n += (a < b) -/
end

/-! ### comparisons -/
/-- the scalars that == tells apart as data does -/
def scal : V → V → Bool
  | .non, .non => true | .non, .int _ => true | .int _, .non => true | .non, .bl _ => true | .bl _, .non => true | .non, .str _ => true | .str _, .non => true
  | .int _, .int _ => true | .bl _, .bl _ => true | .str _, .str _ => true | .byt _, .byt _ => true
  | .int _, .str _ => true | .str _, .int _ => true | .bl _, .str _ => true | .str _, .bl _ => true
  | _, _ => false
def rEq : R2 := fun x y H Q => scal x y = true ∧ Q (.bl (decide (x = y))) H
def rNe : R2 := fun x y H Q => scal x y = true ∧ Q (.bl (!decide (x = y))) H

theorem dec_int {i j : Int} : decide (V.int i = V.int j) = (i == j) := by
  rw [Bool.eq_iff_iff]
  simp
theorem dec_bl {i j : Bool} : decide (V.bl i = V.bl j) = (i == j) := by
  rw [Bool.eq_iff_iff]
  simp
theorem dec_str {i j : Str} : decide (V.str i = V.str j) = (i == j) := by
  rw [Bool.eq_iff_iff]
  simp
theorem dec_byt {i j : Array UInt8} : decide (V.byt i = V.byt j) = (i.toList == j.toList) := by
  rw [Bool.eq_iff_iff]
  cases i
  cases j
  simp

section
variable {X : Cx} {a b c : Expr} {ta tb tc : TE} {pos : Pos}
theorem fin_bl {pins : List (Addr × Obj)} {σ : St} {H : Hp} {s : Shared} {Q : VK} {k k' : Bool} (I : Inv X pins σ H s) (q : Q (.bl k) H) (e : k = k') : EP X pins σ Q (.bool k') s := by
  subst e
  exact ⟨.bl k, H, I, rfl, q⟩
theorem op_eq : OpR X (compareOp .Eq) rEq := by
  intro pins s σ H x y v u Q I rx ry h
  obtain ⟨hs, q⟩ := h
  cases x with
  | non =>
    cases rx
    cases y with
    | non => cases ry; exact PySem.EqNone.eq_none_none (fin_bl I q (by simp))
    | bl j => cases ry; exact PySem.EqNone.eq_none_bool (fin_bl I q (by simp))
    | int j => obtain ⟨t', rfl⟩ := ry; exact PySem.EqNone.eq_none_int (fin_bl I q (by simp))
    | str j => obtain ⟨t', rfl⟩ := ry; exact PySem.EqNone.eq_none_str (fin_bl I q (by simp))
    | _ => exact absurd (show false = true from hs) Bool.false_ne_true
  | bl i =>
    cases rx
    cases y with
    | non => cases ry; exact PySem.EqNone.eq_bool_none (fin_bl I q (by simp))
    | bl j => cases ry; exact eq_bool (fin_bl I q dec_bl)
    | str j => obtain ⟨t', rfl⟩ := ry; exact PySem.EqMixed.eq_bool_str (fin_bl I q (by simp))
    | _ => exact absurd (show false = true from hs) Bool.false_ne_true
  | int i =>
    obtain ⟨t, rfl⟩ := rx
    cases y with
    | non => cases ry; exact PySem.EqNone.eq_int_none (fin_bl I q (by simp))
    | int j => obtain ⟨t', rfl⟩ := ry; exact eq_int (fin_bl I q dec_int)
    | str j => obtain ⟨t', rfl⟩ := ry; exact PySem.EqMixed.eq_int_str (fin_bl I q (by simp))
    | _ => exact absurd (show false = true from hs) Bool.false_ne_true
  | str i =>
    obtain ⟨t, rfl⟩ := rx
    cases y with
    | non => cases ry; exact PySem.EqNone.eq_str_none (fin_bl I q (by simp))
    | bl j => cases ry; exact PySem.EqMixed.eq_str_bool (fin_bl I q (by simp))
    | int j => obtain ⟨t', rfl⟩ := ry; exact PySem.EqMixed.eq_str_int (fin_bl I q (by simp))
    | str j => obtain ⟨t', rfl⟩ := ry; exact eq_str (fin_bl I q dec_str)
    | _ => exact absurd (show false = true from hs) Bool.false_ne_true
  | byt i =>
    obtain ⟨t, rfl⟩ := rx
    cases y with
    | byt j => obtain ⟨t', rfl⟩ := ry; exact PySem.W.eq_bytes (fin_bl I q dec_byt)
    | _ => exact absurd (show false = true from hs) Bool.false_ne_true
  | _ => cases y <;> exact absurd (show false = true from hs) Bool.false_ne_true
theorem op_ne : OpR X (compareOp .NotEq) rNe := by
  intro pins s σ H x y v u Q I rx ry h
  obtain ⟨hs, q⟩ := h
  cases x with
  | non =>
    cases rx
    cases y with
    | non => cases ry; exact PySem.EqNone.ne_none_none (fin_bl I q (by simp))
    | bl j => cases ry; exact PySem.EqNone.ne_none_bool (fin_bl I q (by simp))
    | int j => obtain ⟨t', rfl⟩ := ry; exact PySem.EqNone.ne_none_int (fin_bl I q (by simp))
    | str j => obtain ⟨t', rfl⟩ := ry; exact PySem.EqNone.ne_none_str (fin_bl I q (by simp))
    | _ => exact absurd (show false = true from hs) Bool.false_ne_true
  | bl i =>
    cases rx
    cases y with
    | non => cases ry; exact PySem.EqNone.ne_bool_none (fin_bl I q (by simp))
    | bl j => cases ry; exact ne_bool (fin_bl I q (congrArg not dec_bl))
    | str j => obtain ⟨t', rfl⟩ := ry; exact PySem.EqMixed.ne_bool_str (fin_bl I q (by simp))
    | _ => exact absurd (show false = true from hs) Bool.false_ne_true
  | int i =>
    obtain ⟨t, rfl⟩ := rx
    cases y with
    | non => cases ry; exact PySem.EqNone.ne_int_none (fin_bl I q (by simp))
    | int j => obtain ⟨t', rfl⟩ := ry; exact ne_int (fin_bl I q (congrArg not dec_int))
    | str j => obtain ⟨t', rfl⟩ := ry; exact PySem.EqMixed.ne_int_str (fin_bl I q (by simp))
    | _ => exact absurd (show false = true from hs) Bool.false_ne_true
  | str i =>
    obtain ⟨t, rfl⟩ := rx
    cases y with
    | non => cases ry; exact PySem.EqNone.ne_str_none (fin_bl I q (by simp))
    | bl j => cases ry; exact PySem.EqMixed.ne_str_bool (fin_bl I q (by simp))
    | int j => obtain ⟨t', rfl⟩ := ry; exact PySem.EqMixed.ne_str_int (fin_bl I q (by simp))
    | str j => obtain ⟨t', rfl⟩ := ry; exact ne_str (fin_bl I q (congrArg not dec_str))
    | _ => exact absurd (show false = true from hs) Bool.false_ne_true
  | byt i =>
    obtain ⟨t, rfl⟩ := rx
    cases y with
    | byt j => obtain ⟨t', rfl⟩ := ry; exact PySem.W.ne_bytes (fin_bl I q (congrArg not dec_byt))
    | _ => exact absurd (show false = true from hs) Bool.false_ne_true
  | _ => cases y <;> exact absurd (show false = true from hs) Bool.false_ne_true

theorem op_lt : OpR X (compareOp .Lt) (rI0 fun i j => .bl (decide (i < j))) := opB0 fun _ _ _ _ _ _ _ q => lt_int q
theorem op_le : OpR X (compareOp .LtE) (rI0 fun i j => .bl (decide (i ≤ j))) := opB0 fun _ _ _ _ _ _ _ q => le_int q
theorem op_gt : OpR X (compareOp .Gt) (rI0 fun i j => .bl (decide (j < i))) := opB0 fun _ _ _ _ _ _ _ q => gt_int q
theorem op_ge : OpR X (compareOp .GtE) (rI0 fun i j => .bl (decide (j ≤ i))) := opB0 fun _ _ _ _ _ _ _ q => ge_int q
/-- two rules for one operation: by cases -/
theorem OpR.or {f : Value → Value → Sem Value} {r r' : R2} (h : OpR X f r) (h' : OpR X f r') : OpR X f (fun x y H Q => r x y H Q ∨ r' x y H Q) := by
  intro pins s σ H x y v u Q I rx ry q
  rcases q with q | q
  · exact h pins s σ H x y v u Q I rx ry q
  · exact h' pins s σ H x y v u Q I rx ry q

theorem nomark (b : Expr) {op : CmpOp} (h : op ≠ .In := by decide) (h2 : op ≠ .NotIn := by decide) : behindInMarks op b = false := by
  have e1 : (op == CmpOp.In) = false := by cases op <;> first | rfl | exact absurd rfl h
  have e2 : (op == CmpOp.NotIn) = false := by cases op <;> first | rfl | exact absurd rfl h2
  cases b <;> simp [behindInMarks, e1, e2]
/-- a comparison as a value; hm: nomark b, or (for in, not in) by with_unfolding_all rfl -/
theorem pe_cmpR {op : CmpOp} {r : R2} (ho : OpR X (compareOp op) r) (ha : PE X a ta) (hb : PE X b tb) (hm : behindInMarks op b = false) : PE X (.Compare a [op] [b] pos) (tOp r ta tb) := by
  intro pins s σ H Q I h
  exact wpAny_Compare1 (binT ha hb I h fun v u s2 x y H2 I2 rx ry q => ho pins s2 σ H2 x y v u Q I2 rx ry q) hm
/-- a reading of a value as a test -/
def tTest (t : TE) : TT := fun σ H Q => t σ H fun x H' => ∃ k, x = .bl k ∧ Q k H'
theorem pt_cmpR {op : CmpOp} {r : R2} (ho : OpR X (compareOp op) r) (ha : PE X a ta) (hb : PE X b tb) (hm : behindInMarks op b = false) : PT X (.Compare a [op] [b] pos) (tTest (tOp r ta tb)) := by
  intro pins s σ H Q I h
  refine wpAny_isTrue_Compare1 (thn (ha pins s σ H _ I h) fun v s1 ⟨x, H1, I1, r1, q1⟩ => thn (hb pins s1 σ H1 _ I1 q1) fun u s2 ⟨y, H2, I2, r2, q2⟩ =>
    thn (ho pins s2 σ H2 x y v u _ I2 r1 r2 q2) fun c s3 ⟨z, H3, I3, r3, k, e, q3⟩ => ?_) hm
  subst e
  cases r3
  exact wpAny_truthy_bool ⟨H3, I3, q3⟩
/-- a op1 b op2 c -/
def tChain (r r' : R2) (ta tb tc : TE) : TE := fun σ H Q => ta σ H fun x H1 => tb σ H1 fun y H2 => r x y H2 fun z H3 => ∃ k, z = .bl k ∧
  (if k = true then tc σ H3 fun w' H4 => r' y w' H4 Q else Q (.bl false) H3)
theorem pe_chain {op op' : CmpOp} {r r' : R2} (ho : OpR X (compareOp op) r) (ho' : OpR X (compareOp op') r') (ha : PE X a ta) (hb : PE X b tb) (hc : PE X c tc)
    (hm : lastMarks [op, op'] [b, c] = false := by with_unfolding_all rfl) : PE X (.Compare a [op, op'] [b, c] pos) (tChain r r' ta tb tc) := by
  intro pins s σ H Q I h
  refine Compare_chain (thn (ha pins s σ H _ I h) fun v s1 ⟨x, H1, I1, r1, q1⟩ => chain_link (thn (hb pins s1 σ H1 _ I1 q1) fun u s2 ⟨y, H2, I2, r2, q2⟩ =>
    thn (ho pins s2 σ H2 x y v u _ I2 r1 r2 q2) fun d s3 ⟨z, H3, I3, r3, k, e, q3⟩ => ?_)) hm
  subst e
  cases r3
  refine wpAny_truthy_bool ?_
  cases k with
  | false => exact ite_ff ⟨.bl false, H3, I3, rfl, q3⟩
  | true => exact ite_tt (chain_last (thn (hc pins s3 σ H3 _ I3 q3) fun w' s4 ⟨z', H4, I4, r4, q4⟩ => ho' pins s4 σ H4 y z' u w' Q I4 r2 r4 q4))
/-! ### truth -/
theorem line63 : (sizeLine : Nat) < 2 ^ 63 := by rw [sizeLine_eq]; decide
/-! ### strs and bytes -/
/-! ### scalar builtins, by CallR -/
theorem vals1 {x : V} {us : List Value} (r : Vals [x] us) : ∃ u, us = [u] ∧ RelV x u := by
  cases r with
  | cons r1 r2 => cases r2; exact ⟨_, rfl, r1⟩
theorem vals2 {x y : V} {us : List Value} (r : Vals [x, y] us) : ∃ u w', us = [u, w'] ∧ RelV x u ∧ RelV y w' := by
  cases r with
  | cons r1 r2 =>
    cases r2 with
    | cons r3 r4 => cases r4; exact ⟨_, _, rfl, r1, r3⟩
theorem call_max2 (hc : X.A.handled = none) : CallR X (.builtin "max") (fun xs H Q => ∃ i j, xs = [.int i, .int j] ∧ Q (.int (if j > i then j else i)) H) := by
  intro pins s σ H xs us Q I r h
  obtain ⟨i, j, rfl, q⟩ := h
  obtain ⟨u, w', rfl, ⟨t, rfl⟩, ⟨t', rfl⟩⟩ := vals2 r
  refine max_two_ints hc fun h' tk k => ⟨_, H, I.kept k, ?_, q⟩
  by_cases hj : j > i
  · rw [if_pos hj, if_pos hj]; exact ⟨_, rfl⟩
  · rw [if_neg hj, if_neg hj]; exact ⟨_, rfl⟩
theorem call_min2 (hc : X.A.handled = none) : CallR X (.builtin "min") (fun xs H Q => ∃ i j, xs = [.int i, .int j] ∧ Q (.int (if j < i then j else i)) H) := by
  intro pins s σ H xs us Q I r h
  obtain ⟨i, j, rfl, q⟩ := h
  obtain ⟨u, w', rfl, ⟨t, rfl⟩, ⟨t', rfl⟩⟩ := vals2 r
  refine min_two_ints hc fun h' tk k => ⟨_, H, I.kept k, ?_, q⟩
  by_cases hj : j < i
  · rw [if_pos hj, if_pos hj]; exact ⟨_, rfl⟩
  · rw [if_neg hj, if_neg hj]; exact ⟨_, rfl⟩
theorem call_int1 : CallR X (.type "int") (fun xs H Q => (∃ i, xs = [.int i] ∧ Q (.int i) H) ∨ ∃ k, xs = [.bl k] ∧ Q (.int (if k then 1 else 0)) H) := by
  intro pins s σ H xs us Q I r h
  rcases h with ⟨i, rfl, q⟩ | ⟨k, rfl, q⟩
  · obtain ⟨u, rfl, t, rfl⟩ := vals1 r
    exact call_int_int ⟨.int i, H, I, ⟨_, rfl⟩, q⟩
  · obtain ⟨u, rfl, r1⟩ := vals1 r
    cases r1
    exact call_int_bool ⟨.int (if k then 1 else 0), H, I.tok _, ⟨_, rfl⟩, q⟩
end
end L2

namespace L2
open PySem PySem.Spec PyProof.Rows

/-! ### an instance, its attributes a map -/
structure ObjM (h : Heap) (x dx C : Addr) (mA : Str → Option Value) : Prop where
  obj : h.get? x = some (PySem.W.instObj C dx)
  ns : h.Ns1 dx mA
  ne : dx ≠ x

theorem lookIn_ns {h : Heap} {dx : Addr} {mA : Str → Option Value} (n : h.Ns1 dx mA) : ∃ od, h.get? dx = some od ∧ ∀ name, PySem.W.lookIn name od = some (mA name) := by
  obtain ⟨o, es, ep, ho, hd, hk, _, hm⟩ := n
  refine ⟨o, ho, fun name => ?_⟩
  have e := hm name
  unfold nsFind findBy at e
  rw [← Array.find?_toList] at e
  unfold PySem.W.lookIn
  rw [hd]
  dsimp only
  split
  · rename_i y q
    rw [q] at e
    exact congrArg some e
  · rename_i q
    rw [q] at e
    have a : es.toList.any (·.refKey) = false := by
      rw [List.any_eq_false]
      intro y hy
      obtain ⟨z, t, hkey⟩ := hk y (Array.mem_toList_iff.mp hy)
      simp [DictEntry.refKey, hkey]
    have a' : ¬ es.toList.any (·.refKey) = true := by rw [a]; exact Bool.false_ne_true
    rw [if_neg a']
    exact congrArg some e

theorem ObjM.look {h : Heap} {x dx C : Addr} {mA : Str → Option Value} (I : ObjM h x dx C mA) : ∃ od, PySem.W.InstAt h x (PySem.W.instObj C dx) C (some od) ∧ ∀ name, PySem.W.lookIn name od = some (mA name) :=
  let ⟨od, ho, hl⟩ := lookIn_ns I.ns
  ⟨od, ⟨I.obj, rfl, rfl, ho⟩, hl⟩

section
variable {prog : Program} {w : World} {A : Around} {E : Value → Shared → Prop} {s : Shared} {K : PySem.W.Frag} {x dx C f : Addr} {mA : Str → Option Value} {name : Str} {v : Value}

theorem get_map {expr : Bool} {Q : Value → Shared → Prop} (X : K.In s.heap) (I : ObjM s.heap x dx C mA) (hg : PySem.W.plainGet K C name = true) (hh : PySem.W.hasDictIn K C = true)
    (ha : PySem.W.findIn K (.ref C) name = some none) (hv : mA name = some v) (hv' : PySem.W.handedIn v = true) (h : Q v { s with toks := s.toks + 1 }) :
    wpAny (model prog w) A (getAttr (.ref x) name expr) Q E s := by
  obtain ⟨od, J, hl⟩ := I.look
  exact PySem.W.get_value X J (PySem.W.plainGet_of hg).1 (PySem.W.findObj_own hh ha rfl (by rw [hl, hv])) hv' h

theorem get_meth {pl : Sem Bool} {Q : Value × List Value → Shared → Prop} (X : K.In s.heap) (I : ObjM s.heap x dx C mA) (hg : PySem.W.plainGet K C name = true)
    (hf : PySem.W.findIn K (.ref C) name = some (some (.ref f))) (ht : PySem.W.isFn K (.ref f) = true) (hv : mA name = none) (h : Q (.ref f, [.ref x]) s) :
    wpAny (model prog w) A (getMethod (.ref x) name pl) Q E s := by
  obtain ⟨od, J, hl⟩ := I.look
  exact PySem.W.method_fn X J (PySem.W.plainGet_of hg).1 (PySem.W.plainGet_of hg).2 hf (beq_iff_eq.mp ht) (by show (PySem.W.lookIn name od).map (·.isSome) = some false; rw [hl, hv]; rfl) h

theorem set_map {ns : List Str} {Q : Unit → Shared → Prop} (X : K.In s.heap) (I : ObjM s.heap x dx C mA)
    (hs : PySem.W.findIn K (.ref C) "__setattr__" = some (some (.builtin "object.__setattr__"))) (hp : PySem.W.plainOver K C = true) (ht : PySem.W.takerIn K C name = some none) (hh : PySem.W.hasDictIn K C = true)
    (hw : PySem.Within mA ns) (hsz : ns.length ≤ sizeLine)
    (h : ∀ h', ObjM h' x dx C (fun y => if y = name then some v else mA y) → Heap.SameBut dx s.heap h' → Q () { s with heap := h', toks := s.toks + 2 }) :
    wpAny (model prog w) A (setAttr (.ref x) name v) Q E s := by
  obtain ⟨od, J, hl⟩ := I.look
  refine PySem.W.set_plain X J hs (PySem.W.osa_open (s := { s with toks := s.toks + 1 }) (r := none) X J hp ht fun b => ?_)
  obtain ⟨cd, hc, hd'⟩ := PySem.W.any_some hh
  have hx : s.heap.get? x = some ⟨.ref C, some dx, .plain, #[]⟩ := I.obj
  refine wpAny_bind (wpAny_pure (wpAny_bind (wpAny_bind (wpAny_loadPart hx (wpAny_bind (PySem.W.Looks.here (s := { s with toks := s.toks + 1 }) (PySem.W.looks_clsIn X hc) ?_))))))
  rw [hd']
  refine wpAny_pure (a := some dx) (wpAny_bind (wpAny_pure (wpAny_bind ?_)))
  refine wpAny_nsSet1 (s := { s with toks := s.toks + 1 }) I.ns fun h' hn2 hs2 => ?_
  obtain ⟨oD, esD, epD, hoD, hdD, hcD⟩ := hn2.count (PySem.Within.cons name v hw)
  refine wpAny_bind (wpAny_lookBehind hoD (by rw [hdD]; exact pastItsLine_dict (Nat.le_trans hcD (by rw [List.length_cons]; omega))) ?_)
  exact wpAny_pure (h _ ⟨(hs2.2 _ (Ne.symm I.ne)).trans I.obj, hn2, I.ne⟩ hs2)

/-- C(..): the dict at the heap's end, the instance behind it; then its __init__ -/
theorem make_map {R : Result → Shared → Prop} {vs : List Value} {kw : List (Str × Value)} (X : K.In s.heap) (hm : PySem.W.makesIn K C = true)
    (hi : PySem.W.findIn K (.ref C) "__init__" = some (some (.ref f))) (hf : PySem.W.typeIn K (.ref f) = some (.type "function"))
    (h : codeAny (model prog w) (A.under (.builtin "type.__call__" ⟨.ref C :: vs, kw⟩)) (.call (.ref f) ⟨.ref (s.heap.objs.size + 1) :: vs, kw⟩) (PySem.W.InitBack (s.heap.objs.size + 1) R)
      { s with heap := (s.heap.push PySem.W.emptyDict).push (PySem.W.instObj C s.heap.objs.size) }) :
    codeAny (model prog w) A (.call (.ref C) ⟨vs, kw⟩) R s := by
  obtain ⟨hh, g, d, t, os⟩ := s
  exact PySem.W.make_core (PySem.W.makes_of X hm) (PySem.W.looks_findIn X hi) (fun self => PySem.W.bind_fn X self hf) (.inl rfl) h
end

/-! ### the attributes as a list of pairs -/
def putF (f : Str) (v : V) : List (Str × V) → List (Str × V)
  | [] => [(f, v)]
  | (g, x) :: r => if g = f then (g, v) :: r else (g, x) :: putF f v r
theorem lookup_putF (f g : Str) (v : V) : ∀ fs : List (Str × V), (putF f v fs).lookup g = if g = f then some v else fs.lookup g
  | [] => by
    show List.lookup g [(f, v)] = _
    by_cases h : g = f
    · have hb : (g == f) = true := beq_iff_eq.mpr h
      simp only [List.lookup, hb, if_pos h]
    · have hb : (g == f) = false := beq_eq_false_iff_ne.mpr h
      simp only [List.lookup, hb, if_neg h]
  | (k, x) :: r => by
    have ih := lookup_putF f g v r
    rw [show putF f v ((k, x) :: r) = (if k = f then (k, v) :: r else (k, x) :: putF f v r) from rfl]
    by_cases hk : k = f
    · rw [if_pos hk]
      by_cases h : g = k
      · have hb : (g == k) = true := beq_iff_eq.mpr h
        simp only [List.lookup, hb, if_pos (h.trans hk)]
      · have hb : (g == k) = false := beq_eq_false_iff_ne.mpr h
        simp only [List.lookup, hb, if_neg (fun e : g = f => h (e.trans hk.symm))]
    · rw [if_neg hk]
      by_cases h : g = k
      · have hb : (g == k) = true := beq_iff_eq.mpr h
        simp only [List.lookup, hb, if_neg (fun e : g = f => hk (h.symm.trans e))]
      · have hb : (g == k) = false := beq_eq_false_iff_ne.mpr h
        simp only [List.lookup, hb]
        exact ih
theorem keys_putF (f : Str) (v : V) : ∀ fs : List (Str × V), f ∈ (putF f v fs).map (·.1) ∧ ∀ g, g ∈ fs.map (·.1) → g ∈ (putF f v fs).map (·.1)
  | [] => ⟨by simp [putF], fun g h => by simp at h⟩
  | (k, x) :: r => by
    obtain ⟨i1, i2⟩ := keys_putF f v r
    rw [show putF f v ((k, x) :: r) = (if k = f then (k, v) :: r else (k, x) :: putF f v r) from rfl]
    by_cases hk : k = f
    · rw [if_pos hk]
      subst hk
      exact ⟨by simp, fun g h => by simpa using h⟩
    · rw [if_neg hk]
      refine ⟨?_, fun g h => ?_⟩
      · rw [List.map_cons]
        exact List.mem_cons_of_mem _ i1
      · rw [List.map_cons] at h ⊢
        rcases List.mem_cons.mp h with e | e
        · exact List.mem_cons.mpr (.inl e)
        · exact List.mem_cons_of_mem _ (i2 g e)
theorem length_putF (f : Str) (v : V) : ∀ fs : List (Str × V), (putF f v fs).length ≤ fs.length + 1
  | [] => by simp [putF]
  | (k, x) :: r => by
    have ih := length_putF f v r
    rw [show putF f v ((k, x) :: r) = (if k = f then (k, v) :: r else (k, x) :: putF f v r) from rfl]
    by_cases hk : k = f
    · rw [if_pos hk, List.length_cons, List.length_cons]; omega
    · rw [if_neg hk, List.length_cons, List.length_cons]; omega

theorem RelO.some_of {v : V} {o : Option Value} (r : RelO (some v) o) : ∃ u, o = some u ∧ RelV v u := by
  cases o with
  | none => exact (show False from r).elim
  | some u => exact ⟨u, rfl, r⟩
theorem RelO.none_of {o : Option Value} (r : RelO none o) : o = none := by
  cases o with
  | none => rfl
  | some u => exact (show False from r).elim
theorem handed_of {v : V} {u : Value} (r : RelV v u) : PySem.W.handedIn u = true := by
  cases v with
  | non => cases (show u = Value.none from r); rfl
  | bl b => cases (show u = Value.bool b from r); rfl
  | int i => obtain ⟨t, e⟩ := (show ∃ t, u = Value.int i t from r); cases e; rfl
  | str x => obtain ⟨t, e⟩ := (show ∃ t, u = Value.str x t from r); cases e; rfl
  | byt b => obtain ⟨t, e⟩ := (show ∃ t, u = Value.bytes b t from r); cases e; rfl
  | flt b => obtain ⟨t, e⟩ := (show ∃ t, u = Value.float b t from r); cases e; rfl
  | ref a => cases (show u = Value.ref a from r); rfl
  | ty n => cases (show u = Value.type n from r); rfl

section
variable {P : Program} {w : World} {H H' : Hp} {h h' : Heap} {a C dx : Addr} {fs fs' : List (Str × V)}
theorem ins_get (hok : HOk P w H h) (e : H a = some (.ins C dx fs)) : ∃ mA, ObjM h a dx C mA ∧ (∀ f, RelO (fs.lookup f) (mA f)) ∧ PySem.Within mA (fs.map (·.1)) ∧ fs.length ≤ 1000 ∧ H dx = some (.own a) := by
  obtain ⟨d, z, ne, ob, mA, n, r, q⟩ := (show ObjOk P w H h a (.ins C dx fs) from hok a _ e)
  exact ⟨mA, ⟨ob, n, ne⟩, r, q, z, d⟩
end

/-! ### what of the text a class must have -/
structure Cls (K : PySem.W.Frag) (C : Addr) : Prop where
  pg : PySem.W.plainGet K C Str.empty = true
  hd : PySem.W.hasDictIn K C = true
  po : PySem.W.plainOver K C = true
  sa : PySem.W.findIn K (.ref C) "__setattr__" = some (some (.builtin "object.__setattr__"))
theorem Cls.get {K : PySem.W.Frag} {C : Addr} (c : Cls K C) (f : Str) : PySem.W.plainGet K C f = true := c.pg
/-- no class of it has the name -/
def NoAttr (K : PySem.W.Frag) (C : Addr) (f : Str) : Prop := PySem.W.findIn K (.ref C) f = some none
theorem NoAttr.taker {K : PySem.W.Frag} {C : Addr} {f : Str} (n : NoAttr K C f) : PySem.W.takerIn K C f = some none := by
  unfold PySem.W.takerIn
  rw [show PySem.W.findIn K (.ref C) f = some none from n]
  rfl
/-- a constant of the class -/
structure Con (K : PySem.W.Frag) (C : Addr) (f : Str) (v : V) (u : Value) : Prop where
  at_ : PySem.W.findIn K (.ref C) f = some (some u)
  rel : RelV v u
  get : PySem.W.specialIn K u "__get__" = some none
  cp : PySem.W.copiedNames.contains f = false
/-- a method: a plain def of the class or of one above it -/
structure Meth (K : PySem.W.Frag) (C : Addr) (m : Str) (f : Addr) : Prop where
  at_ : PySem.W.findIn K (.ref C) m = some (some (.ref f))
  fn : PySem.W.isFn K (.ref f) = true
  kp : PySem.W.keepIn K (.ref f) = true

section
variable {X : Cx} {pins : List (Addr × Obj)} {σ : St} {H : Hp} {s : Shared} {a C dx : Addr} {fs : List (Str × V)} {f : Str} {v : V} {A : Around} {E : Value → Shared → Prop}

theorem getattr_ok {b : Bool} {Q : Value → Shared → Prop} (I : Inv X pins σ H s) (e : H a = some (.ins C dx fs)) (c : Cls X.K C) (n : NoAttr X.K C f) (l : fs.lookup f = some v)
    (h : ∀ u s', Inv X pins σ H s' → RelV v u → Q u s') : wpAny (model X.prog X.w) A (getAttr (.ref a) f b) Q E s := by
  obtain ⟨mA, O, r, _, _, _⟩ := ins_get I.hok e
  obtain ⟨u, hu, ru⟩ := RelO.some_of (v := v) (o := mA f) (by rw [← l]; exact r f)
  exact get_map I.kIn O (c.get f) c.hd n hu (handed_of ru) (h u _ (I.tok _) ru)

theorem getmeth_ok {m : Str} {g : Addr} {pl : Sem Bool} {Q : Value × List Value → Shared → Prop} (I : Inv X pins σ H s) (e : H a = some (.ins C dx fs)) (c : Cls X.K C) (k : Meth X.K C m g) (l : fs.lookup m = none)
    (h : Q (.ref g, [.ref a]) s) : wpAny (model X.prog X.w) A (getMethod (.ref a) m pl) Q E s := by
  obtain ⟨mA, O, r, _, _, _⟩ := ins_get I.hok e
  have hn : mA m = none := RelO.none_of (by rw [← l]; exact r m)
  exact get_meth I.kIn O (c.get m) k.at_ k.fn hn h

theorem setattr_ok {y : V} {u : Value} {Q : Unit → Shared → Prop} (I : Inv X pins σ H s) (e : H a = some (.ins C dx fs)) (c : Cls X.K C) (n : NoAttr X.K C f) (hl : fs.length < 1000) (ry : RelV y u)
    (h : ∀ s', Inv X pins σ (upd H a (.ins C dx (putF f y fs))) s' → Q () s') : wpAny (model X.prog X.w) A (setAttr (.ref a) f u) Q E s := by
  obtain ⟨mA, O, r, wi, _, ho⟩ := ins_get I.hok e
  have hz : (fs.map (·.1)).length ≤ sizeLine := by rw [List.length_map, sizeLine_eq]; omega
  refine set_map I.kIn O c.sa c.po n.taker c.hd wi hz fun h' O' sb => h _ ?_
  have hd : ∃ o, h'.get? dx = some o := let ⟨o, _, _, e', _⟩ := O'.ns; ⟨o, e'⟩
  refine I.write (x := a) (e := dx) (by rw [e]; exact True.intro) (.inr ho) (fun b q hb z => (sb.2 b hb).trans z) hd ?_
  refine ⟨by rw [upd_ne O.ne]; exact ho, ?_, O.ne, O'.obj, _, O'.ns, fun g => ?_, fun g hg => ?_⟩
  · have := length_putF f y fs; omega
  · show RelO ((putF f y fs).lookup g) (if g = f then some u else mA g)
    rw [lookup_putF]
    by_cases q : g = f
    · rw [if_pos q, if_pos q]; exact ry
    · rw [if_neg q, if_neg q]; exact r g
  · by_cases q : g = f
    · rw [q]; exact (keys_putF f y fs).1
    · refine (keys_putF f y fs).2 g (wi g fun z => hg ?_)
      show (if g = f then some u else mA g) = none
      rw [if_neg q]; exact z

/-- a new instance, tracked, without attributes -/
theorem Inv.made (I : Inv X pins σ H s) : Inv X pins σ (upd (upd H s.heap.objs.size (.own (s.heap.objs.size + 1))) (s.heap.objs.size + 1) (.ins C s.heap.objs.size []))
    { s with heap := (s.heap.push PySem.W.emptyDict).push (PySem.W.instObj C s.heap.objs.size) } := by
  have e1 : (s.heap.push PySem.W.emptyDict).get? s.heap.objs.size = some PySem.W.emptyDict := Heap.get?_push_size s.heap rfl
  have e2 : ((s.heap.push PySem.W.emptyDict).push (PySem.W.instObj C s.heap.objs.size)).get? (s.heap.objs.size + 1) = some (PySem.W.instObj C s.heap.objs.size) := by
    have := Heap.get?_push_size (s.heap.push PySem.W.emptyDict) (o := PySem.W.instObj C s.heap.objs.size) rfl
    rwa [Heap.size_push] at this
  have e3 : (s.heap.push PySem.W.emptyDict).Ns s.heap.objs.size (fun _ => none) := ⟨PySem.W.emptyDict, #[], _, e1, rfl, (fun e he => absurd he (by simp)), fun _ => rfl⟩
  have I1 := I.laid (a := s.heap.objs.size) (o := .own (s.heap.objs.size + 1)) (h' := s.heap.push PySem.W.emptyDict) (t' := s.toks) (fun b u q => Heap.get?_push_of_some _ q) (Nat.le_refl _) ⟨_, e1⟩
  refine I1.laid (a := s.heap.objs.size + 1) (o := .ins C s.heap.objs.size []) (t' := s.toks) (fun b u q => Heap.get?_push_of_some _ q) (Nat.le_of_eq (Heap.size_push _ _)) ?_
  have ne : s.heap.objs.size ≠ s.heap.objs.size + 1 := Nat.ne_of_lt (Nat.lt_succ_self _)
  refine ⟨by rw [upd_ne ne, upd_same], Nat.zero_le _, ne, e2, fun _ => none, (Heap.Ns1.of_empty e3).at fun o q => Heap.get?_push_of_some _ q, fun _ => True.intro, fun y hy => absurd rfl hy⟩

/-- e.f where nothing but the object is asked: through attributeBase (super) and the last hold -/
theorem attr_of {prog : Program} {w : World} {env : Env} {e : Expr} {f : Str} {pos : Pos} {s : Shared} {Q : Value → Shared → Prop} (hb : attributeBase e f env (eval e env) = eval e env)
    (h : wpAny (model prog w) A (eval e env) (fun o s₁ => wpAny (model prog w) A (getAttr o f true) Q E s₁) E s) : wpAny (model prog w) A (eval (.Attribute e f pos) env) Q E s :=
  Attribute_any_ h (by rw [arm_eval_Attribute, hb])
end

/-! ### readings and rules -/
/-- e.f, an attribute of the instance -/
def tFld (K : PySem.W.Frag) (ta : TE) (f : Str) : TE := fun σ H Q => ta σ H fun x H1 => ∃ a C dx fs v, x = .ref a ∧ H1 a = some (.ins C dx fs) ∧ Cls K C ∧ NoAttr K C f ∧ fs.lookup f = some v ∧ Q v H1
/-- e.f = value -/
def sFld (K : PySem.W.Frag) (ta tv : TE) (f : Str) : TS := fun D σ H => tv σ H fun y H1 => ta σ H1 fun x H2 => ∃ a C dx fs, x = .ref a ∧ H2 a = some (.ins C dx fs) ∧ Cls K C ∧ NoAttr K C f ∧ fs.length < 1000 ∧
  D.nx σ (upd H2 a (.ins C dx (putF f y fs)))
section
variable {X : Cx} {o e value : Expr} {f : Str} {pos pos' tpos : Pos} {ta tv : TE}
theorem pe_fld (he : PE X e ta) (hb : attributeBase e f X.env (eval e X.env) = eval e X.env) : PE X (.Attribute e f pos) (tFld X.K ta f) := by
  intro pins s σ H Q I h
  refine attr_of hb (thn (he pins s σ H _ I h) fun u s1 ⟨x, H1, I1, rx, a, C, dx, fs, v, ex, ea, c, n, l, q⟩ => ?_)
  subst ex
  obtain rfl : u = Value.ref a := rx
  exact getattr_ok I1 ea c n l fun u' s2 I2 ru => ⟨v, H1, I2, ru, q⟩
theorem ps_fld (ha : PE X o ta) (hv : PE X value tv) (hs : swapsWith value (some (.Attribute o f pos')) pos.line X.env = pure false) : PS X (.Assign [.Attribute o f pos'] value pos) (sFld X.K ta tv f) := by
  intro pins s σ H D I h
  refine plainObj_wpAny_Assign_Attribute (thn (hv pins s σ H _ I h) fun u s1 ⟨y, H1, I1, ry, q⟩ => thn (ha pins s1 σ H1 _ I1 q) fun ov s2 ⟨x, H2, I2, rx, a, C, dx, fs, ex, ea, c, n, l, q2⟩ => ?_) hs
  subst ex
  obtain rfl : ov = Value.ref a := rx
  exact setattr_ok I2 ea c n l ry fun s3 I3 => ⟨σ, _, I3, q2⟩
end

/-! ### isinstance -/
section
variable {X : Cx} {pins : List (Addr × Obj)} {σ : St} {H : Hp} {s : Shared} {A : Around} {E : Value → Shared → Prop} {Q : Value → Shared → Prop} {c : Value} {b : Bool}
/-- the type of a value, as the fragment's deciders take it; for an instance its class -/
inductive TyOf (K : PySem.W.Frag) (H : Hp) : V → Value → Prop where
  | non : TyOf K H .non (.type "NoneType")
  | bl (x : Bool) : TyOf K H (.bl x) (.type "bool")
  | int (i : Int) : TyOf K H (.int i) (.type "int")
  | str (x : Str) : TyOf K H (.str x) (.type "str")
  | flt (x : UInt64) : TyOf K H (.flt x) (.type "float")
  | lst {a : Addr} {xs : List V} (e : H a = some (.lst xs)) : TyOf K H (.ref a) (.type "list")
  | frz {a : Addr} {o : Obj} {xs : List V} (e : H a = some (.frz o (.lst xs))) : TyOf K H (.ref a) (.type "list")
  | tup {a : Addr} {xs : List V} (e : H a = some (.tup xs)) : TyOf K H (.ref a) (.type "tuple")
  | dK {a : Addr} {kvs : List (Key × V)} (e : H a = some (.dK kvs)) : TyOf K H (.ref a) (.type "dict")
  | dT {a : Addr} {kvs : List (List Key × V)} (e : H a = some (.dT kvs)) : TyOf K H (.ref a) (.type "dict")
  | ins {a C dx : Addr} {fs : List (Str × V)} (e : H a = some (.ins C dx fs)) (cl : Cls K C) (ha : PySem.W.findIn K (.ref C) "__class__" = some (some (.builtin "object.__class__")))
      (hn : PySem.W.specialIn K (.builtin "object.__class__") "__get__" = some (some (.builtin "getset_descriptor.__get__"))) (htk : PySem.W.takesIn K (.builtin "object.__class__") = some true)
      (hm : PySem.W.mroIn K C (.type "object") = some true) : TyOf K H (.ref a) (.ref C)
/-- isinstance(x, c) for one class c, a built-in or an own one: kitOne's answer -/
theorem isinst_ok {x : V} {u t : Value} (I : Inv X pins σ H s) (rx : RelV x u) (ty : TyOf X.K H x t) (e : PySem.W.kitOne X.K t c = some b) (h : ∀ tk, Q (.bool b) { s with toks := tk }) :
    wpAny (model X.prog X.w) A (call (.builtin "isinstance") [u, c]) Q E s := by
  cases ty with
  | non => cases (show u = Value.none from rx); exact PySem.W.kia_one PySem.W.kitx_none I.kIn True.intro e (fun z => nomatch z) h
  | bl y => cases (show u = Value.bool y from rx); exact PySem.W.kia_one PySem.W.kitx_bool I.kIn True.intro e (fun z => nomatch z) h
  | int i => obtain ⟨t, q⟩ := (show ∃ t, u = Value.int i t from rx); cases q; exact PySem.W.kia_one PySem.W.kitx_int I.kIn True.intro e (fun z => nomatch z) h
  | str y => obtain ⟨t, q⟩ := (show ∃ t, u = Value.str y t from rx); cases q; exact PySem.W.kia_one PySem.W.kitx_str I.kIn True.intro e (fun z => nomatch z) h
  | flt y => obtain ⟨t, q⟩ := (show ∃ t, u = Value.float y t from rx); cases q; exact PySem.W.kia_one PySem.W.kitx_float I.kIn True.intro e (fun z => nomatch z) h
  | @lst a xs ea =>
    cases (show u = Value.ref a from rx)
    obtain ⟨_, _, n, _, h1⟩ := (show ObjOk X.prog X.w H s.heap a (.lst xs) from I.hok a _ ea)
    exact PySem.W.kia_one PySem.W.kitx_list I.kIn ⟨_, h1, rfl⟩ e (fun z => nomatch z) h
  | @frz a ob xs ea =>
    cases (show u = Value.ref a from rx)
    obtain ⟨_, _, _, n, _, h1⟩ := (show ObjOk X.prog X.w H s.heap a (.frz ob (.lst xs)) from I.hok a _ ea)
    exact PySem.W.kia_one PySem.W.kitx_list I.kIn ⟨_, h1, rfl⟩ e (fun z => nomatch z) h
  | @tup a xs ea =>
    cases (show u = Value.ref a from rx)
    obtain ⟨_, _, _, p⟩ := (show ObjOk X.prog X.w H s.heap a (.tup xs) from I.hok a _ ea)
    obtain ⟨o, h1, h2, _⟩ := p
    exact PySem.W.kia_one PySem.W.kitx_tuple I.kIn ⟨o, h1, h2⟩ e (fun z => nomatch z) h
  | @dK a kvs ea =>
    cases (show u = Value.ref a from rx)
    obtain ⟨_, _, vs, _, p⟩ := (show ObjOk X.prog X.w H s.heap a (.dK kvs) from I.hok a _ ea)
    obtain ⟨o, es, ep, h1, h2, _⟩ := p
    exact PySem.W.kia_one PySem.W.kitx_dict I.kIn ⟨o, h1, h2.1⟩ e (fun z => nomatch z) h
  | @dT a kvs ea =>
    cases (show u = Value.ref a from rx)
    obtain ⟨_, _, xs, _, o, es, ep, h1, h2, _⟩ := (show ObjOk X.prog X.w H s.heap a (.dT kvs) from I.hok a _ ea)
    exact PySem.W.kia_one PySem.W.kitx_dict I.kIn ⟨o, h1, h2.1⟩ e (fun z => nomatch z) h
  | @ins a C dx fs ea cl ha hn htk hm =>
    cases (show u = Value.ref a from rx)
    obtain ⟨mA, O, _⟩ := ins_get I.hok ea
    obtain ⟨od, J, _⟩ := O.look
    exact PySem.W.kia_one (PySem.W.kitx_own (cl.get _) cl.hd ha hn htk hm) I.kIn J e (fun z => nomatch z) h
end
end L2

namespace L2
open PySem PySem.Spec PyProof.Rows

/-! ### room -/
structure Room (k : Nat) (A : Around) : Prop where
  hd : 30 ≤ k → A.handled = none
  dp : A.depth + 3 * k + 5 < recursionLimit
  un : A.units + 16 * k + 200 < cLine
  gd : A.guards = some []
theorem Room.mono {j k : Nat} {A : Around} (r : Room k A) (h : j ≤ k) : Room j A := ⟨fun z => r.hd (by omega), by have := r.dp; omega, by have := r.un; omega, r.gd⟩
theorem Room.deeper {k : Nat} {A : Around} (r : Room (k + 1) A) (env : Env) : Room k (A.deeper env) :=
  ⟨fun z => r.hd (by omega), by have := r.dp; show A.depth + 1 + 3 * k + 5 < _; omega, by have := r.un; show A.units + 3 + 16 * k + 200 < _; omega, r.gd⟩
theorem Room.in1 {k : Nat} {A : Around} (r : Room (k + 1) A) : Room k A.in1 :=
  ⟨fun z => r.hd (by omega), by have := r.dp; show A.depth + 3 * k + 5 < _; omega, by have := r.un; show A.units + 1 + 16 * k + 200 < _; omega, r.gd⟩
theorem make_depth {A : Around} {C : Addr} {us : List Value} {kw : List (Str × Value)} : (A.under (.builtin "type.__call__" ⟨.ref C :: us, kw⟩)).depth = A.depth + 1 := by
  first | rfl | simp [Around.under, Code.weight, Code.isCreation, Code.isGuard, Code.isCaller, Code.frames, Code.isFrame, guardIds]
theorem make_units {A : Around} {C : Addr} {us : List Value} {kw : List (Str × Value)} : (A.under (.builtin "type.__call__" ⟨.ref C :: us, kw⟩)).units = A.units + 1 := by
  first | rfl | simp [Around.under, Code.cUnits, Code.frames, Code.isFrame]
theorem make_guards {A : Around} {C : Addr} {us : List Value} {kw : List (Str × Value)} : (A.under (.builtin "type.__call__" ⟨.ref C :: us, kw⟩)).guards = A.guards := by
  first | rfl | simp [Around.under, Code.guards, Code.isGuard, guardIds, pushGuards]
theorem Room.make {k : Nat} {A : Around} (r : Room (k + 1) A) (C : Addr) (us : List Value) (kw : List (Str × Value)) : Room k (A.under (.builtin "type.__call__" ⟨.ref C :: us, kw⟩)) :=
  ⟨fun z => r.hd (by omega), by have := r.dp; rw [make_depth]; omega, by have := r.un; rw [make_units]; omega, make_guards.trans r.gd⟩
theorem Room.depth {k : Nat} {A : Around} (r : Room k A) : A.depth < recursionLimit := by have := r.dp; omega
theorem Room.units {k : Nat} {A : Around} (r : Room k A) : A.units + 64 < cLine := by have := r.un; omega
/-! ### argument lists and displays -/
def tNil : TA := fun _ H Q => Q [] H
def tCons (ta : TE) (tr : TA) : TA := fun σ H Q => ta σ H fun x H1 => tr σ H1 fun xs H2 => Q (x :: xs) H2
section
variable {X : Cx} {e : Expr} {es : List Expr} {te : TE} {t : TA} {pos : Pos}
theorem pa_nil : PA X [] tNil := fun _ _ _ _ H Q I h => Calls.spliced_nil ⟨[], H, I, .nil, h⟩
theorem pa_cons (ha : PE X e te) (hr : PA X es t) (hs : starEach (e :: es) X.env = (false, eval e X.env) :: starEach es X.env := by rfl) : PA X (e :: es) (tCons te t) := by
  intro pos pins s σ H Q I h
  rw [hs]
  show wpAny _ _ (spliced ((false, eval e X.env) :: backTo pos (starEach es X.env))) _ _ s
  refine Calls.spliced_cons (thn (ha pins s σ H _ I h) fun u s1 ⟨x, H1, I1, r1, q1⟩ => ?_)
  exact thn (hr pos pins s1 σ H1 _ I1 q1) fun us s2 ⟨xs, H2, I2, r2, q2⟩ => ⟨x :: xs, H2, I2, .cons r1 r2, q2⟩

/-- a tuple, a list of written items -/
def tTup (t : TA) : TE := fun σ H Q => t σ H fun xs H1 => xs.length ≤ sizeLine ∧ ∀ p, H1 p = none → Q (.ref p) (upd H1 p (.tup xs))
def tLst (t : TA) : TE := fun σ H Q => t σ H fun xs H1 => xs.length ≤ sizeLine ∧ ∀ p, H1 p = none → Q (.ref p) (upd H1 p (.lst xs))
theorem pe_tup {x1} (h : PA X es t) : PE X (.Tuple es x1 pos) (tTup t) := by
  intro pins s σ H Q I hq
  refine wpAny_Tuple_spliced (thn (h pos pins s σ H _ I hq) fun us s1 ⟨xs, H1, I1, r, z, q⟩ => ⟨by rw [← r.length]; exact z, ?_⟩)
  have hf : H1 s1.heap.objs.size = none := I1.hok.fresh (Nat.le_refl _)
  refine ⟨.ref s1.heap.objs.size, upd H1 s1.heap.objs.size (.tup xs), I1.laid (t' := s1.toks) (fun b u e => Heap.get?_push_of_some _ e) (Nat.le_refl _) ?_, rfl, q _ hf⟩
  exact ⟨z, us, r, ⟨_, Heap.get?_push_size _ rfl, rfl, _, rfl⟩⟩
theorem pe_lst (h : PA X es t) : PE X (.List es pos) (tLst t) := by
  intro pins s σ H Q I hq
  refine wpAny_List_spliced (thn (h pos pins s σ H _ I hq) fun us s1 ⟨xs, H1, I1, r, z, q⟩ => ⟨by rw [← r.length]; exact z, ?_⟩)
  have hf : H1 s1.heap.objs.size = none := I1.hok.fresh (Nat.le_refl _)
  refine ⟨.ref s1.heap.objs.size, upd H1 s1.heap.objs.size (.lst xs), I1.laid (t' := s1.toks) (fun b u e => Heap.get?_push_of_some _ e) (Nat.le_refl _) ?_, rfl, q _ hf⟩
  exact ⟨z, us, 0, r, Heap.get?_push_size _ rfl⟩
end

/-! ### what a def promises -/
/-- a def's promise: the bound arguments in the parameters' order, the heap, the wanted end, the wanted exception -/
abbrev Sp := List V → Hp → VK → XK → Prop
/-- how an exception lies behind a call (file 08 gives it): the callers' frames, abstract heap and state ahead of the call, the wish, the exception, the state -/
abbrev CXT := List Env → Hp → Shared → XK → Value → Shared → Prop

/-- the state at a call -/
structure Env0 (P : Program) (w : World) (K : PySem.W.Frag) (mg : Str → Option Value) (base : Heap) (A : Around) (outer : List Env) (s : Shared) (H : Hp) : Prop where
  frames : A.frames = some outer
  mod : Mod K mg base
  bs : ∀ b o, base.get? b = some o → s.heap.get? b = some o ∧ H b = none
  bsz : base.objs.size ≤ s.heap.objs.size
  funs : s.heap.FunFrames base outer
  frf : ∀ b ∈ frs outer, H b = none
  hok : HOk P w H s.heap
  bare : AllBare s.gens
  qt : Qt A H
/-- a call's end -/
def CE (outer : List Env) (P : Program) (w : World) (H : Hp) (s : Shared) (Q : VK) (u : Value) (s' : Shared) : Prop :=
  ∃ v H', s'.os = s.os ∧ AllBare s'.gens ∧ Un (frs outer) [] H H' s.heap s'.heap ∧ HOk P w H' s'.heap ∧ RelV v u ∧ Q v H'
def CR (CX : CXT) (outer : List Env) (P : Program) (w : World) (H : Hp) (s : Shared) (Q : VK) (E : XK) (r : Result) (s' : Shared) : Prop :=
  match r with
  | .ok (.ret u) => CE outer P w H s Q u s'
  | .ok _ => False
  | .error e => CX outer H s E e s'
structure FnOk (P : Program) (w : World) (K : PySem.W.Frag) (mg : Str → Option Value) (base : Heap) (CX : CXT) (k : Nat) (f : Addr) (fd : FuncData) (ps : List Str) (sp : Sp) : Prop where
  len : ∀ vs H Q E, sp vs H Q E → vs.length = ps.length
  run : ∀ (A : Around) (outer : List Env) (s : Shared) (H : Hp) (args : Args) (us : List Value) (vs : List V) (Q : VK) (E : XK), Room k A → Env0 P w K mg base A outer s H → BindsTo s fd args (ps.zip us) → Vals vs us → sp vs H Q E →
    codeAny (model P w) A (.call (.ref f) args) (CR CX outer P w H s Q E) s
theorem FnOk.mono {P : Program} {w : World} {K : PySem.W.Frag} {mg : Str → Option Value} {base : Heap} {CX : CXT} {j k : Nat} {f : Addr} {fd : FuncData} {ps : List Str} {sp : Sp} (F : FnOk P w K mg base CX j f fd ps sp) (h : j ≤ k) :
    FnOk P w K mg base CX k f fd ps sp := ⟨F.len, fun A outer s H args us vs Q E hr => F.run A outer s H args us vs Q E (hr.mono h)⟩
/-- a weaker promise -/
theorem FnOk.imp {P : Program} {w : World} {K : PySem.W.Frag} {mg : Str → Option Value} {base : Heap} {CX : CXT} {k : Nat} {f : Addr} {fd : FuncData} {ps : List Str} {sp sp' : Sp} (F : FnOk P w K mg base CX k f fd ps sp)
    (h : ∀ vs H Q E, sp' vs H Q E → sp vs H Q E) : FnOk P w K mg base CX k f fd ps sp' :=
  ⟨fun vs H Q E q => F.len vs H Q E (h _ _ _ _ q), fun A outer s H args us vs Q E hr he hb hv hs => F.run A outer s H args us vs Q E hr he hb hv (h _ _ _ _ hs)⟩

theorem Env0.make {P : Program} {w : World} {K : PySem.W.Frag} {mg : Str → Option Value} {base : Heap} {A : Around} {outer : List Env} {s : Shared} {H : Hp} (e : Env0 P w K mg base A outer s H) (C : Addr) (us : List Value) (kw : List (Str × Value)) :
    Env0 P w K mg base (A.under (.builtin "type.__call__" ⟨.ref C :: us, kw⟩)) outer s H := ⟨by first | exact e.frames | (simpa [Around.under, Code.envs, Code.isFrame, pushEnvs] using e.frames), e.mod, e.bs, e.bsz, e.funs, e.frf, e.hok, e.bare, e.qt⟩
theorem Env0.in1 {P : Program} {w : World} {K : PySem.W.Frag} {mg : Str → Option Value} {base : Heap} {A : Around} {outer : List Env} {s : Shared} {H : Hp} (e : Env0 P w K mg base A outer s H) :
    Env0 P w K mg base A.in1 outer s H := ⟨e.frames, e.mod, e.bs, e.bsz, e.funs, e.frf, e.hok, e.bare, e.qt⟩

section
variable {X : Cx} {pins : List (Addr × Obj)} {σ : St} {H : Hp} {s s' : Shared}
/-- from a body: what a callee wants -/
theorem Inv.env0 (I : Inv X pins σ H s) : Env0 X.prog X.w X.K X.mg X.base X.A X.stack s H :=
  ⟨I.ok.frames, I.ok.mod, I.bs, Nat.le_trans I.ok.bsz I.sz, I.stack, I.stkFree, I.hok, I.bare, I.qt⟩
/-- behind a call -/
theorem Inv.after {Q : VK} {u : Value} (I : Inv X pins σ H s) (h : CE X.stack X.prog X.w H s Q u s') : EP X pins σ Q u s' := by
  obtain ⟨v, H', os, bare, un, hok, r, q⟩ := h
  obtain ⟨hh, g, d, t, os'⟩ := s'
  obtain rfl : os' = s.os := os
  exact ⟨v, H', I.call (h' := hh) (g' := g) (d' := d) (t' := t) (ch := []) un hok bare (fun b z => absurd z (by simp)), r, q⟩
end

/-! ### calls -/
/-- f(..): the written arguments, then the defaults dvs; E: what is wanted of an exception -/
def tCall (sp : Sp) (dvs : List V) (E : XK) (t : TA) : TE := fun σ H Q => t σ H fun vs H1 => sp (vs ++ dvs) H1 Q E
/-- o.m(..) of an instance of the class at C -/
def tMeth (C : Addr) (m : Str) (sp : Sp) (dvs : List V) (E : XK) (ta : TE) (t : TA) : TE := fun σ H Q => ta σ H fun x H1 => ∃ a dx fs, x = .ref a ∧ H1 a = some (.ins C dx fs) ∧ fs.lookup m = none ∧
  t σ H1 fun vs H2 => sp (x :: (vs ++ dvs)) H2 Q E
/-- C(..): a new instance and its dict, then __init__ -/
def tMake (C : Addr) (sp : Sp) (dvs : List V) (E : XK) (t : TA) : TE := fun σ H Q => t σ H fun vs H1 => ∀ x dx, H1 x = none → H1 dx = none → dx ≠ x →
  sp (.ref x :: (vs ++ dvs)) (upd (upd H1 dx (.own x)) x (.ins C dx [])) (fun v H2 => v = .non ∧ Q (.ref x) H2) E

/-- how the parameters are bound: us the positional arguments, kw the keywords' values by name, ds the defaults that fill up -/
def Binds (K : PySem.W.Frag) (fd : FuncData) (ps : List Str) (ds : List Value) : Prop :=
  ∀ (s : Shared) (us : List Value), K.In s.heap → (us ++ ds).length = ps.length → BindsTo s fd ⟨us, []⟩ (ps.zip (us ++ ds))
/-- every parameter is given -/
theorem Binds.all {K : PySem.W.Frag} {fd : FuncData} {ps : List Str} (h : ∀ us : List Value, us.length = ps.length → bindArgs fd ⟨us, []⟩ = pure (ps.zip us)) : Binds K fd ps [] := fun s us _ hl => by
  rw [List.append_nil] at hl ⊢
  exact .of_eq (h us hl)

/-- an exception of a callee reaches what this body wants of exceptions -/
def Passes (CX : CXT) (X : Cx) (E : XK) : Prop := ∀ (pins : List (Addr × Obj)) (σ : St) (H : Hp) (s : Shared) (e : Value) (s' : Shared), Inv X pins σ H s → CX X.stack H s E e s' → X.xe e s'

section
variable {X : Cx} {CX : CXT} {k : Nat} {f C : Addr} {fd : FuncData} {ps : List Str} {sp : Sp} {dvs : List V} {ds : List Value} {E : XK} {x m : Str} {p pos apos : Pos} {e o : Expr} {es : List Expr} {ta : TE} {t : TA}

/-- the callee runs -/
theorem run_fn {pins : List (Addr × Obj)} {σ : St} {H : Hp} {s : Shared} {Q : VK} {us : List Value} {vs : List V} (F : FnOk X.prog X.w X.K X.mg X.base CX k f fd ps sp) (hr : Room k X.A) (hb : Binds X.K fd ps ds) (hd : Vals dvs ds) (hx : Passes CX X E)
    (I : Inv X pins σ H s) (r : Vals vs us) (h : sp (vs ++ dvs) H Q E) : wpAny (model X.prog X.w) X.A (call (.ref f) us) (EP X pins σ Q) X.xe s := by
  have r2 : Vals (vs ++ dvs) (us ++ ds) := r.append hd
  have hl : (us ++ ds).length = ps.length := by rw [← r2.length]; exact F.len _ _ _ _ h
  refine wpAny_call (codeAny_mono (F.run X.A X.stack s H ⟨us, []⟩ (us ++ ds) (vs ++ dvs) Q E hr I.env0 (hb s us I.kIn hl) r2 h) fun r s' hq => ?_)
  cases r with
  | error e => exact hx pins σ H s e s' I hq
  | ok fl =>
    cases fl with
    | ret u => exact I.after hq
    | next => exact False.elim hq
    | brk => exact False.elim hq
    | cont => exact False.elim hq

theorem pe_call (F : FnOk X.prog X.w X.K X.mg X.base CX k f fd ps sp) (hr : Room k X.A) (hg : Gl X x) (hm : X.mg x = some (.ref f)) (hk : PySem.W.keepIn X.K (.ref f) = true) (hb : Binds X.K fd ps ds) (hd : Vals dvs ds) (hx : Passes CX X E)
    (ha : PA X (e :: es) t) (hdb : (x == ("__debug__" : Str)) = false := by decide) (he : starEach (e :: es) X.env = (false, eval e X.env) :: starEach es X.env := by rfl) (hpl : (backTo pos (starEach es X.env)).any (·.1) = false := by rfl) :
    PE X (.Call (.Name x p) (e :: es) [] pos) (tCall sp dvs E t) := by
  intro pins s σ H Q I h
  refine wpAny_Call_Name_kw (ld_glob I hg hm ?_ hdb)
  refine PySem.W.callWith_K (h₀ := X.base) I.ok.mod.kin hk (thn (ha pos pins s σ H _ I h) fun us s1 ⟨vs, H1, I1, r, q⟩ => ⟨I1.kIn, ?_⟩) he hpl
  exact run_fn F hr hb hd hx I1 r q
/-- o.m(e, ..) -/
theorem pe_meth {pl : Sem Bool} (he : PE X o ta) (c : Cls X.K C) (hm : Meth X.K C m f) (F : FnOk X.prog X.w X.K X.mg X.base CX k f fd ps sp) (hr : Room k X.A) (hb : Binds X.K fd ps ds) (hd : Vals dvs ds) (hx : Passes CX X E) (ha : PA X (e :: es) t)
    (hst : starEach (e :: es) X.env = (false, eval e X.env) :: starEach es X.env := by rfl) (hpl : (backTo pos (starEach es X.env)).any (·.1) = false := by rfl)
    (ht : eval (.Call (.Attribute o m apos) (e :: es) [] pos) X.env = (do
      let ov ← eval o X.env
      standAt apos.atName
      let (f, first) ← holding [ov] (getMethod ov m pl)
      callWith pos f first (backTo pos (starEach (e :: es) X.env)) (backToKw pos (keywordEach [] X.env))) := by rfl) :
    PE X (.Call (.Attribute o m apos) (e :: es) [] pos) (tMeth C m sp dvs E ta t) := by
  intro pins s σ H Q I h
  refine PySem.W.methodCall_KW (pl := pl) (thn (he pins s σ H _ I h) fun u s1 ⟨x, H1, I1, rx, a, dx, fs, ex, ea, l, q⟩ => ?_) ht
  subst ex
  obtain rfl : u = Value.ref a := rx
  refine getmeth_ok I1 ea c hm l ?_
  refine PySem.W.callWith_K (first := [.ref a]) (h₀ := X.base) I.ok.mod.kin hm.kp (thn (ha pos pins s1 σ H1 _ I1 q) fun us s2 ⟨vs, H2, I2, r, q2⟩ => ⟨I2.kIn, ?_⟩) hst hpl
  exact run_fn (us := .ref a :: us) (vs := .ref a :: vs) F hr hb hd hx I2 (.cons rfl r) q2
/-- o.m() -/
theorem pe_meth0 {pl : Sem Bool} (he : PE X o ta) (c : Cls X.K C) (hm : Meth X.K C m f) (F : FnOk X.prog X.w X.K X.mg X.base CX k f fd ps sp) (hr : Room k X.A) (hb : Binds X.K fd ps ds) (hd : Vals dvs ds) (hx : Passes CX X E)
    (ht : eval (.Call (.Attribute o m apos) [] [] pos) X.env = (do
      let ov ← eval o X.env
      standAt apos.atName
      let (f, first) ← holding [ov] (getMethod ov m pl)
      callWith pos f first (backTo pos (starEach [] X.env)) (backToKw pos (keywordEach [] X.env))) := by rfl) :
    PE X (.Call (.Attribute o m apos) [] [] pos) (tMeth C m sp dvs E ta tNil) := by
  intro pins s σ H Q I h
  refine PySem.W.methodCall_KW (pl := pl) (thn (he pins s σ H _ I h) fun u s1 ⟨x, H1, I1, rx, a, dx, fs, ex, ea, l, q⟩ => ?_) ht
  subst ex
  obtain rfl : u = Value.ref a := rx
  refine getmeth_ok I1 ea c hm l ?_
  exact PySem.W.callWith_K0 (first := [.ref a]) I1.kIn hm.kp (run_fn (us := [.ref a]) (vs := [.ref a]) F hr hb hd hx I1 (.cons rfl .nil) q)

/-- what a class must have to be made -/
structure Mk (K : PySem.W.Frag) (C f : Addr) : Prop where
  makes : PySem.W.makesIn K C = true
  init : PySem.W.findIn K (.ref C) "__init__" = some (some (.ref f))
  fn : PySem.W.isFn K (.ref f) = true
  kp : PySem.W.keepIn K (.ref C) = true

theorem run_make {pins : List (Addr × Obj)} {σ : St} {H : Hp} {s : Shared} {Q : VK} {us : List Value} {vs : List V} (M : Mk X.K C f) (F : FnOk X.prog X.w X.K X.mg X.base CX k f fd ps sp) (hr : Room (k + 1) X.A) (hb : Binds X.K fd ps ds) (hd : Vals dvs ds)
    (hx : Passes CX X E) (I : Inv X pins σ H s) (r : Vals vs us)
    (h : ∀ x dx, H x = none → H dx = none → dx ≠ x → sp (.ref x :: (vs ++ dvs)) (upd (upd H dx (.own x)) x (.ins C dx [])) (fun v H2 => v = .non ∧ Q (.ref x) H2) E) :
    wpAny (model X.prog X.w) X.A (call (.ref C) us) (EP X pins σ Q) X.xe s := by
  have hq := h (s.heap.objs.size + 1) s.heap.objs.size (I.hok.fresh (Nat.le_succ _)) (I.hok.fresh (Nat.le_refl _)) (Nat.ne_of_lt (Nat.lt_succ_self _))
  have I2 := Inv.made (C := C) I
  have r2 : Vals (V.ref (s.heap.objs.size + 1) :: (vs ++ dvs)) (Value.ref (s.heap.objs.size + 1) :: (us ++ ds)) := .cons rfl (r.append hd)
  have hl : (Value.ref (s.heap.objs.size + 1) :: us ++ ds).length = ps.length := by
    have e := r2.length
    rw [F.len _ _ _ _ hq] at e
    exact e.symm
  refine wpAny_call (make_map (f := f) I.kIn M.makes M.init (beq_iff_eq.mp M.fn) (codeAny_mono (F.run _ X.stack _ _ ⟨Value.ref (s.heap.objs.size + 1) :: us, []⟩ (Value.ref (s.heap.objs.size + 1) :: (us ++ ds)) _ _ E (hr.make C us [])
    (I2.env0.make C us []) (hb _ (Value.ref (s.heap.objs.size + 1) :: us) I2.kIn hl) r2 hq) fun r s' hq' => ?_))
  cases r with
  | error e => exact hx pins σ _ _ e s' I2 hq'
  | ok fl =>
    cases fl with
    | ret u =>
      obtain ⟨v, H', I3, rv, ev, q3⟩ := I2.after hq'
      subst ev
      exact ⟨rv, ⟨V.ref (s.heap.objs.size + 1), H', I3, rfl, q3⟩⟩
    | next => exact False.elim hq'
    | brk => exact False.elim hq'
    | cont => exact False.elim hq'
theorem pe_make (M : Mk X.K C f) (F : FnOk X.prog X.w X.K X.mg X.base CX k f fd ps sp) (hr : Room (k + 1) X.A) (hg : Gl X x) (hm : X.mg x = some (.ref C)) (hb : Binds X.K fd ps ds) (hd : Vals dvs ds) (hx : Passes CX X E)
    (ha : PA X (e :: es) t) (hdb : (x == ("__debug__" : Str)) = false := by decide) (he : starEach (e :: es) X.env = (false, eval e X.env) :: starEach es X.env := by rfl) (hpl : (backTo pos (starEach es X.env)).any (·.1) = false := by rfl) :
    PE X (.Call (.Name x p) (e :: es) [] pos) (tMake C sp dvs E t) := by
  intro pins s σ H Q I h
  refine wpAny_Call_Name_kw (ld_glob I hg hm ?_ hdb)
  refine PySem.W.callWith_K (h₀ := X.base) I.ok.mod.kin M.kp (thn (ha pos pins s σ H _ I h) fun us s1 ⟨vs, H1, I1, r, q⟩ => ⟨I1.kIn, ?_⟩) he hpl
  exact run_make M F hr hb hd hx I1 r q
theorem pe_make0 (M : Mk X.K C f) (F : FnOk X.prog X.w X.K X.mg X.base CX k f fd ps sp) (hr : Room (k + 1) X.A) (hg : Gl X x) (hm : X.mg x = some (.ref C)) (hb : Binds X.K fd ps ds) (hd : Vals dvs ds) (hx : Passes CX X E)
    (hdb : (x == ("__debug__" : Str)) = false := by decide) : PE X (.Call (.Name x p) [] [] pos) (tMake C sp dvs E tNil) := by
  intro pins s σ H Q I h
  refine wpAny_Call_Name_kw (ld_glob I hg hm ?_ hdb)
  exact PySem.W.callWith_K0 I.kIn M.kp (run_make (us := []) M F hr hb hd hx I .nil h)
end

/-! ### keywords -/
section
variable {X : Cx} {CX : CXT} {k : Nat} {f C : Addr} {fd : FuncData} {ps ks : List Str} {sp : Sp} {E : XK} {x m : Str} {p pos apos kpos : Pos} {e o : Expr} {es : List Expr} {kws : List Keyword} {te ta : TE} {t tk : TA} {nm : Option Str}
/-- how a call with keywords binds: g puts the positional values us and the keywords' values ws (names ks) in the parameters' order, defaults among them -/
structure KBinds (K : PySem.W.Frag) (fd : FuncData) (ps ks : List Str) (g : List Value → List Value → List Value) (gV : List V → List V → List V) : Prop where
  to : ∀ (s : Shared) (us ws : List Value), K.In s.heap → (g us ws).length = ps.length → BindsTo s fd ⟨us, ks.zip ws⟩ (ps.zip (g us ws))
  rel : ∀ {vs : List V} {us : List Value} {zs : List V} {ws : List Value}, Vals vs us → Vals zs ws → Vals (gV vs zs) (g us ws)
variable {g : List Value → List Value → List Value} {gV : List V → List V → List V}
end

/-! ### a def's body keeps its promise -/
/-- names: the parameters first -/
structure FnScope (N P : List Str) (sc : Scope) : Prop where
  kind : sc.kind = .function
  co : sc.isCoroutine = false
  gen : sc.isGenerator = false
  nd : N.Nodup
  pre : N.take P.length = P
  par : ∀ x ∈ P, sc.names.lookup x = some .local ∨ sc.names.lookup x = some .cell
  nofree : ∀ y ∈ sc.names, y.2 ≠ .free

theorem bindL_out {kindOf : Str → Option NameKind} {x : Str} : ∀ {binds : List (Str × Value)} {m : Str → Option Value}, (∀ v, (x, v) ∉ binds) → bindL kindOf binds m x = m x
  | [], _, _ => rfl
  | (n, v) :: r, m, h => by
    unfold bindL
    rw [bindL_out fun w hw => h w (List.mem_cons_of_mem _ hw)]
    split
    · have : x ≠ n := by rintro rfl; exact h v List.mem_cons_self
      simp [this]
    · rfl
theorem bindC_out {kindOf : Str → Option NameKind} {x : Str} : ∀ {binds : List (Str × Value)} {m : Str → Option Value}, (∀ v, (x, v) ∉ binds) → bindC kindOf binds m x = m x
  | [], _, _ => rfl
  | (n, v) :: r, m, h => by
    unfold bindC
    rw [bindC_out fun w hw => h w (List.mem_cons_of_mem _ hw)]
    split
    · rfl
    · have : x ≠ n := by rintro rfl; exact h v List.mem_cons_self
      simp [this]
theorem bindL_get {kindOf : Str → Option NameKind} {x : Str} {v : Value} : ∀ {P : List Str} {vs : List Value} {i : Nat} {m : Str → Option Value}, P.Nodup → P[i]? = some x → vs[i]? = some v → kindOf x = some .local →
    bindL kindOf (P.zip vs) m x = some v
  | [], _, _, _, _, h, _, _ => by simp at h
  | _ :: _, [], _, _, _, _, h, _ => by simp at h
  | p :: P, w :: vs, 0, m, nd, h1, h2, hk => by
    simp at h1 h2; subst h1; subst h2
    show bindL kindOf ((p, w) :: P.zip vs) m p = _
    unfold bindL
    rw [bindL_out fun v hv => (List.nodup_cons.mp nd).1 (List.of_mem_zip hv).1, if_pos hk]
    simp
  | p :: P, w :: vs, i + 1, m, nd, h1, h2, hk => by
    show bindL kindOf ((p, w) :: P.zip vs) m x = _
    unfold bindL
    exact bindL_get (i := i) (List.nodup_cons.mp nd).2 (by simpa using h1) (by simpa using h2) hk
theorem bindC_get {kindOf : Str → Option NameKind} {x : Str} {v : Value} : ∀ {P : List Str} {vs : List Value} {i : Nat} {m : Str → Option Value}, P.Nodup → P[i]? = some x → vs[i]? = some v → kindOf x ≠ some .local →
    bindC kindOf (P.zip vs) m x = some v
  | [], _, _, _, _, h, _, _ => by simp at h
  | _ :: _, [], _, _, _, _, h, _ => by simp at h
  | p :: P, w :: vs, 0, m, nd, h1, h2, hk => by
    simp at h1 h2; subst h1; subst h2
    show bindC kindOf ((p, w) :: P.zip vs) m p = _
    unfold bindC
    rw [bindC_out fun v hv => (List.nodup_cons.mp nd).1 (List.of_mem_zip hv).1, if_neg hk]
    simp
  | p :: P, w :: vs, i + 1, m, nd, h1, h2, hk => by
    show bindC kindOf ((p, w) :: P.zip vs) m x = _
    unfold bindC
    exact bindC_get (i := i) (List.nodup_cons.mp nd).2 (by simpa using h1) (by simpa using h2) hk

/-- the names' values at the entry -/
def start (N : List Str) (vs : List V) : St := vs.map some ++ List.replicate (N.length - vs.length) none

/-- the context of a def's body, at its entry; an exception leaves the frame, then lies as CX says -/
def cxOf (CX : CXT) (P : Program) (w : World) (K : PySem.W.Frag) (mg : Str → Option Value) (base : Heap) (N : List Str) (qual : Str) (scope : Scope) (f : Addr) (cd : Value) (A : Around) (outer : List Env) (s : Shared) (H : Hp) (E : XK) : Cx where
  prog := P
  w := w
  K := K
  mg := mg
  base := base
  A := A.deeper (envOfC qual scope s.heap.objs.size f cd)
  N := N
  s₀ := s
  H₀ := H
  env := envOfC qual scope s.heap.objs.size f cd
  outer := outer
  stack := envOfC qual scope s.heap.objs.size f cd :: outer
  ex := []
  calm := true
  fn := fun _ => true
  pn := []
  xe := fun e s' => wpAny (model P w) (A.deeper (envOfC qual scope s.heap.objs.size f cd)) (leaving (envOfC qual scope s.heap.objs.size f cd) e) (fun _ s'' => CX outer H s E e s'') (fun e' s'' => CX outer H s E e' s'') s'

theorem cell_has {sc : Scope} {n : Nat} {x : Str} (h : sc.names.lookup x = some .cell) : ∃ c, (cellsFrom n sc.names []).lookup x = some c := by
  have q := PySem.W.cellsFrom_some sc.names n [] (.inl h)
  exact Option.isSome_iff_exists.mp q

theorem inv_start {CX : CXT} {P : Program} {w : World} {K : PySem.W.Frag} {mg : Str → Option Value} {base : Heap} {N ps : List Str} {qual : Str} {scope : Scope} {f : Addr} {cd : Value} {A : Around} {outer : List Env} {s s1 : Shared} {H : Hp} {E : XK} {us : List Value} {vs : List V}
    (S : FnScope N ps scope) (e0 : Env0 P w K mg base A outer s H) (hl : vs.length = ps.length) (r : Vals vs us)
    (x : InCallC s s.heap.objs.size (bindL (envOfC qual scope s.heap.objs.size f cd).kindOf (ps.zip us) fun _ => none) (cellsFrom (s.heap.objs.size + 1) scope.names []) (bindC (envOfC qual scope s.heap.objs.size f cd).kindOf (ps.zip us) fun _ => none) s1) :
    Inv (cxOf CX P w K mg base N qual scope f cd A outer s H E) [] (start N vs) H s1 := by
  have hpl : ps.length ≤ N.length := by have := congrArg List.length S.pre; rw [List.length_take] at this; omega
  obtain ⟨h1, tk, rfl, hk⟩ := x.done
  have noA : ∀ b : Addr, b ∉ (cxOf CX P w K mg base N qual scope f cd A outer s H E).ex := fun b z => absurd (show b ∈ ([] : List Addr) from z) (by simp)
  refine ⟨⟨e0.mod, S.kind, rfl, rfl, Nat.le_refl _, fun y z c h1 h2 => ?_, fun y hy => ?_, fun y c _ h => ?_, e0.qt, Around.frames_deeper e0.frames, .inr ⟨rfl, rfl⟩, fun b z => absurd z (noA b), e0.bs, e0.bsz, fun b _ _ => noA b, fun b z => absurd z (noA b), e0.funs, e0.frf⟩,
    rfl, e0.bare, Un.kept hk, ⟨_, x.toInCall.ns, fun i y v h1 h2 h3 => ?_⟩, fun y c h => ⟨_, x.cell y c h⟩, e0.hok.fresh (Nat.le_refl _), fun y c h => ?_, fun p hp => absurd (show p ∈ ([] : List (Addr × Obj)) from hp) (by simp), e0.hok.kept hk, ?_⟩
  · exact name_of_addr x.apart (PySem.mem_of_lookup h1) (PySem.mem_of_lookup h2)
  · have hy : scope.names.lookup y = some .cell ∨ scope.names.lookup y = some .free := hy
    rcases hy with hy | hy
    · exact cell_has hy
    · exact absurd rfl (S.nofree _ (PySem.mem_of_lookup hy))
  · exact Nat.le_of_lt (x.above y c (PySem.mem_of_lookup h))
  · have hi : i < vs.length := by
      unfold start at h2
      by_cases hi : i < vs.length
      · exact hi
      · rw [List.getElem?_append_right (by simpa using hi)] at h2
        rw [List.getElem?_replicate] at h2
        split at h2 <;> cases h2
    have ha : vs[i]? = some v := by
      unfold start at h2
      rw [List.getElem?_append_left (by simpa using hi), List.getElem?_map] at h2
      cases e : vs[i]? with
      | none => rw [e] at h2; cases h2
      | some a => rw [e] at h2; cases h2; rfl
    obtain ⟨u, hu, rv⟩ := r.get ha
    have hp : ps[i]? = some y := by
      rw [← S.pre, List.getElem?_take_of_lt (by omega)]; exact h1
    have ndP : ps.Nodup := by rw [← S.pre]; exact S.nd.sublist (List.take_sublist _ _)
    refine ⟨u, rv, ?_⟩
    rcases S.par y (List.mem_of_getElem? hp) with k | k
    · exact .inl ⟨k, bindL_get ndP hp hu k⟩
    · obtain ⟨c, e⟩ := cell_has (n := s.heap.objs.size + 1) k
      refine .inr ⟨.inl k, c, e, ?_⟩
      have q := x.cell y c e
      rw [bindC_get ndP hp hu (by show scope.names.lookup y ≠ _; rw [k]; decide)] at q
      exact q
  · exact e0.hok.fresh (Nat.le_of_lt (x.above y c (PySem.mem_of_lookup h)))
  · unfold start
    show _ = N.length
    rw [List.length_append, List.length_map, List.length_replicate]
    omega

/-- THE RULE: a def (or a method) of the text, by its body. The body's reading t is chosen for each entry; it is run at the parameters' values -/
theorem fn_of {CX : CXT} {P : Program} {w : World} {K : PySem.W.Frag} {mg : Str → Option Value} {base : Heap} {k : Nat} {f : Addr} {name qual : Str} {params : Arguments} {body : List Stmt} {scope : Scope} {dV kV doc pm cdv ct oc : Value} {an od : Option Addr}
    {osl : Array (Option Value)} {N ps : List Str} {sp : Sp} (lk : K.lookup f = some ⟨oc, od, .func (PySem.W.fnOf name qual params body scope dV kV doc pm an cdv ct), osl⟩) (hcd : PySem.W.codeIn K cdv qual = true) (S : FnScope N ps scope)
    (len : ∀ vs H Q E, sp vs H Q E → vs.length = ps.length)
    (hbody : ∀ (A : Around) (outer : List Env) (s : Shared) (H : Hp) (vs : List V) (Q : VK) (E : XK), Room k (A.deeper (envOfC qual scope s.heap.objs.size f cdv)) → sp vs H Q E →
      ∃ t, PSs (cxOf CX P w K mg base N qual scope f cdv A outer s H E) body t ∧ t { nx := fun _ H' => Q .non H', rt := Q } (start N vs) H) :
    FnOk P w K mg base CX (k + 1) f (PySem.W.fnOf name qual params body scope dV kV doc pm an cdv ct) ps sp := by
  refine ⟨len, fun A outer s H args us vs Q E hr e0 hb r hsp => ?_⟩
  have hl := len _ _ _ _ hsp
  have KX : K.In s.heap := e0.mod.kin.keeps fun b o e => (e0.bs b o e).1
  have lim : s.heap.NoLimit := e0.mod.nolimit.keeps fun b o e => (e0.bs b o e).1
  have hkind : ∀ y ∈ ps.zip us, scope.names.lookup y.1 = some .local ∨ (scope.names.lookup y.1 = some .cell ∧ ((cellsFrom (s.heap.objs.size + 1) scope.names []).lookup y.1).isSome = true) := fun ⟨n, v⟩ hy => by
    rcases S.par n (List.of_mem_zip hy).1 with q | q
    · exact .inl q
    · exact .inr ⟨q, PySem.W.cellsFrom_some _ _ _ (.inl q)⟩
  refine codeAny_call_function hr.depth (KX _ _ lk) rfl S.co S.gen rfl (PySem.W.codeRec_of KX hcd) (hb _ _ _ _ ?_)
  refine wpAny_newFunctionEnv_cells S.kind hkind fun env he s1 x => ?_
  subst he
  refine ⟨lim.keeps x.toInCall.keep, codeAny_func ?_⟩
  obtain ⟨t, ht, hq⟩ := hbody A outer s H vs Q E (hr.deeper _) hsp
  have I : Inv (cxOf CX P w K mg base N qual scope f cdv A outer s H E) [] (start N vs) H s1 := inv_start S e0 hl r x
  refine wpAny_mono (ht [] s1 (start N vs) H _ I hq) (fun fl s' hs => ?_) fun e s' hs => hs
  have fin : ∀ {σ' : St} {H' : Hp} {v : V} {u : Value}, Inv (cxOf CX P w K mg base N qual scope f cdv A outer s H E) [] σ' H' s' → RelV v u → Q v H' → CE outer P w H s Q u s' :=
    fun {σ' H' v u} J rv q => ⟨v, H', J.os, J.bare, J.base, J.hok, rv, q⟩
  cases fl with
  | ret u =>
    obtain ⟨v, σ', H', J, rv, q⟩ := hs
    exact fin J rv q
  | next =>
    obtain ⟨σ', H', J, q⟩ := hs
    exact fin (v := V.non) (u := Value.none) J rfl q
  | brk =>
    obtain ⟨_, _, _, q⟩ := hs
    exact False.elim q
  | cont =>
    obtain ⟨_, _, _, q⟩ := hs
    exact False.elim q
end L2

namespace L2
open PySem PySem.Spec PyProof.Rows
section
variable {X : Cx} {x : Str} {p pos : Pos} {e : Expr} {es : List Expr} {t : TA} {id T : String} {r : List V → Hp → VK → Prop}

def tCB (r : List V → Hp → VK → Prop) (t : TA) : TE := fun σ H Q => t σ H fun vs H1 => r vs H1 Q
/-- f(e, ..), f a built-in function -/
theorem pe_callB (hc : CallR X (.builtin id) r) (hg : Gl X x) (hm : X.mg x = none) (hv : bootBuiltins x = some (.builtin id)) (ha : PA X (e :: es) t) (hn : x ≠ "__name__" := by decide) (hdb : (x == ("__debug__" : Str)) = false := by decide)
    (he : starEach (e :: es) X.env = (false, eval e X.env) :: starEach es X.env := by rfl) (hpl : (backTo pos (starEach es X.env)).any (·.1) = false := by rfl) : PE X (.Call (.Name x p) (e :: es) [] pos) (tCB r t) := by
  intro pins s σ H Q I h
  refine wpAny_Call_Name_kw (ld_blt I hg hm hv ?_ hn hdb)
  exact PyProof.Rows.callWith_builtin1 (thn (ha pos pins s σ H _ I h) fun us s1 ⟨vs, H1, I1, r1, q1⟩ => hc pins s1 σ H1 vs us Q I1 r1 q1) he hpl
/-- T(e, ..), T a built-in type -/
theorem pe_callTy (hc : CallR X (.type T) r) (hg : Gl X x) (hm : X.mg x = none) (hv : bootBuiltins x = some (.type T)) (ha : PA X (e :: es) t) (hn : x ≠ "__name__" := by decide) (hdb : (x == ("__debug__" : Str)) = false := by decide)
    (he : starEach (e :: es) X.env = (false, eval e X.env) :: starEach es X.env := by rfl) (hpl : (backTo pos (starEach es X.env)).any (·.1) = false := by rfl) : PE X (.Call (.Name x p) (e :: es) [] pos) (tCB r t) := by
  intro pins s σ H Q I h
  refine wpAny_Call_Name_kw (ld_blt I hg hm hv ?_ hn hdb)
  exact PyProof.Rows.callWith_type1 (thn (ha pos pins s σ H _ I h) fun us s1 ⟨vs, H1, I1, r1, q1⟩ => hc pins s1 σ H1 vs us Q I1 r1 q1) he hpl
end
end L2

namespace HT
open PySem PyProof.Rows

section
open PySem.SeqAt
open PySem.AutoSeq1 (wpAny_loadPart')
open PySem.MeetsSeq PySem.MeetsSeq2 PySem.MeetsSeq3

end

section
variable {prog : Program} {w : World} {A : Around} {E : Value → Shared → Prop} {s : Shared}

/-! ### t[a:b], not the whole -/
/-- a slice's bound as a place among n (d where it is left out) -/
def sIx (n d : Nat) : Option Int → Nat
  | none => d
  | some v => if v < 0 then (v + (n : Int)).toNat else min v.toNat n
theorem sIx_none (n d : Nat) : sIx n d none = d := rfl
theorem sIx_nat (n d k : Nat) : sIx n d (some (k : Int)) = min k n := by
  show (if (k : Int) < 0 then ((k : Int) + (n : Int)).toNat else min (k : Int).toNat n) = min k n
  rw [if_neg (by omega), Int.toNat_natCast]
end
end HT

namespace L2
open PySem PySem.Spec PyProof.Rows

/-! ### the parts of a slice -/
abbrev TO := St → Hp → (Option Int → Hp → Prop) → Prop
/-- a slice's part (left out, or an int) -/
def PO (X : Cx) (e : Option Expr) (t : TO) : Prop :=
  ∀ (pins : List (Addr × Obj)) (s : Shared) (σ : St) (H : Hp) (Q : Option Int → Hp → Prop), Inv X pins σ H s → t σ H Q →
    wpAny (model X.prog X.w) X.A (evalPart e X.env) (fun u s' => ∃ o H', Inv X pins σ H' s' ∧ IsPart u o ∧ Q o H') X.xe s
def tNoPart : TO := fun _ H Q => Q none H
def tPart (t : TE) : TO := fun σ H Q => t σ H fun x H1 => ∃ i, x = .int i ∧ Q (some i) H1

theorem intsAre_of {ns : List Int} : ∀ {us : List Value}, Vals (ns.map V.int) us → IntsAre us ns := by
  induction ns with
  | nil => intro us r; rw [List.map_nil] at r; cases r; exact .nil
  | cons n ns ih =>
    intro us r
    rw [List.map_cons] at r
    cases r with
    | cons r1 r2 =>
      obtain ⟨t, e⟩ := r1
      subst e
      exact .cons n t (ih r2)

section
variable {X : Cx} {e : Expr} {te : TE} {lo hi : Option Expr} {tl th : TO} {pos p2 : Pos}

theorem po_none : PO X none tNoPart := by
  intro pins s σ H Q I h
  rw [evalPart_none]
  exact wpAny_pure ⟨none, H, I, .none, h⟩
theorem po_some (h : PE X e te) : PO X (some e) (tPart te) := by
  intro pins s σ H Q I hw
  rw [evalPart_some]
  refine thn (h pins s σ H _ I hw) fun u s1 ⟨x, H1, I1, r1, q1⟩ => ?_
  obtain ⟨i, rfl, q⟩ := q1
  obtain ⟨t, rfl⟩ := r1
  exact ⟨some i, H1, I1, .int i t, q⟩

/-- what a slice of a value is, by values: the slice object stands at sl -/
def SlR (X : Cx) (r : V → Option Int → Option Int → Hp → VK → Prop) : Prop :=
  ∀ (pins : List (Addr × Obj)) (s : Shared) (σ : St) (H : Hp) (x : V) (v vl vu : Value) (lo hi : Option Int) (sl : Addr) (Q : VK), Inv X pins σ H s → RelV x v → s.heap.IsSliceOf sl vl vu .none → IsPart vl lo → IsPart vu hi → r x lo hi H Q →
    ∃ T id, typeLookup (.type T) "__getitem__" = pure (some (.builtin id)) ∧ s.TypeIs v T ∧ wpAny (model X.prog X.w) X.A (getItem v (.ref sl)) (EP X pins σ Q) X.xe s
theorem SlR.or {r r' : V → Option Int → Option Int → Hp → VK → Prop} (h : SlR X r) (h' : SlR X r') : SlR X (fun x lo hi H Q => r x lo hi H Q ∨ r' x lo hi H Q) := by
  intro pins s σ H x v vl vu lo hi sl Q I rx hs pl pu q
  rcases q with q | q
  · exact h pins s σ H x v vl vu lo hi sl Q I rx hs pl pu q
  · exact h' pins s σ H x v vl vu lo hi sl Q I rx hs pl pu q
def tSl (r : V → Option Int → Option Int → Hp → VK → Prop) (te : TE) (tl th : TO) : TE := fun σ H Q => te σ H fun x H1 => tl σ H1 fun l H2 => th σ H2 fun u H3 => r x l u H3 Q
/-- a[lo:hi], any a -/
theorem pe_slice {r : V → Option Int → Option Int → Hp → VK → Prop} (hr : SlR X r) (he : PE X e te) (hl : PO X lo tl) (hu : PO X hi th) : PE X (.Subscript e (.Slice lo hi none p2) pos) (tSl r te tl th) := by
  intro pins s σ H Q I h
  refine Subscript_ (thn (he pins s σ H _ I h) fun v s1 ⟨x, H1, I1, r1, q1⟩ => ?_)
  refine wpAny_Slice (thn (hl pins s1 σ H1 _ I1 q1) fun vl s2 ⟨l, H2, I2, pl, q2⟩ => thn (hu pins s2 σ H2 _ I2 q2) fun vu s3 ⟨u, H3, I3, pu, q3⟩ => ?_)
  rw [evalPart_none]
  refine wpAny_pure ?_
  have I4 : Inv X pins σ H3 { s3 with heap := s3.heap.push { cls := .type "slice", data := .fields #[vl, vu, .none] } } := I3.kept (t' := s3.toks) fun b ob q => Heap.get?_push_of_some _ q
  obtain ⟨T, id, hT, ht, hg⟩ := hr pins { s3 with heap := s3.heap.push { cls := .type "slice", data := .fields #[vl, vu, .none] } } σ H3 x v vl vu l u s3.heap.objs.size Q I4 r1 (Heap.IsSliceOf.new ..) pl pu q3
  show wpAny (model X.prog X.w) X.A (subscriptTail e (.Slice lo hi none p2) v (.ref s3.heap.objs.size)) (EP X pins σ Q) X.xe { s3 with heap := s3.heap.push { cls := .type "slice", data := .fields #[vl, vu, .none] } }
  exact tail_any (ops := [.ref s3.heap.objs.size, v]) ht hT hg (by with_unfolding_all rfl)

/-- the items of xs[lo:hi] -/
def cutV (xs : List V) (lo hi : Option Int) : List V := (xs.drop (HT.sIx xs.length 0 lo)).take (HT.sIx xs.length xs.length hi - HT.sIx xs.length 0 lo)
theorem cutV_length (xs : List V) (lo hi : Option Int) : (cutV xs lo hi).length ≤ xs.length := by
  unfold cutV
  rw [List.length_take, List.length_drop]
  omega
/-! ### t < u, t + u -/
end
end L2

namespace L2
open PySem PySem.Spec PyProof.Rows

/-! ### places -/
/-- the place that an index of any sign means -/
def ixN (n : Nat) (i : Int) : Option Nat := if 0 ≤ i then (if i < n then some i.toNat else none) else if -(n : Int) ≤ i then some (i + n).toNat else none
def atI {α : Type} (xs : List α) (i : Int) : Option α := (ixN xs.length i).bind fun j => xs[j]?
theorem ixN_seq {n : Nat} {i : Int} {j : Nat} (h : ixN n i = some j) : seqIndex? i n = some j ∧ j < n ∧ -(n : Int) ≤ i ∧ i < n := by
  unfold ixN at h
  by_cases h0 : 0 ≤ i
  · rw [if_pos h0] at h
    by_cases h1 : i < n
    · rw [if_pos h1] at h
      have e : i.toNat = j := Option.some.inj h
      exact ⟨by rw [seqIndex_of h0 h1, e], by omega, by omega, h1⟩
    · rw [if_neg h1] at h; cases h
  · rw [if_neg h0] at h
    by_cases h1 : -(n : Int) ≤ i
    · rw [if_pos h1] at h
      have e : (i + n).toNat = j := Option.some.inj h
      exact ⟨by rw [seqIndex_neg (by omega) h1, e], by omega, h1, by omega⟩
    · rw [if_neg h1] at h; cases h
theorem atI_get {α : Type} {xs : List α} {i : Int} {v : α} (h : atI xs i = some v) : ∃ j, seqIndex? i xs.length = some j ∧ xs[j]? = some v ∧ j < xs.length ∧ -(xs.length : Int) ≤ i ∧ i < xs.length := by
  unfold atI at h
  cases e : ixN xs.length i with
  | none => rw [e] at h; cases h
  | some j =>
    rw [e] at h
    obtain ⟨h1, h2, h3, h4⟩ := ixN_seq e
    exact ⟨j, h1, h, h2, h3, h4⟩
theorem atI_nat {α : Type} {xs : List α} {j : Nat} {v : α} (h : xs[j]? = some v) : atI xs (j : Int) = some v := by
  have hj : j < xs.length := (List.getElem?_eq_some_iff.mp h).1
  have e : ixN xs.length (j : Int) = some j := by
    unfold ixN
    rw [if_pos (by omega), if_pos (by omega)]; simp
  unfold atI; rw [e]; exact h
/-! ### what may be subscripted -/
/-- what stands as an index of a plain subscript -/
def PlainIx (b : Expr) : Prop := ∀ o i, subscripted b false o i = operate [o, i] (getItem o i)
/-- a subscript by values -/
def IxR (X : Cx) (r : R2) : Prop :=
  ∀ (value slice : Expr) (pins : List (Addr × Obj)) (s : Shared) (σ : St) (H : Hp) (x y : V) (v u : Value) (Q : VK), Inv X pins σ H s → RelV x v → RelV y u → r x y H Q →
    subscripted slice false v u = operate [v, u] (getItem v u) → wpAny (model X.prog X.w) X.A (subscriptTail value slice v u) (EP X pins σ Q) X.xe s
/-- a call of a builtin's method by values: the receiver, the arguments -/
def MtR (X : Cx) (id : String) (r : V → List V → Hp → VK → Prop) : Prop :=
  ∀ (pins : List (Addr × Obj)) (s : Shared) (σ : St) (H : Hp) (x : V) (xs : List V) (v : Value) (us : List Value) (Q : VK), Inv X pins σ H s → RelV x v → Vals xs us → r x xs H Q →
    wpAny (model X.prog X.w) X.A (call (.builtin id) (v :: us)) (EP X pins σ Q) X.xe s
section
variable {X : Cx} {a b : Expr} {ta tb : TE} {pos : Pos}
theorem IxR.or {r r' : R2} (h : IxR X r) (h' : IxR X r') : IxR X (fun x y H Q => r x y H Q ∨ r' x y H Q) := by
  intro value slice pins s σ H x y v u Q I rx ry q hs
  rcases q with q | q
  · exact h value slice pins s σ H x y v u Q I rx ry q hs
  · exact h' value slice pins s σ H x y v u Q I rx ry q hs
theorem MtR.or {id : String} {r r' : V → List V → Hp → VK → Prop} (h : MtR X id r) (h' : MtR X id r') : MtR X id (fun x xs H Q => r x xs H Q ∨ r' x xs H Q) := by
  intro pins s σ H x xs v us Q I rx rs q
  rcases q with q | q
  · exact h pins s σ H x xs v us Q I rx rs q
  · exact h' pins s σ H x xs v us Q I rx rs q
/-- a[b] -/
theorem pe_ix {r : R2} (hr : IxR X r) (ha : PE X a ta) (hb : PE X b tb) (hs : PlainIx b) : PE X (.Subscript a b pos) (tOp r ta tb) := by
  intro pins s σ H Q I h
  exact Subscript_ (binT ha hb I h fun v u s2 x y H2 I2 rx ry q => hr a b pins s2 σ H2 x y v u Q I2 rx ry q (hs _ _))

def rIxL (K : PySem.W.Frag) : R2 := fun x y H Q => ∃ p xs i v, x = .ref p ∧ y = .int i ∧ SqL K H p xs ∧ atI xs i = some v ∧ Q v H
theorem ix_list : IxR X (rIxL X.K) := by
  intro value slice pins s σ H x y v u Q I rx ry h hs
  obtain ⟨p, xs, i, z, rfl, rfl, hq, he, q⟩ := h
  cases rx
  obtain ⟨t, rfl⟩ := ry
  obtain ⟨its, r, pl, hz⟩ := I.list hq
  obtain ⟨j, h1, h2, h3, h4, h5⟩ := atI_get he
  obtain ⟨w, ew, rw'⟩ := r.get h2
  have hl := r.length
  have hn := line63
  have fin : EP X pins σ Q w s := ⟨z, H, I, rw', q⟩
  by_cases h0 : 0 ≤ i
  · have hj : i.toNat = j := by
      rw [seqIndex_of h0 h5] at h1
      exact Option.some.inj h1
    exact item_listR pl.isList h0 (by omega) (by rw [hj]; simpa using ew) fin hs
  · have hj : (i + (its.toArray.size : Int)).toNat = j := by
      rw [seqIndex_neg (by omega) h4] at h1
      rw [List.size_toArray, ← hl]
      exact Option.some.inj h1
    exact subscriptTail_builtinR (x := w) pl.isList.typeIs slot_list_getitem.lookup
      (wpAny_getItem_list_neg (Q := fun r s' => r = w ∧ EP X pins σ Q r s') pl.isList (by omega) (by rw [List.size_toArray] <;> omega) (by omega) (by rw [hj]; simpa using ew) ⟨rfl, fin⟩) hs
/-! ### xs[i] = v, any sign -/
theorem Inv.lst {pins : List (Addr × Obj)} {σ : St} {H : Hp} {s : Shared} {p : Addr} {xs : List V} (I : Inv X pins σ H s) (h : H p = some (.lst xs)) :
    ∃ (its : List Value) (n : Nat), Vals xs its ∧ s.heap.get? p = some { cls := .type "list", data := .seq its.toArray n } ∧ xs.length ≤ sizeLine := by
  obtain ⟨z, its, n, r, e⟩ := I.hok p _ h
  exact ⟨its, n, r, e, z⟩
/-! ### slices -/
theorem slice_bounds (lo hi : Option Int) (n : Nat) : (sliceBounds lo hi none n).1 = ((HT.sIx n 0 lo : Nat) : Int) ∧ (sliceBounds lo hi none n).2.1 = ((HT.sIx n n hi : Nat) : Int) ∧ (sliceBounds lo hi none n).2.2 = 1 := by
  refine ⟨?_, ?_, rfl⟩
  · cases lo with
    | none => simp [sliceBounds, HT.sIx]
    | some i =>
      simp only [sliceBounds, HT.sIx, Option.getD_none, show (1 : Int) > 0 by decide, if_true]
      by_cases h : i < 0
      · simp only [h, if_true] <;> omega
      · simp only [h, if_false] <;> omega
  · cases hi with
    | none => simp [sliceBounds, HT.sIx]
    | some i =>
      simp only [sliceBounds, HT.sIx, Option.getD_none, show (1 : Int) > 0 by decide, if_true]
      by_cases h : i < 0
      · simp only [h, if_true] <;> omega
      · simp only [h, if_false] <;> omega
theorem slicePick_cut (its : List Value) (lo hi : Option Int) : slicePick its.toArray lo hi none = ((its.drop (HT.sIx its.length 0 lo)).take (HT.sIx its.length its.length hi - HT.sIx its.length 0 lo)).toArray := by
  obtain ⟨h1, h2, h3⟩ := slice_bounds lo hi its.toArray.size
  unfold slicePick
  rw [h1, h2, h3]
  simp only [sliceRange_one, pick_run, List.size_toArray] <;> rfl
/-- xs[lo:hi] of a list: a new list -/
def rSlL (K : PySem.W.Frag) : V → Option Int → Option Int → Hp → VK → Prop := fun x lo hi H Q => ∃ a xs, x = .ref a ∧ SqL K H a xs ∧ ∀ p, H p = none → Q (.ref p) (upd H p (.lst (cutV xs lo hi)))
theorem sl_list : SlR X (rSlL X.K) := by
  intro pins s σ H x v vl vu lo hi sl Q I rx hs pl pu h
  obtain ⟨a, xs, rfl, hx, q⟩ := h
  cases rx
  obtain ⟨its, r, ht, hz⟩ := I.list hx
  have hlen := r.length
  refine ⟨"list", _, slot_list_getitem.lookup, ht.isList.typeIs, ?_⟩
  refine wpAny_getItem_list_slice ht.isList hs pl pu .none (by simp) ?_ (by rw [List.size_toArray] <;> omega)
  rw [slicePick_cut, ← hlen]
  refine ⟨.ref s.heap.objs.size, _, I.laid (t' := s.toks) (o := .lst (cutV xs lo hi)) (fun b ob q => Heap.get?_push_of_some _ q) (Nat.le_refl _) ?_, rfl, q _ (I.hok.fresh (Nat.le_refl _))⟩
  exact ⟨Nat.le_trans (cutV_length xs lo hi) hz, _, 0, (r.drop (HT.sIx xs.length 0 lo)).take (HT.sIx xs.length xs.length hi - HT.sIx xs.length 0 lo), Heap.get?_push_size _ rfl⟩

/-! ### in, not in: flat items -/
def flatV : V → Bool
  | .non => true
  | .bl _ => true
  | .int _ => true
  | .str _ => true
  | _ => false
/-- == of flat values -/
def eqV : V → V → Bool
  | .non, .non => true
  | .bl a, .bl b => a == b
  | .bl a, .int b => (if a then 1 else 0) == b
  | .int a, .bl b => a == (if b then 1 else 0)
  | .int a, .int b => a == b
  | .str a, .str b => a == b
  | _, _ => false
theorem eqAt_V {A : Around} {s : Shared} {y x : V} {u v : Value} (ry : RelV y u) (rx : RelV x v) (fy : flatV y = true) (fx : flatV x = true) : SeqAt.EqAt A s u v (eqV y x) := by
  cases y with
  | non =>
    cases ry
    cases x with
    | non => cases rx; exact SeqAt.EqAt.same _
    | bl b => cases rx; exact SeqAt.EqAt.none_bool b
    | int b => obtain ⟨t, rfl⟩ := rx; exact SeqAt.EqAt.none_int b t
    | str b => obtain ⟨t, rfl⟩ := rx; exact SeqAt.EqAt.none_str b t
    | _ => exact absurd (show false = true from fx) Bool.false_ne_true
  | bl a =>
    cases ry
    cases x with
    | non => cases rx; exact SeqAt.EqAt.bool_none a
    | bl b => cases rx; exact SeqAt.EqAt.bool_bool a b
    | int b => obtain ⟨t, rfl⟩ := rx; exact SeqAt.EqAt.bool_int a b t
    | str b => obtain ⟨t, rfl⟩ := rx; exact SeqAt.EqAt.bool_str a b t
    | _ => exact absurd (show false = true from fx) Bool.false_ne_true
  | int a =>
    obtain ⟨t', rfl⟩ := ry
    cases x with
    | non => cases rx; exact SeqAt.EqAt.int_none a t'
    | bl b => cases rx; exact SeqAt.EqAt.int_bool a t' b
    | int b => obtain ⟨t, rfl⟩ := rx; exact SeqAt.EqAt.int_int a t' b t
    | str b => obtain ⟨t, rfl⟩ := rx; exact SeqAt.EqAt.int_str a t' b t
    | _ => exact absurd (show false = true from fx) Bool.false_ne_true
  | str a =>
    obtain ⟨t', rfl⟩ := ry
    cases x with
    | non => cases rx; exact SeqAt.EqAt.str_none a t'
    | bl b => cases rx; exact SeqAt.EqAt.str_bool a t' b
    | int b => obtain ⟨t, rfl⟩ := rx; exact SeqAt.EqAt.str_int a t' b t
    | str b => obtain ⟨t, rfl⟩ := rx; exact SeqAt.EqAt.str_str a t' b t
    | _ => exact absurd (show false = true from fx) Bool.false_ne_true
  | _ => exact absurd (show false = true from fy) Bool.false_ne_true
/-! ### len, list(x), tuple(x) of any list or tuple that is read -/
theorem call_len_seq : CallR X (.builtin "len") (fun xs H Q => ∃ p ys, xs = [.ref p] ∧ (SqL X.K H p ys ∨ SqT X.K H p ys) ∧ Q (.int ys.length) H) := by
  intro pins s σ H xs us Q I r h
  obtain ⟨p, ys, rfl, hq, q⟩ := h
  obtain ⟨u, rfl, rx⟩ := vals1 r
  cases rx
  have hn := line63
  rcases hq with hq | hq
  · obtain ⟨its, r', pl, hz⟩ := I.list hq
    have hlen := r'.length
    exact Calls.call_len_list pl.isList (by simp only [List.size_toArray] <;> omega) ⟨.int ys.length, H, I.tok _, ⟨s.toks + 1, by rw [List.size_toArray, hlen]⟩, q⟩
  · obtain ⟨its, r', pl, hz⟩ := I.tuple hq
    have hlen := r'.length
    exact len_tuple pl (by simp only [List.size_toArray] <;> omega) ⟨.int ys.length, H, I.tok _, ⟨s.toks + 1, by rw [List.size_toArray, hlen]⟩, q⟩
theorem CallR.or {f : Value} {r r' : List V → Hp → VK → Prop} (h : CallR X f r) (h' : CallR X f r') : CallR X f (fun xs H Q => r xs H Q ∨ r' xs H Q) := by
  intro pins s σ H xs us Q I rs q
  rcases q with q | q
  · exact h pins s σ H xs us Q I rs q
  · exact h' pins s σ H xs us Q I rs q
theorem call_list_of : CallR X (.type "list") (fun xs H Q => ∃ p ys, xs = [.ref p] ∧ (SqL X.K H p ys ∨ SqT X.K H p ys) ∧ ∀ l, H l = none → Q (.ref l) (upd H l (.lst ys))) := by
  intro pins s σ H xs us Q I r h
  obtain ⟨p, ys, rfl, hq, q⟩ := h
  obtain ⟨u, rfl, rx⟩ := vals1 r
  cases rx
  have fin : ∀ (its : List Value), Vals ys its → ys.length ≤ sizeLine → ∀ (h' : Heap) (c' : Nat), (∀ b o', s.heap.get? b = some o' → h'.get? b = some o') →
      h'.get? s.heap.objs.size = some { cls := .type "list", dict := none, data := .seq its.toArray c', slots := #[] } → EP X pins σ Q (.ref s.heap.objs.size) { s with heap := h' } := fun its r' hz h' c' kp e =>
    ⟨.ref s.heap.objs.size, _, I.laid (t' := s.toks) kp (Nat.le_refl _) (show ObjOk X.prog X.w _ h' _ (.lst ys) from ⟨hz, its, c', r', e⟩), rfl, q _ (I.hok.fresh (Nat.le_refl _))⟩
  rcases hq with hq | hq
  · obtain ⟨its, r', pl, hz⟩ := I.list hq
    have hlen := r'.length
    obtain ⟨o, ho, hc, n, hd⟩ := pl.isList
    exact call_list_seq p (.inl rfl) ho hc hd (fun h' c' kp e => fin its r' hz h' c' kp e) (by simp only [List.size_toArray] <;> omega)
  · obtain ⟨its, r', pl, hz⟩ := I.tuple hq
    have hlen := r'.length
    obtain ⟨o, ho, hc, n, hd⟩ := pl
    exact call_list_seq p (.inr rfl) ho hc hd (fun h' c' kp e => fin its r' hz h' c' kp e) (by simp only [List.size_toArray] <;> omega)
theorem call_tuple_of : CallR X (.type "tuple") (fun xs H Q => ∃ p ys, xs = [.ref p] ∧ ((SqL X.K H p ys ∧ ∀ l, H l = none → Q (.ref l) (upd H l (.tup ys))) ∨ (SqT X.K H p ys ∧ Q (.ref p) H))) := by
  intro pins s σ H xs us Q I r h
  obtain ⟨p, ys, rfl, h⟩ := h
  obtain ⟨u, rfl, rx⟩ := vals1 r
  cases rx
  rcases h with ⟨hq, q⟩ | ⟨hq, q⟩
  · obtain ⟨its, r', pl, hz⟩ := I.list hq
    have hlen := r'.length
    refine call_tuple_list pl.isList (fun h' kp => ?_) (by simp only [List.size_toArray] <;> omega)
    have I1 : Inv X pins σ H { s with heap := h' } := I.kept (t' := s.toks) kp
    have I2 : Inv X pins σ (upd H h'.objs.size (.tup ys)) { s with heap := h'.push { cls := .type "tuple", data := .seq its.toArray } } :=
      I1.laid (t' := s.toks) (fun b o e => Heap.get?_push_of_some _ e) (Nat.le_refl _) (show ObjOk X.prog X.w _ _ _ (.tup ys) from ⟨hz, its, r', IsTup.new _ _⟩)
    exact ⟨.ref h'.objs.size, _, I2, rfl, q _ (I1.hok.fresh (Nat.le_refl _))⟩
  · obtain ⟨its, r', pl, hz⟩ := I.tuple hq
    exact call_tuple_same pl ⟨.ref p, H, I, rfl, q⟩

/-! ### the call of a builtin's method: o.m(..) -/
/-- the value is of that builtin type -/
def tyV (K : PySem.W.Frag) (T : String) (x : V) (H : Hp) : Prop := match x with
  | .str _ => T = "str"
  | .int _ => T = "int"
  | .ref p => (T = "list" ∧ ∃ xs, SqL K H p xs) ∨ (T = "tuple" ∧ ∃ o, K.lookup p = some o ∧ o.cls = .type "tuple" ∧ o.dict = none) ∨
      (T = "dict" ∧ ((∃ kvs, H p = some (.dK kvs)) ∨ ∃ kvs, H p = some (.dT kvs))) ∨ (T = "set" ∧ ∃ S n, H p = some (.set S n))
  | _ => False
theorem tyV_is {pins : List (Addr × Obj)} {σ : St} {H : Hp} {s : Shared} {T : String} {x : V} {v : Value} (I : Inv X pins σ H s) (r : RelV x v) (ty : tyV X.K T x H) :
    s.TypeIs v T ∧ ∀ a, v = .ref a → ∃ ob, s.heap.get? a = some ob ∧ ob.dict = none := by
  cases x with
  | str z =>
    obtain ⟨t, rfl⟩ := r
    cases (show T = "str" from ty)
    exact ⟨typeIs_str s z t, fun _ e => nomatch e⟩
  | int i =>
    obtain ⟨t, rfl⟩ := r
    cases (show T = "int" from ty)
    exact ⟨typeIs_int s i t, fun _ e => nomatch e⟩
  | ref p =>
    cases r
    rcases ty with ⟨rfl, xs, hq⟩ | ⟨rfl, o, hk, hc, hd⟩ | ⟨rfl, hk⟩ | ⟨rfl, S, n, hk⟩
    · obtain ⟨its, _, pl, _⟩ := I.list hq
      refine ⟨pl.isList.typeIs, fun a e => ?_⟩
      cases e
      obtain ⟨o, n, e, c, hd, _⟩ := pl
      exact ⟨o, e, hd⟩
    · refine ⟨⟨o, I.kIn p o hk, hc⟩, fun a e => ?_⟩
      cases e
      exact ⟨o, I.kIn _ o hk, hd⟩
    · have z : ∃ o, s.heap.get? p = some o ∧ o.ExactDict := by
        rcases hk with ⟨kvs, hk⟩ | ⟨kvs, hk⟩
        · obtain ⟨_, _, _, _, o, _, _, e, ex, _⟩ := I.hok p _ hk
          exact ⟨o, e, ex⟩
        · obtain ⟨_, _, _, _, o, _, _, e, ex, _⟩ := I.hok p _ hk
          exact ⟨o, e, ex⟩
      obtain ⟨o, e, ex⟩ := z
      refine ⟨⟨o, e, ex.1⟩, fun a e2 => ?_⟩
      cases e2
      exact ⟨o, e, ex.2.1⟩
    · obtain ⟨o, _, _, _, e, ex, _⟩ := I.hok p _ hk
      refine ⟨⟨o, e, ex.1⟩, fun a e2 => ?_⟩
      cases e2
      exact ⟨o, e, ex.2.1⟩
  | _ => exact False.elim ty
def tBM0 (K : PySem.W.Frag) (T : String) (r : V → List V → Hp → VK → Prop) (to : TE) : TE := fun σ H Q => to σ H fun x H1 => tyV K T x H1 ∧ r x [] H1 Q
def tBM (K : PySem.W.Frag) (T : String) (r : V → List V → Hp → VK → Prop) (to : TE) (t : TA) : TE := fun σ H Q => to σ H fun x H1 => tyV K T x H1 ∧ t σ H1 fun xs H2 => r x xs H2 Q
variable {o e : Expr} {es : List Expr} {to : TE} {t : TA} {name : Str} {apos cpos : Pos} {T id : String} {r : V → List V → Hp → VK → Prop}
theorem pe_bm0 (pa : PlainAttrs T) (slot : Slot T name id) (hty : typeOf (.builtin id) = pure (.type "method_descriptor")) (hm : MtR X id r) (ho : PE X o to)
    (hbase : attributeBase o name X.env (eval o X.env) = eval o X.env := by rfl) (hline : (apos.endLine == cpos.line) = true := by rfl) : PE X (.Call (.Attribute o name apos) [] [] cpos) (tBM0 X.K T r to) := by
  intro pins s σ H Q I h
  refine wpAny_Call_method0_late hbase hline (thn (ho pins s σ H _ I h) fun v s1 ⟨x, H1, I1, r1, ty, q1⟩ => ?_)
  obtain ⟨h1, h2⟩ := tyV_is I1 r1 ty
  exact ⟨T, id, pa, slot, hty, h1, h2, Calls.callWith_builtin rfl (PySem.evalArgs_none (hm pins s1 σ H1 x [] v [] Q I1 r1 .nil q1))⟩
theorem pe_bm (pa : PlainAttrs T) (slot : Slot T name id) (hty : typeOf (.builtin id) = pure (.type "method_descriptor")) (hm : MtR X id r) (ho : PE X o to) (ha : PA X (e :: es) t)
    (hbase : attributeBase o name X.env (eval o X.env) = eval o X.env := by rfl)
    (hfew : ((backTo cpos (starEach (e :: es) X.env)).all (fun x => !x.1) && (backToKw cpos (keywordEach [] X.env)).all (fun x => x.1.isSome)
      && decide ((e :: es).length + ([] : List Keyword).length + (if ([] : List Keyword).isEmpty then 0 else 1) < 30)) = true := by rfl)
    (hline : (apos.endLine == cpos.line) = true := by rfl) (hs : starEach (e :: es) X.env = (false, eval e X.env) :: starEach es X.env := by rfl) (hplain : (backTo cpos (starEach es X.env)).any (·.1) = false := by rfl) :
    PE X (.Call (.Attribute o name apos) (e :: es) [] cpos) (tBM X.K T r to t) := by
  intro pins s σ H Q I h
  refine wpAny_Call_method_late hbase hfew hline rfl (thn (ho pins s σ H _ I h) fun v s1 ⟨x, H1, I1, r1, ty, q1⟩ => ?_)
  obtain ⟨h1, h2⟩ := tyV_is I1 r1 ty
  refine ⟨T, id, pa, slot, hty, h1, h2, ?_⟩
  have hA := ha cpos pins s1 σ H1 _ I1 q1
  rw [hs] at hA ⊢
  refine Calls.callWith_builtin (by show (false || (backTo cpos (starEach es X.env)).any (·.1)) = false; rw [hplain] <;> rfl) (Calls.evalArgs_plain ?_)
  exact thn hA fun us s2 ⟨vs, H2, I2, r2, q2⟩ => hm pins s2 σ H2 x vs v us Q I2 r1 r2 q2
/- xs.append(e), list.index on a module's tuple .. are MtR facts of 06m -/
end
end L2

namespace L2
open PySem PySem.Spec PyProof.Rows

def MtM (X : Cx) (id : String) (r : V → List V → Hp → VK → Prop) : Prop :=
  ∀ (pins : List (Addr × Obj)) (s : Shared) (σ : St) (H : Hp) (x : V) (xs : List V) (v : Value) (us : List Value) (Q : VK), Inv X pins σ H s → RelV x v → Vals xs us → r x xs H Q →
    wpAny (model X.prog X.w) X.A (call (.builtin id) (v :: us)) (EP X pins σ Q) X.xe s

/-! ### lists of values -/
theorem Vals.one : ∀ {x : V} {us : List Value}, Vals [x] us → ∃ u, us = [u] ∧ RelV x u
  | _, _, .cons r .nil => ⟨_, rfl, r⟩
theorem Vals.two : ∀ {x y : V} {us : List Value}, Vals [x, y] us → ∃ u v, us = [u, v] ∧ RelV x u ∧ RelV y v
  | _, _, _, .cons r (.cons q .nil) => ⟨_, _, rfl, r, q⟩
theorem Vals.zero : ∀ {us : List Value}, Vals [] us → us = []
  | _, .nil => rfl
theorem Vals.rep {xs : List V} {us : List Value} (h : Vals xs us) : ∀ k : Nat, Vals (List.replicate k xs).flatten (List.replicate k us).flatten
  | 0 => .nil
  | k + 1 => by
    rw [List.replicate_succ, List.replicate_succ, List.flatten_cons, List.flatten_cons]
    exact Vals.append h (Vals.rep h k)
theorem foldl_rep (its : List Value) : ∀ (k : Nat) (acc : List Value),
    List.foldl (fun x1 x2 => x1 ++ x2) acc.toArray (List.replicate k its.toArray) = (acc ++ (List.replicate k its).flatten).toArray
  | 0, acc => by simp
  | k + 1, acc => by
    have e : acc.toArray ++ its.toArray = (acc ++ its).toArray := by simp
    have e2 : (acc ++ its) ++ (List.replicate k its).flatten = acc ++ (List.replicate (k + 1) its).flatten := by
      rw [List.replicate_succ, List.flatten_cons, List.append_assoc]
    rw [← e2, ← foldl_rep its k (acc ++ its), ← e, List.replicate_succ, List.foldl_cons]

section
variable {X : Cx} {pins : List (Addr × Obj)} {σ : St} {H : Hp} {s : Shared} {l b : Addr} {xs ys zs : List V}

/-! ### the two steps: a tracked list is rewritten, a new list is laid -/
theorem Inv.lset {its its' : List Value} {n : Nat} {f : Array Value → Array Value} {t' : Nat} (I : Inv X pins σ H s) (hH : H l = some (.lst xs))
    (e : s.heap.get? l = some { cls := .type "list", data := .seq its.toArray n }) (hf : f its.toArray = its'.toArray) (hv : Vals ys its') (hz : ys.length ≤ sizeLine) :
    Inv X pins σ (upd H l (.lst ys)) { s with heap := s.heap.update l (Obj.mapSeq f), toks := t' } := by
  have q := PySem.IsL.update e f
  rw [hf] at q
  refine I.write (x := l) (e := l) (by rw [hH]; exact trivial) (.inl rfl) (fun b' u hb hu => (Heap.get?_update_other s.heap (Obj.mapSeq f) (Ne.symm hb)).trans hu) ⟨_, q⟩ ?_
  exact ⟨hz, its', _, hv, q⟩
theorem Inv.lnew {its : List Value} {t' : Nat} (I : Inv X pins σ H s) (hv : Vals ys its) (hz : ys.length ≤ sizeLine) :
    Inv X pins σ (upd H s.heap.objs.size (.lst ys)) { s with heap := s.heap.push { cls := .type "list", data := .seq its.toArray }, toks := t' } :=
  I.laid (fun _ _ q => Heap.get?_push_of_some _ q) (Nat.le_refl _) ⟨hz, its, 0, hv, Heap.get?_push_size _ rfl⟩
theorem Inv.fresh (I : Inv X pins σ H s) : H s.heap.objs.size = none := I.hok.fresh (Nat.le_refl _)
theorem Inv.lstM (I : Inv X pins σ H s) (hH : H l = some (.lst xs)) : xs.length ≤ sizeLine ∧ ∃ (its : List Value) (n : Nat), Vals xs its ∧ xs.length = its.length ∧ s.heap.get? l = some { cls := .type "list", data := .seq its.toArray n } := by
  obtain ⟨z, its, n, r, e⟩ := I.hok l _ hH
  exact ⟨z, its, n, r, r.length, e⟩

theorem notLongL {n : Nat} (h : n ≤ sizeLine) : Builtin.List.listTooLong n = false := by
  unfold Builtin.List.listTooLong
  exact decide_eq_false (by omega)
end

section
variable {X : Cx}

/-! ### methods -/
def rAppend : V → List V → Hp → VK → Prop := fun x vs H Q => ∃ l xs y, x = .ref l ∧ vs = [y] ∧ H l = some (.lst xs) ∧ xs.length < sizeLine ∧ Q .non (upd H l (.lst (xs ++ [y])))
theorem mt_append : MtM X "list.append" rAppend := by
  intro pins s σ H x vs v us Q I rx rv h
  obtain ⟨l, xs, y, rfl, rfl, hH, hz, q⟩ := h
  cases rx
  obtain ⟨u, rfl, ru⟩ := rv.one
  obtain ⟨z, its, n, r, hl, e⟩ := I.lstM hH
  refine call_meets F.slot_list_append ⟨_, e, rfl⟩ F.entry_list_append (F.args_list_append_2 _ _) (PySem.list_append l its.toArray n u (by rw [List.size_toArray]; omega)) ⟨e, ?_⟩
  refine ⟨.non, _, I.lset (its' := its ++ [u]) hH e (by simp) (r.append (.cons ru .nil)) ?_, rfl, q⟩
  rw [List.length_append, List.length_singleton]
  omega

def rExtend : V → List V → Hp → VK → Prop := fun x vs H Q => ∃ l b xs zs, x = .ref l ∧ vs = [.ref b] ∧ H l = some (.lst xs) ∧ H b = some (.lst zs) ∧ xs.length + zs.length ≤ sizeLine ∧ Q .non (upd H l (.lst (xs ++ zs)))
theorem mt_extend : MtM X "list.extend" rExtend := by
  intro pins s σ H x vs v us Q I rx rv h
  obtain ⟨l, b, xs, zs, rfl, rfl, hH, hB, hz, q⟩ := h
  cases rx
  obtain ⟨u, rfl, ru⟩ := rv.one
  cases ru
  obtain ⟨z, its, n, r, hl, e⟩ := I.lstM hH
  obtain ⟨z2, its2, n2, r2, hl2, e2⟩ := I.lstM hB
  have hsz : its.toArray.size + its2.toArray.size ≤ sizeLine := by rw [List.size_toArray, List.size_toArray]; omega
  have hlong : ¬ (!its.toArray.isEmpty && Builtin.List.listTooLong (its.toArray.size + its2.toArray.size)) = true := by
    rw [notLongL hsz, Bool.and_false]
    exact Bool.false_ne_true
  refine call_meets F.slot_list_extend ⟨_, e, rfl⟩ F.entry_list_extend (F.args_list_extend_2 _ _)
    (AutoSeq1.list_extend_list_list_0 l its.toArray n b its2.toArray n2 hlong (by rw [List.size_toArray]; omega) (by omega)) ⟨e, e2, ?_⟩
  refine ⟨.non, _, I.lset (its' := its ++ its2) hH e (by simp) (r.append r2) ?_, rfl, q⟩
  rw [List.length_append]
  omega

def rClear : V → List V → Hp → VK → Prop := fun x vs H Q => ∃ l xs, x = .ref l ∧ vs = [] ∧ H l = some (.lst xs) ∧ Q .non (upd H l (.lst []))
theorem mt_clear : MtM X "list.clear" rClear := by
  intro pins s σ H x vs v us Q I rx rv h
  obtain ⟨l, xs, rfl, rfl, hH, q⟩ := h
  cases rx
  have hus := rv.zero
  subst hus
  obtain ⟨z, its, n, r, hl, e⟩ := I.lstM hH
  refine call_meets F.slot_list_clear ⟨_, e, rfl⟩ F.entry_list_clear (F.args_list_clear_1 _) (AutoSeq1.list_clear_list_0 l its.toArray n (by rw [List.size_toArray]; omega)) ⟨e, ?_⟩
  exact ⟨.non, _, I.lset (its' := []) (ys := []) hH e rfl .nil (Nat.zero_le _), rfl, q⟩

/-! ### list + list, list += list, list * int -/
def rCat : R2 := fun x y H Q => ∃ l b xs zs, x = .ref l ∧ y = .ref b ∧ H l = some (.lst xs) ∧ H b = some (.lst zs) ∧ xs.length + zs.length ≤ sizeLine ∧ ∀ p, H p = none → Q (.ref p) (upd H p (.lst (xs ++ zs)))
theorem op_cat : OpR X (binaryOp .Add) rCat := by
  intro pins s σ H x y v u Q I rx ry h
  obtain ⟨l, b, xs, zs, rfl, rfl, hH, hB, hz, q⟩ := h
  cases rx
  cases ry
  obtain ⟨z, its, n, r, hl, e⟩ := I.lstM hH
  obtain ⟨z2, its2, n2, r2, hl2, e2⟩ := I.lstM hB
  refine PySem.P.add_list e e2 ?_ (by rw [List.size_toArray, List.size_toArray]; omega)
  have ea : its.toArray ++ its2.toArray = (its ++ its2).toArray := by simp
  rw [ea]
  exact ⟨.ref _, _, I.lnew (t' := s.toks) (r.append r2) (by rw [List.length_append]; omega), rfl, q _ I.fresh⟩
/-- a list times an int (a negative one is nothing) -/
def rRep : R2 := fun x y H Q => ∃ l k xs, x = .ref l ∧ y = .int k ∧ H l = some (.lst xs) ∧ -(2 ^ 63) ≤ k ∧ k < 2 ^ 63 ∧ xs.length * k.toNat ≤ sizeLine ∧
  ∀ p, H p = none → Q (.ref p) (upd H p (.lst (List.replicate k.toNat xs).flatten))
theorem len_rep {α : Type} (xs : List α) (k : Nat) : (List.replicate k xs).flatten.length = k * xs.length := by
  induction k with
  | zero => simp
  | succ k ih => rw [List.replicate_succ, List.flatten_cons, List.length_append, ih, Nat.succ_mul, Nat.add_comm]
theorem op_rep : OpR X (binaryOp .Mult) rRep := by
  intro pins s σ H x y v u Q I rx ry h
  obtain ⟨l, k, xs, rfl, rfl, hH, h1, h2, hz, q⟩ := h
  cases rx
  obtain ⟨t, rfl⟩ := ry
  obtain ⟨z, its, n, r, hl, e⟩ := I.lstM hH
  have hlen : its.toArray.size * k.toNat ≤ sizeLine := by rw [List.size_toArray, ← hl]; exact hz
  have hcap : ¬ its.toArray.size * k.toNat > (2 ^ 63 - 1) / 8 := by
    have : (sizeLine : Nat) ≤ (2 ^ 63 - 1) / 8 := by decide
    omega
  have hfit : ¬ (!Builtin.List.listFitsIndex k) = true := by
    rw [fitsIndex_both h1 h2]
    exact Bool.false_ne_true
  have hlong : ¬ Builtin.List.listTooLong (its.toArray.size * k.toNat) = true := by
    rw [notLongL hlen]
    exact Bool.false_ne_true
  have hnew : List.foldl (fun x1 x2 => x1 ++ x2) #[] (List.replicate (if its.toArray.isEmpty = true then 0 else k.toNat) its.toArray) = (List.replicate k.toNat its).flatten.toArray := by
    have f0 : ∀ m : Nat, List.foldl (fun x1 x2 => x1 ++ x2) #[] (List.replicate m its.toArray) = (List.replicate m its).flatten.toArray := fun m => by
      have := foldl_rep its m []
      rw [List.nil_append] at this
      exact this
    rw [f0]
    cases its with
    | nil => simp
    | cons a r' => rw [if_neg (by simp)]
  refine wpAny_binaryOp_repeat_ref (T := "list") (U := "int") (by decide) ⟨_, e, rfl⟩ (fun s' => typeIs_int s' k t) noFill_list_mul F.fills_int_mul F.slot_int_rmul repeat_list F.slot_int_index.lookup
    (call_meets F.slot_int_rmul (typeIs_int s k t) F.entry_int_rmul (F.args_int_rmul_2 _ _) (int___rmul___int_list k t l its.toArray n)
      ⟨e, rfl, ⟨_, e, rfl⟩, call_meets F.slot_list_mul ⟨_, e, rfl⟩ F.entry_list_mul (F.args_list_mul_2 _ _) (AutoListH.list___mul___list_int_3 l its.toArray n k t hfit hcap hlong) ⟨e, ?_⟩⟩)
  rw [hnew]
  exact ⟨.ref _, _, I.lnew (t' := s.toks) (r.rep k.toNat) (by rw [len_rep, Nat.mul_comm]; exact hz), rfl, q _ I.fresh⟩

/-! ### del xs[i] -/
end

/-! ### xs[a:b] = ys -/
section
variable {prog : Program} {w : World} {A : Around} {E : Value → Shared → Prop} {s : Shared}
set_option maxRecDepth 100000 in
end

section
variable {X : Cx}
end
end L2

namespace Att
open PySem PySem.W PySem.Calls PyProof.Rows

/-! ### the script -/
theorem ints_of_wellAll {P : Params} {h : Heap} : ∀ (ns : List Int) (vs : List Value), WellAll P h vs (ns.map WData.int) → IntsAre vs ns := by
  intro ns
  induction ns with
  | nil =>
    intro vs w
    rw [List.map_nil] at w
    cases w
    exact .nil
  | cons n ns ih =>
    intro vs w
    rw [List.map_cons] at w
    cases w with
    | cons a b =>
      cases a
      exact .cons _ _ (ih _ b)

theorem script_of {l : OpenLaw} {n : Nat} (hn : l.most = some n) {P : Params} {h : Heap} {args : List WData} {vals : List Value}
    (hpre : l.row.toRowW.claim.pre args = true) (hwl : WellAll P h vals args) :
    ∃ a vs ns, vals = [Value.ref a] ∧ args = [WData.list (ns.map WData.int)] ∧ h.get? a = some { cls := .type "list", data := .seq vs.toArray } ∧ IntsAre vs ns ∧ ns.length ≤ n := by
  have hsh : WShape.hasAll [] args [.list .int] = true := (pre_splitW hpre).1
  have hc : l.pre.holds [] { args := args } = true := (pre_splitW hpre).2
  obtain ⟨d, r, rfl, h1, h2⟩ := hasAllW_cons hsh
  obtain rfl := hasAllW_nil h2
  obtain ⟨xs, rfl, h3⟩ := hasW_list h1
  obtain ⟨ns, rfl⟩ := items_int h3
  have hlen : ns.length ≤ n := by
    unfold OpenLaw.pre at hc
    have h4 : (WTm.not (.lt (.lit (.int (n : Int))) (.len (.arg 0)))).holds [] { args := [.list (ns.map .int)] } = true := by
      have h4 := (holds_andW hc).1
      rw [hn] at h4
      exact h4
    have h5 := condW_of h4 (w_not (w_lt w_lit (w_len_list (w_arg rfl))))
    rw [List.length_map] at h5
    refine Nat.le_of_not_lt fun q => ?_
    have q' : (n : Int) < ((ns.length : Nat) : Int) := by omega
    first
      | (rw [decide_eq_true q'] at h5; exact absurd h5 (by decide))
      | (simp at h5; omega)
  cases hwl with
  | cons w1 w2 =>
    cases w2
    cases w1 with
    | list ho hall => exact ⟨_, _, ns, rfl, rfl, ho, ints_of_wellAll ns _ hall, hlen⟩

theorem post_true (l : OpenLaw) (args : List WData) : l.row.toRowW.claim.post args (.bool true) args = true :=
  postW_of (r := l.row.toRowW) (X := (true == true))
    (show WShape.has [] (.bool true) .bool = true by first | rfl | decide | simp [WShape.has, WShape.arms, WShape.armsAll])
    (show (WTm.eq .res (.lit (.bool true))).value [] { args := args, res := some (.bool true), after := args } = some (.bool (true == true)) from w_eq_bool (w_res rfl) w_lit) rfl

/-! ### the attachment: holds_open's last premise (the goal 'hc' behind k_head) from a wpAny of the law's body -/
/-- the same from a codeAny of the CALL (for a layer whose function contracts speak of calls) -/
theorem attach_call {l : OpenLaw} {n : Nat} {q : Program} {loose : List Str} {XP : (Str → Option Value) → Heap → Prop} {YP : World → Heap → Prop} {d : DefRec}
    (hn : l.most = some n) (hdf : d.params.defaults = [])
    (call : ∀ (w : World) (s₀ s₁ : Shared) (mg mb : Str → Option Value) (fa : Addr) (o : Obj) (pm cd doc : Value) (a : Addr) (vs : List Value) (ns : List Int),
      Ground q loose [] XP w s₀ mg mb s₁.heap → YP w s₁.heap →
      s₁.heap.get? fa = some o → o.data = .func (docDef d.name d.params d.body d.scope pm cd doc) → s₁.heap.CodeRec cd d.name → mg d.name = some (.ref fa) →
      s₁.heap.get? a = some { cls := .type "list", data := .seq vs.toArray } → IntsAre vs ns → ns.length ≤ n → s₁.gens = #[] →
      codeAny (model l.prog w) callerA (.call (.ref fa) ⟨[.ref a], []⟩) (fun r s' => r = .ok (.ret (.bool true)) ∧ OldK s₁.heap s'.heap ∧ s'.os = s₁.os ∧ AllBare s'.gens) s₁) :
    WalkO q loose XP YP l.row.toRowW d [] (fun f vs => PySem.call f vs) := by
  intro w s₀ s₁ mg mb G Y fa o pm cd doc dV kV ho hd hcd hD hmg hg args vals as hpre hlay hrd hwl hlo
  obtain rfl : dV = .none := Dflts.none hD hdf
  obtain rfl : kV = .none := Dflts.noKw hD
  obtain ⟨a, vs, ns, rfl, rfl, hobj, hints, hlen⟩ := script_of hn hpre hwl
  refine enter_call (codeAny_mono (call w s₀ s₁ mg mb fa o pm cd doc a vs ns G Y ho (fd_plain hd) hcd hmg hobj hints hlen hg) fun r s' hq => ?_)
  obtain ⟨rfl, h2, h3, h4⟩ := hq
  exact ⟨.inl ⟨.bool true, .bool true, [], rfl, fun _ => rfl, .bool true, post_true l _, fun _ => ⟨List.Pairwise.nil, fun _ hm => (nomatch hm)⟩⟩, h2, h3, h4⟩

/-! ### rules over ANY heap (no ledger) from facts about the written part K: the library's own take a ledger (News) for what they write -/
section
variable {prog : Program} {w : World} {A : Around} {E : Value → Shared → Prop} {s : Shared} {K : Frag}

/-! the whole heap as the ledger: makes every rule that writes through a ledger a rule over any heap -/
def ledger (h : Heap) (L d : Addr) : List (Addr × Obj) := (List.range h.objs.size).filterMap fun a => if a = L ∨ a = d then none else (h.get? a).map fun o => (a, o)
end
end Att

namespace L2
open PySem PySem.Spec PyProof.Rows

theorem vals_ints : ∀ {vs : List Value} {ns : List Int}, IntsAre vs ns → Vals (ns.map V.int) vs
  | _, _, .nil => .nil
  | _, _, .cons n t h => .cons ⟨t, rfl⟩ (vals_ints h)

/-- nothing is tracked but the script, known to the object (or it is an object of the module) -/
def Only (H : Hp) : Prop := ∀ b, H b = none ∨ ∃ o xs, H b = some (.frz o (.lst xs))

/-- THE HEAD: the law's promise, at the heap behind the top. F, the promise of the law's def, may use that base is part of the heap (so K.In base, base.Ns mainGlobals mg stand in Mod) -/
theorem law_call {P : Program} {w : World} {K : PySem.W.Frag} {mg mb : Str → Option Value} {CX : CXT} {k : Nat} {fa a : Addr} {fd : FuncData} {x : Str} {sp : Sp} {s₁ : Shared} {vs : List Value} {ns : List Int}
    (KX : K.In s₁.heap) (hns : s₁.heap.Ns mainGlobals mg) (hb : s₁.heap.Ns builtinsNs mb) (hbb : ∀ x : Str, x ≠ "__name__" → mb x = bootBuiltins x) (hlim : s₁.heap.NoLimit) (hg : s₁.gens = #[])
    (ha : s₁.heap.get? a = some { cls := .type "list", data := .seq vs.toArray }) (hi : IntsAre vs ns) (hl : ns.length ≤ sizeLine) (hr : Room k callerA)
    (F : ∀ base : Heap, K.In base → base.Ns mainGlobals mg → FnOk P w K mg base CX k fa fd [x] sp) (hbind : ∀ (s : Shared) (u : Value), BindsTo s fd ⟨[u], []⟩ [(x, u)])
    (hsp : ∀ H : Hp, Only H → SqL K H a (ns.map V.int) → sp [.ref a] H (fun v _ => v = .bl true) fun _ _ _ => False)
    (hCX : ∀ H e s', CX [] H s₁ (fun _ _ _ => False) e s' → False) :
    codeAny (model P w) callerA (.call (.ref fa) ⟨[.ref a], []⟩) (fun r s' => r = .ok (.ret (.bool true)) ∧ OldK s₁.heap s'.heap ∧ s'.os = s₁.os ∧ AllBare s'.gens) s₁ := by
  have rv := vals_ints hi
  have lenV := hi.length
  -- from an abstract heap in which nothing but the script may be tracked
  have core : ∀ H : Hp, Only H → SqL K H a (ns.map V.int) → HOk P w H s₁.heap → (∀ b, H b ≠ none → b = a) → (H a ≠ none → K.lookup a = none) →
      codeAny (model P w) callerA (.call (.ref fa) ⟨[.ref a], []⟩) (fun r s' => r = .ok (.ret (.bool true)) ∧ OldK s₁.heap s'.heap ∧ s'.os = s₁.os ∧ AllBare s'.gens) s₁ := by
    intro H hO hS hok hA hK
    have base_of : ∀ {b : Addr} {o : Obj}, s₁.heap.get? b = some o → H b = none → (hidT s₁.heap H).get? b = some o := fun e n => hidT_get e n
    have noA : ∀ {b : Addr} {o : Obj} {es : Array DictEntry} {ep : Nat}, s₁.heap.get? b = some o → o.data = .dict es ep → H b = none := fun {b o es ep} e d => by
      cases q : H b with
      | none => rfl
      | some u =>
        have e' : b = a := hA b (by rw [q]; simp)
        subst e'
        rw [ha] at e; cases e
        have d' : Data.seq vs.toArray _ = Data.dict es ep := d
        cases d'
    have nsK : ∀ {b : Addr} {m : Str → Option Value}, s₁.heap.Ns b m → (hidT s₁.heap H).Ns b m := fun {b m} ⟨o, es, ep, e, d, r⟩ => ⟨o, es, ep, base_of e (noA e d), d, r⟩
    have hKb : K.In (hidT s₁.heap H) := fun b o e => base_of (KX b o e) (by
      cases q : H b with
      | none => rfl
      | some u =>
        have e' : b = a := hA b (by rw [q]; simp)
        subst e'
        rw [hK (by rw [q]; simp)] at e; cases e)
    have hM : Mod K mg (hidT s₁.heap H) := ⟨hKb, nsK hns, ⟨mb, nsK hb, hbb⟩, let ⟨mc, h1, h2⟩ := hlim; ⟨mc, nsK h1, h2⟩⟩
    have e0 : Env0 P w K mg (hidT s₁.heap H) callerA [] s₁ H := ⟨rfl, hM, fun b o e => of_hidT e, Nat.le_of_eq (hidT_size _ _), trivial, fun b hb => absurd (show b ∈ ([] : List Addr) from hb) (by simp), hok, .of_eq hg, .inl rfl⟩
    refine codeAny_mono ((F _ hKb (nsK hns)).run callerA [] s₁ H ⟨[.ref a], []⟩ [.ref a] [.ref a] _ _ hr e0 (hbind s₁ (.ref a)) (.cons rfl .nil) (hsp H hO hS)) fun r s' h => ?_
    cases r with
    | error e => exact (hCX H e s' h).elim
    | ok fl =>
      cases fl with
      | next => exact False.elim h
      | brk => exact False.elim h
      | cont => exact False.elim h
      | ret u =>
        obtain ⟨v, H', os, bare, un, hok', r', q⟩ := h
        have q' : v = .bl true := q
        subst q'
        obtain rfl : u = Value.bool true := r'
        refine ⟨rfl, OldK.of_keep fun b o e => ?_, os, bare⟩
        cases q : H b with
        | none => exact un.keep b o e q (by intro z; exact absurd (show b ∈ ([] : List Addr) from z) (by simp)) (by simp)
        | some u =>
          rcases hO b with z | ⟨ob, xs, z⟩
          · rw [q] at z; cases z
          · have z2 := un.frzs b ob _ z
            obtain ⟨e1, _⟩ := hok b _ z
            obtain ⟨e2, _⟩ := hok' b _ z2
            rw [e] at e1; cases e1
            exact e2
  cases hk : K.lookup a with
  | some o =>
    -- the script is one of the module's own objects
    have e := KX a o hk
    rw [ha] at e
    cases e
    refine core (fun _ => none) (fun _ => .inl rfl) (.inr ⟨_, vs.toArray, _, hk, rfl, rfl, rfl, by rw [List.size_toArray, lenV]; exact hl, by simpa using rv⟩) (fun b u z => by have z' : (none : Option HO) = some u := z; cases z') (fun b z => absurd rfl z) fun z => absurd rfl z
  | none =>
    refine core (fun b => if b = a then some (.frz { cls := .type "list", data := .seq vs.toArray } (.lst (ns.map V.int))) else none) (fun b => ?_) (.inl (.inr ⟨{ cls := .type "list", data := .seq vs.toArray }, if_pos rfl⟩)) (fun b u z => ?_) (fun b z => ?_) fun _ => hk
    · by_cases hb : b = a
      · exact .inr ⟨_, _, if_pos hb⟩
      · exact .inl (if_neg hb)
    · by_cases hb : b = a
      · have z' := (if_pos hb).symm.trans z
        cases z'
        subst hb
        exact ⟨ha, by rw [List.length_map]; exact hl, vs, _, rv, ha⟩
      · have z' := (if_neg hb).symm.trans z
        cases z'
    · by_cases hb : b = a
      · exact hb
      · exact absurd (if_neg hb) z
end L2

namespace L2
open PySem PySem.Spec PyProof.Rows

abbrev KOf {K : PySem.W.Frag} {h : Heap} (_ : K.In h) : PySem.W.Frag := K

/-- the goal that k_head leaves (case hc), from the law's promise. F gives the function object fd (K's own) once, then the promise over every base -/
theorem walk_of {l : PySem.W.OpenLaw} {n k : Nat} {q : Program} {loose : List Str} {XP : (Str → Option Value) → Heap → Prop} {YP : World → Heap → Prop} {d : DefRec} {K : Params → PySem.W.Frag} {CX : World → CXT} {sp : World → Sp} {x : Str}
    (hn : l.most = some n) (hn2 : n ≤ sizeLine) (hdf : d.params.defaults = []) (hr : Room k callerA)
    (hY : ∀ (w : World) (h : Heap), YP w h → (K w.params).In h)
    (F : ∀ (w : World) (mg : Str → Option Value) (fa : Addr) (h : Heap), (K w.params).In h → h.Ns mainGlobals mg → mg d.name = some (.ref fa) →
      ∃ fd : FuncData, (∀ (s : Shared) (u : Value), BindsTo s fd ⟨[u], []⟩ [(x, u)]) ∧
        ∀ base : Heap, (K w.params).In base → base.Ns mainGlobals mg → FnOk l.prog w (K w.params) mg base (CX w) k fa fd [x] (sp w))
    (hsp : ∀ (w : World) (H : Hp) (a : Addr) (ns : List Int), ns.length ≤ n → Only H → SqL (K w.params) H a (ns.map V.int) → sp w [.ref a] H (fun v _ => v = .bl true) fun _ _ _ => False)
    (hCX : ∀ (w : World) (H : Hp) (s : Shared) (e : Value) (s' : Shared), CX w [] H s (fun _ _ _ => False) e s' → False) :
    PySem.W.WalkO q loose XP YP l.row.toRowW d [] (fun f vs => PySem.call f vs) := by
  refine Att.attach_call hn hdf fun w s₀ s₁ mg mb fa o pm cd doc a vs ns G Y ho hd hcd hmg hobj hints hlen hg => ?_
  have KX := hY w _ Y
  obtain ⟨fd, hb, hF⟩ := F w mg fa _ KX G.T.g hmg
  exact law_call KX G.T.g G.T.b G.T.builtins G.T.nolimit hg hobj hints (Nat.le_trans hlen hn2) hr hF hb (fun H hO hS => hsp w H a ns hlen hO hS) fun H e s' => hCX w H s₁ e s'
end L2

/- THE LAST THEOREM (shape; LID, My.* are yours):
   My.Adr: a structure of the addresses that your layer names (classes, functions); My.Txt K t: a structure (Prop) of the equations over K;
   My.txt_mk : {K} {implicit addresses ..} (e1 : nsIn K mainGlobals "law" = some (some (.ref f))) (e2 : K.lookup f = some ⟨oc, od, .func (fnOf "law" "law" params body scope dV kV doc pm an cdv ct), sl⟩) (e3 : codeIn K cdv "law" = true) .. : ∃ t, My.Txt K t

set_option maxRecDepth 100000 in
set_option maxHeartbeats 0 in
theorem PySem.Challenge.cw_LID_holds : PySem.Challenge.rw_LID.Holds := by
  w_on; o_law; k_head; (case hw => w_witness2)
  k_fill
  refine L2.walk_of (l := PySem.Challenge.rw_LID) (n := 63) (k := 40) (x := "script") (CX := fun w => ..) (sp := fun _ => My.sp_law) rfl (by decide) rfl ⟨rfl, by decide, by decide⟩ (fun w h Y => PySem.W.kIn_of Y) ?F ?S ?C
  case F =>
    intro w mg fa h KX G hmg
    have T : ∃ t, My.Txt (L2.KOf KX) t := by
      dsimp only [L2.KOf]                          -- K must stand as «<heap const> w.params» for k_is
      refine' My.txt_mk ?e1 ?e2 ?e3 ..
      (case e1 => PySem.W.k_is)                    -- in the order: a name -> its address -> its object -> its parts
      (case e2 => PySem.W.k_is)
      ..
    obtain ⟨t, T⟩ := T
    have e0 := hmg.symm.trans (PySem.W.mg_of KX G T.law)
    cases e0                                       -- fa is the law's own address
    exact ⟨_, fun s u => .of_eq rfl, fun base kb nb => My.law_fn T kb nb⟩     -- if «.of_eq rfl» comes too early: refine' ⟨_, ?b, fun base kb nb => My.law_fn T kb nb⟩; exact fun s u => .of_eq rfl
  case S => exact fun w H a ns hl hO hS => ..
  case C => exact ..
(the tactic k_is has no namespace: write k_is) -/

/-! SHORT WORDS over the layer: a def of the text, its body, what a loop and a test want. -/
namespace L2
open PySem PySem.Spec PyProof.Rows

/-! ### the text by places -/
/-- the j-th statement of a class's body -/
def inClass (s : Stmt) (j : Nat) : Stmt := match s with
  | .ClassDef _ _ _ body _ _ _ _ _ _ _ => body.getD j (.Pass ⟨0, 0, 0, 0⟩)
  | _ => .Pass ⟨0, 0, 0, 0⟩
def defArgs (s : Stmt) : Arguments := match s with
  | .FunctionDef _ a _ _ _ _ _ _ _ _ => a
  | _ => { posonlyargs := [], args := [], vararg := none, kwonlyargs := [], kw_defaults := [], kwarg := none, defaults := [] }
def defBody (s : Stmt) : List Stmt := match s with
  | .FunctionDef _ _ b _ _ _ _ _ _ _ => b
  | _ => []
def defScope (s : Stmt) : Scope := match s with
  | .FunctionDef _ _ _ _ _ _ sc _ _ _ => sc
  | _ => { kind := .function, names := [], isGenerator := false, isCoroutine := false }

/-! ### no exception leaves a def -/
abbrev CX0 : CXT := fun _ _ _ _ _ _ => False
abbrev E0 : XK := fun _ _ _ => False
theorem pass0 {X : Cx} : Passes CX0 X E0 := fun _ _ _ _ _ _ _ h => h.elim

/-! ### a def (or method) of the text as it stands behind the top -/
structure Fun (K : PySem.W.Frag) (x qual : Str) (st : Stmt) (f : Addr) (fd : FuncData) : Prop where
  ex : ∃ (oc : Value) (od : Option Addr) (kV doc pm : Value) (an : Option Addr) (cdv ct : Value) (osl : Array (Option Value)),
    fd = PySem.W.fnOf x qual (defArgs st) (defBody st) (defScope st) .none kV doc pm an cdv ct ∧ K.lookup f = some ⟨oc, od, .func fd, osl⟩ ∧ PySem.W.codeIn K cdv qual = true
  kp : PySem.W.keepIn K (.ref f) = true
section
variable {P : Program} {w : World} {K : PySem.W.Frag} {mg : Str → Option Value} {base : Heap}
/-- THE RULE for a def: its body as a term of rules, and the reading of that term -/
theorem Fun.ok {x qual : Str} {st : Stmt} {f : Addr} {fd : FuncData} {N ps : List Str} {k : Nat} {sp : Sp} (F : Fun K x qual st f fd) (S : FnScope N ps (defScope st)) (len : ∀ vs H Q E, sp vs H Q E → vs.length = ps.length)
    (hbody : ∀ (cdv : Value) (A : Around) (outer : List Env) (s : Shared) (H : Hp) (vs : List V) (Q : VK) (E : XK), Room k (A.deeper (envOfC qual (defScope st) s.heap.objs.size f cdv)) → sp vs H Q E →
      ∃ t, PSs (cxOf CX0 P w K mg base N qual (defScope st) f cdv A outer s H E).nox (defBody st) t ∧ t { nx := fun _ H' => Q .non H', rt := Q } (start N vs) H) : FnOk P w K mg base CX0 (k + 1) f fd ps sp := by
  obtain ⟨oc, od, kV, doc, pm, an, cdv, ct, osl, rfl, lk, hcd⟩ := F.ex
  refine fn_of lk hcd S len fun A outer s H vs Q E hr hsp => ?_
  obtain ⟨t, h, q⟩ := hbody cdv A outer s H vs Q E hr hsp
  exact ⟨t, h.nox, q⟩
/-- how its arguments bind (no defaults): h is «fun _ _ _ _ _ _ us hl => match us, hl with | [_, _], _ => rfl», one _ a parameter -/
theorem Fun.binds {x qual : Str} {st : Stmt} {f : Addr} {fd : FuncData} {ps : List Str} (F : Fun K x qual st f fd)
    (h : ∀ (kV doc pm : Value) (an : Option Addr) (cdv ct : Value) (us : List Value), us.length = ps.length → bindArgs (PySem.W.fnOf x qual (defArgs st) (defBody st) (defScope st) .none kV doc pm an cdv ct) ⟨us, []⟩ = pure (ps.zip us)) : Binds K fd ps [] := by
  obtain ⟨oc, od, kV, doc, pm, an, cdv, ct, osl, rfl, lk, hcd⟩ := F.ex
  exact .all (h kV doc pm an cdv ct)
theorem fun_mk {x qual : Str} {st : Stmt} {f : Addr} {oc : Value} {od an : Option Addr} {osl : Array (Option Value)} {kV doc pm cdv ct : Value} (l : K.lookup f = some ⟨oc, od, .func (PySem.W.fnOf x qual (defArgs st) (defBody st) (defScope st) .none kV doc pm an cdv ct), osl⟩)
    (c : PySem.W.codeIn K cdv qual = true) (k : PySem.W.keepIn K (.ref f) = true) : Fun K x qual st f (PySem.W.fnOf x qual (defArgs st) (defBody st) (defScope st) .none kV doc pm an cdv ct) := ⟨⟨oc, od, kV, doc, pm, an, cdv, ct, osl, rfl, l, c⟩, k⟩
end
theorem small1000 {n : Nat} (h : n ≤ 1000) : n < sizeLine := Nat.lt_of_le_of_lt h (by decide)

/-! ### expressions in short: the name that stands in the i-th slot -/
section
variable {X : Cx}
theorem pv (i : Nat) {x : Str} {pos : Pos} (hN : X.N[i]? = some x := by rfl) (hv : Vis X.env.scope x := by first | exact Or.inl rfl | exact Or.inr (Or.inl rfl) | exact Or.inr (Or.inr rfl)) (hd : (x == ("__debug__" : Str)) = false := by decide)
    (hcd : (x == ("__classdict__" : Str)) = false := by decide) : PE X (.Name x pos) (tVar i) := pe_var hN hv hd hcd
end

/-! ### tests -/
theorem iteF {A B : Prop} (h : B) : if false = true then A else B := by
  rw [if_neg Bool.false_ne_true]
  exact h
theorem iteT {A B : Prop} (h : A) : if true = true then A else B := by
  rw [if_pos rfl]
  exact h
theorem ite2 {c A B : Prop} [Decidable c] (h1 : c → A) (h2 : ¬ c → B) : if c then A else B := by
  by_cases h : c
  · rw [if_pos h]
    exact h1 h
  · rw [if_neg h]
    exact h2 h
theorem iteNS {c A B : Prop} [Decidable c] (hc : c) (h : B) : if (!decide c) = true then A else B := by
  rw [decide_eq_true hc]
  exact iteF h

/-! ### heaps -/
/-- all that was tracked is as it was -/
def Same (H H' : Hp) : Prop := ∀ b o, H b = some o → H' b = some o
theorem Same.refl (H : Hp) : Same H H := fun _ _ h => h
theorem Same.trans {H H1 H2 : Hp} (a : Same H H1) (b : Same H1 H2) : Same H H2 := fun c o h => b c o (a c o h)
theorem Same.free {H H' : Hp} (e : Same H H') {l : Addr} (h : H' l = Option.none) : H l = Option.none := by
  cases q : H l with
  | none => rfl
  | some o =>
    rw [e l o q] at h
    cases h
theorem Same.seq {K : PySem.W.Frag} {H H' : Hp} {a : Addr} {xs : List V} (e : Same H H') (h : SqL K H a xs) : SqL K H' a xs := by
  rcases h with (h | ⟨o, h⟩) | h
  · exact .inl (.inl (e _ _ h))
  · exact .inl (.inr ⟨o, e _ _ h⟩)
  · exact .inr h

end L2

set_option Elab.async false
set_option linter.all false
set_option maxRecDepth 100000
set_option maxHeartbeats 4000000
namespace L2
open PySem PySem.Spec PyProof.Rows

/-! ## my own rules: comprehensions, enumerate, sum, is not True, isinstance -/

/-- [elt for target in iter]: W by the turn, a measure, the list so far, the comprehension's names, the heap; l: where the list stands -/
def tComp (n : Nat) (wi : TI) (g : TG) (te : TE) : TE := fun σ H Q => wi σ H fun J H1 => ∀ l, H1 l = none → ∃ W : Nat → Nat → List V → St → Hp → Prop,
  (∃ m, W 0 m [] (List.replicate n none) (upd H1 l (.lst []))) ∧ ∀ i m ys σ' H', W i m ys σ' H' →
    (J.stop i H' ∧ Q (.ref l) H') ∨ (J.go i H' ∧ ∀ x H2, J.yld i H' x H2 → g x σ' H2 fun σ3 H3 => te σ3 H3 fun y H4 =>
      H4 l = some (.lst ys) ∧ ys.length < sizeLine ∧ ∃ m', m' < m ∧ W (i + 1) m' (ys ++ [y]) σ3 (upd H4 l (.lst (ys ++ [y]))))
/-- over a list that the element leaves as it is -/
theorem comp_li {K : PySem.W.Frag} {a l : Addr} {xs : List V} {n : Nat} {g : TG} {te : TE} {R : Hp → Prop} {H1 : Hp} (Pv : Nat → List V → Hp → Prop) (h0 : Pv 0 [] (upd H1 l (.lst []))) (hl : ∀ i ys H, i ≤ xs.length → Pv i ys H → SqL K H a xs)
    (hs : ∀ i x ys σ H, xs[i]? = some x → Pv i ys H → σ.length = n → g x σ H fun σ3 H3 => te σ3 H3 fun y H4 => H4 l = some (.lst ys) ∧ ys.length < sizeLine ∧ σ3.length = n ∧ Pv (i + 1) (ys ++ [y]) (upd H4 l (.lst (ys ++ [y]))))
    (hd : ∀ ys H, Pv xs.length ys H → R H) (mg : ∀ x σ H (A B : St → Hp → Prop), (∀ σ' H', A σ' H' → B σ' H') → g x σ H A → g x σ H B) (mt : ∀ σ H (A B : VK), (∀ v H', A v H' → B v H') → te σ H A → te σ H B) :
    ∃ W : Nat → Nat → List V → St → Hp → Prop, (∃ m, W 0 m [] (List.replicate n none) (upd H1 l (.lst []))) ∧ ∀ i m ys σ' H', W i m ys σ' H' →
      ((Itl K a).stop i H' ∧ R H') ∨ ((Itl K a).go i H' ∧ ∀ x H2, (Itl K a).yld i H' x H2 → g x σ' H2 fun σ3 H3 => te σ3 H3 fun y H4 =>
        H4 l = some (.lst ys) ∧ ys.length < sizeLine ∧ ∃ m', m' < m ∧ W (i + 1) m' (ys ++ [y]) σ3 (upd H4 l (.lst (ys ++ [y])))) := by
  refine ⟨fun i m ys σ H => m = xs.length - i ∧ i ≤ xs.length ∧ σ.length = n ∧ Pv i ys H, ⟨xs.length, by simp, Nat.zero_le _, List.length_replicate, h0⟩, ?_⟩
  rintro i m ys σ H ⟨rfl, hi, hn, p⟩
  have q := hl i ys H hi p
  by_cases hlt : i < xs.length
  · refine .inr ⟨⟨xs, xs[i], q, by simp [hlt]⟩, fun x H' y => ?_⟩
    obtain ⟨e, y⟩ := y
    subst e
    exact mg _ _ _ _ _ (fun σ3 H3 z => mt _ _ _ _ (fun y H4 ⟨z1, z2, z3, z4⟩ => ⟨z1, z2, xs.length - (i + 1), by omega, rfl, hlt, z3, z4⟩) z) (hs i x ys σ _ (y xs q) p hn)
  · have e : i = xs.length := by omega
    subst e
    exact .inl ⟨⟨xs, q, Nat.le_refl _⟩, hd ys H p⟩

/-! ### sum, is not True, isinstance -/
section
variable {X : Cx}
theorem call_sum (hc : X.A.handled = none) : CallR X (.builtin "sum") (fun xs H Q => ∃ (p : Addr) (ns : List Int), xs = [.ref p] ∧ SqL X.K H p (ns.map V.int) ∧ Q (.int ns.sum) H) := by
  intro pins s σ H xs us Q I r h
  obtain ⟨p, ns, rfl, hq, q⟩ := h
  obtain ⟨u, rfl, rx⟩ := vals1 r
  cases rx
  obtain ⟨its, rv, pl, hz⟩ := I.list hq
  have hi := intsAre_of rv
  obtain ⟨ys, hx⟩ := hi.allInts.items
  have hl : s.heap.IsList p (intItems ys) := hx ▸ pl.isList
  refine sum_intListG hc hl fun h' tk t' hk => ?_
  have e1 : ns = ys.toList.map (·.1) := by
    rw [← nums_intItems, ← hx]
    exact (show numsOf its.toArray.toList = ns from hi.numsOf).symm
  have e2 : preSum (numAt ys) ys.size = ns.sum := by
    rw [preSum_eq, List.take_of_length_le (by simp), e1]
  rw [e2]
  exact ⟨.int ns.sum, H, I.kept (t' := tk) hk, ⟨_, rfl⟩, q⟩
theorem call_isi : CallR X (.builtin "isinstance") (fun xs H Q => ∃ x c t b, xs = [x, .ty c] ∧ TyOf X.K H x t ∧ PySem.W.kitOne X.K t (.type c) = some b ∧ Q (.bl b) H) := by
  intro pins s σ H xs us Q I r h
  obtain ⟨x, c, t, b, rfl, ty, e, q⟩ := h
  obtain ⟨u, v, rfl, ru, rv⟩ := vals2 r
  cases rv
  exact isinst_ok I ru ty e fun tk => ⟨.bl b, H, I.tok tk, rfl, q⟩
end
end L2

set_option Elab.async false
set_option linter.all false
set_option maxRecDepth 100000
set_option maxHeartbeats 4000000
namespace L2
open PySem PySem.Spec PyProof.Rows
/-! ## more rules of my own: comprehensions that capture names, defs with defaults, small dicts, sets, lists compared -/
def cxCompC (X : Cx) (N : List Str) (scope : Scope) (cl : List (Str × Addr)) (fp : List Addr) (s : Shared) (H : Hp) : Cx where
  prog := X.prog
  w := X.w
  K := X.K
  mg := X.mg
  base := X.base
  A := X.A
  N := N
  s₀ := s
  H₀ := H
  env := compEnvC scope cl s.heap.objs.size X.env
  outer := X.stack
  stack := X.stack
  ex := fp
  fn := fun _ => false
  calm := X.calm
  pn := []
  xe := fun _ _ => False
/-- the captured names' values, by their slots in the def's own frame -/
def cap (js : List (Option Nat)) (σ : St) : St := js.map fun o => match o with
  | none => none
  | some j => (σ[j]?).getD none
/-- what is asked of the captured names -/
structure Caps (X : Cx) (N : List Str) (scope : Scope) (cl : List (Str × Addr)) (js : List (Option Nat)) : Prop where
  kind : scope.kind = .function
  nocell : ∀ x ∈ scope.names, x.2 ≠ .cell
  names : ∀ x ∈ scope.names, x.2 = .local → scope.names.lookup x.1 = some .local
  clos : closureFor scope X.env = pure cl
  sub : ∀ x c, cl.lookup x = some c → X.env.cells.lookup x = some c
  has : ∀ x, ((relabel scope X.env).names.lookup x = some .cell ∨ (relabel scope X.env).names.lookup x = some .free) → ∃ c, cl.lookup x = some c
  len : js.length = N.length
  slot : ∀ (i : Nat) (x : Str) (j : Nat), N[i]? = some x → js[i]? = some (some j) → X.N[j]? = some x ∧ X.env.scope.names.lookup x = some .cell ∧ (relabel scope X.env).names.lookup x = some .cell ∧ ∀ c, X.env.cells.lookup x = some c → cl.lookup x = some c
section
variable {X : Cx} {pins : List (Addr × Obj)} {σ : St} {H : Hp} {s : Shared} {N : List Str} {scope : Scope} {cl : List (Str × Addr)} {js : List (Option Nat)} {fp : List Addr}
theorem inv_compC {h' : Heap} {t' : Nat} {m : Str → Option Value} (I : Inv X pins σ H s) (C : Caps X N scope cl js)
    (hf : ∀ b ∈ fp, FpOk X pins H b) (hlt : ∀ b ∈ fp, b < s.heap.objs.size) (hn : h'.Ns s.heap.objs.size m) (hk : ∀ b o, s.heap.get? b = some o → h'.get? b = some o) :
    Inv (cxCompC X N scope cl fp s H) [] (cap js σ) H { s with heap := h', toks := t' } := by
  have sub : ∀ {x : Str} {c : Addr}, (cxCompC X N scope cl fp s H).env.cells.lookup x = some c → X.env.cells.lookup x = some c := fun {x c} e => C.sub x c e
  refine ⟨⟨I.ok.mod, C.kind, I.ok.glob, I.ok.blt, Nat.le_refl _, fun x y c e1 e2 => I.ok.inj x y c (sub e1) (sub e2), fun x hx => C.has x hx, fun x c e _ => (by cases e), I.qt, I.ok.frames, .inl rfl,
    fun b hb => ⟨Nat.ne_of_lt (hlt b hb), fun x c e => (hf b hb).2.2.2.2.1 x c (sub e)⟩, I.bs, Nat.le_trans I.ok.bsz I.sz, fun b o e hb => ?_, fun b hb hs => ?_, I.stack, I.stkFree⟩,
    rfl, I.bare, Un.kept hk, ⟨m, hn, fun i x v h1 h2 h3 => ?_⟩, fun x c e => ?_, I.hok.fresh (Nat.le_refl _), fun x c e => I.freeC x c (sub e), fun p hp => ?_, I.hok.kept hk, by unfold cap; rw [List.length_map]; exact C.len⟩
  · rcases (hf b hb).2.2.2.1 with z | z
    · exact I.ok.noex b o e z
    · exact absurd (Nat.lt_of_lt_of_le (Heap.lt_size e) (Nat.le_trans I.ok.bsz z)) (Nat.lt_irrefl _)
  · rcases List.mem_cons.mp (I.stkSub b hs) with z | z
    · exact (hf b hb).2.1 z
    · exact (hf b hb).2.2.1 z
  · unfold cap at h2
    rw [List.getElem?_map] at h2
    cases ej : js[i]? with
    | none => rw [ej] at h2; cases h2
    | some o =>
      rw [ej] at h2
      cases o with
      | none => cases h2
      | some j =>
        have h2' : (σ[j]?).getD none = some v := Option.some.inj h2
        obtain ⟨hj1, hk1, hk2, hc⟩ := C.slot i x j h1 ej
        have hj2 : σ[j]? = some (some v) := by
          cases e : σ[j]? with
          | none => rw [e] at h2'; cases h2'
          | some w' => rw [e] at h2'; exact congrArg some h2'
        obtain ⟨mo, hno, hl⟩ := I.loc
        obtain ⟨u, r, l⟩ := hl j x v hj1 hj2 (.inr (.inl hk1))
        refine ⟨u, r, ?_⟩
        rcases l with ⟨q, _⟩ | ⟨_, c, ec, o, ho, hd⟩
        · have q' : X.env.scope.names.lookup x = some .local := q
          rw [hk1] at q'; cases q'
        · exact .inr ⟨.inl hk2, c, hc c ec, o, hk c o ho, hd⟩
  · obtain ⟨v, o, ho, hd⟩ := I.cell x c (sub e)
    exact ⟨v, o, hk c o ho, hd⟩
  · exact absurd (show p ∈ ([] : List (Addr × Obj)) from hp) (by simp)
theorem compC_back {pins' : List (Addr × Obj)} {σ' : St} {H' : Hp} {s' : Shared} (I : Inv X pins σ H s) (hf : ∀ b ∈ fp, FpOk X pins H b) (I' : Inv (cxCompC X N scope cl fp s H) pins' σ' H' s') : Inv X pins σ H' s' :=
  I.call' (ch := fp) I'.os I'.base I'.hok I'.bare fun b hb => ⟨(hf b hb).2.2.2.1, (hf b hb).2.1, (hf b hb).2.2.2.2.1, (hf b hb).2.2.2.2.2⟩
end
def tCompCI (js : List (Option Nat)) (wi : TI) (g : TG) (tt : TT) (te : TE) : TE := fun σ H Q => wi σ H fun J H1 => ∀ l, H1 l = none → ∃ W : Nat → Nat → List V → St → Hp → Prop,
  (∃ m, W 0 m [] (cap js σ) (upd H1 l (.lst []))) ∧ ∀ i m ys σ' H', W i m ys σ' H' →
    (J.stop i H' ∧ Q (.ref l) H') ∨ (J.go i H' ∧ ∀ x H2, J.yld i H' x H2 → g x σ' H2 fun σ3 H3 => tt σ3 H3 fun c H5 => if c = true then te σ3 H5 fun y H4 =>
      H4 l = some (.lst ys) ∧ ys.length < sizeLine ∧ ∃ m', m' < m ∧ W (i + 1) m' (ys ++ [y]) σ3 (upd H4 l (.lst (ys ++ [y]))) else ∃ m', m' < m ∧ W (i + 1) m' ys σ3 H5)
/-! ### one core for all comprehensions -/
def LoopR (prog : Program) (w : World) (A : Around) (elt target iter : Expr) (cs : List Expr) (scope : Scope) (pos : Pos) (tw : Env → (Bool → Shared → Prop) → (Value → Shared → Prop) → Shared → Prop) : Prop :=
  ∀ (R : Result → Shared → Prop) (s : Shared) (it acc : Value) (env : Env) (J : Nat → Shared → Prop), (∀ n z, J n z → wpAny (model prog w) A (pyNext it) (fun r z1 => match r with
      | none => R (.ok .next) z1
      | some v => wpAny (model prog w) A (letOwnedTupleGo target it v) (fun _ z2 => wpAny (model prog w) A (assign target env v) (fun _ z3 => tw env (fun b z6 => if b = true then wpAny (model prog w) A (eval elt env) (fun x z4 =>
          wpAny (model prog w) A (call (.builtin "list.append") [acc, x]) (fun _ z5 => ∃ m, m < n ∧ J m z5)
            (notedBy (model prog w) A env fun e s' => R (.error e) s') z4) (notedBy (model prog w) A env fun e s' => R (.error e) s') z6 else ∃ m, m < n ∧ J m z6) (notedBy (model prog w) A env fun e s' => R (.error e) s') z3)
            (notedBy (model prog w) A env fun e s' => R (.error e) s') z2) (notedBy (model prog w) A env fun e s' => R (.error e) s') z1) (notedBy (model prog w) A env fun e s' => R (.error e) s') z) →
    ∀ n, J n s → codeAny (model prog w) A (.compLoop (.ListComp elt [⟨target, iter, cs, 0⟩] scope pos) 0 it acc env) R s
def twI (prog : Program) (w : World) (A : Around) (cnd : Expr) : Env → (Bool → Shared → Prop) → (Value → Shared → Prop) → Shared → Prop := fun env Q E z => wpAny (model prog w) A (isTrue cnd env (eval cnd env)) Q E z
def tw0 : Env → (Bool → Shared → Prop) → (Value → Shared → Prop) → Shared → Prop := fun _ Q _ z => Q true z
section
variable {prog : Program} {w : World} {A : Around}
theorem loopG {elt target iter : Expr} {cs : List Expr} {scope : Scope} {pos : Pos} {tw : Env → (Bool → Shared → Prop) → (Value → Shared → Prop) → Shared → Prop}
    (h : (∃ cnd, cs = [cnd] ∧ tw = twI prog w A cnd) ∨ (cs = [] ∧ tw = tw0)) : LoopR prog w A elt target iter cs scope pos tw := by
  intro R s it acc env J turn n h0
  refine codeAny_loop rfl J (fun k z hz => ?_) n h0
  show wpAny _ _ ((compTurn (.ListComp elt [⟨target, iter, cs, 0⟩] scope pos) 0 it acc env).onRaise (fun q => do noteFrame q env; theTreesLotGoes q)) _ _ z
  refine wpAny_noted ?_
  rw [compTurn_list]
  refine wpAny_bind (wpAny_standAt (wpAny_bind (wpAny_mono (turn k z hz) (fun r z1 g1 => ?_) fun _ _ q => q)))
  cases r with
  | none => exact wpAny_pure g1
  | some v =>
    refine wpAny_bind (wpAny_mono g1 (fun _ z2 g2 => wpAny_bind (wpAny_mono g2 (fun _ z3 g3 => ?_) fun _ _ q => q)) fun _ _ q => q)
    rcases h with ⟨cnd, rfl, rfl⟩ | ⟨rfl, rfl⟩
    · refine wpAny_bind (wpAny_tests_one (wpAny_mono g3 (fun b z6 g6 => ?_) fun _ _ q => q))
      cases b with
      | false => exact wpAny_pure ⟨rfl, g6⟩
      | true => exact wpAny_bind (wpAny_bind (wpAny_mono g6 (fun x z4 g4 => wpAny_bind (wpAny_mono g4 (fun _ z5 g5 => wpAny_pure (wpAny_pure ⟨rfl, g5⟩)) fun _ _ q => q)) fun _ _ q => q))
    · exact wpAny_bind (wpAny_pure (wpAny_bind (wpAny_bind (wpAny_mono g3 (fun x z4 g4 => wpAny_bind (wpAny_mono g4 (fun _ z5 g5 => wpAny_pure (wpAny_pure ⟨rfl, g5⟩)) fun _ _ q => q)) fun _ _ q => q))))
end
def PTw (X : Cx) (tw : Env → (Bool → Shared → Prop) → (Value → Shared → Prop) → Shared → Prop) (tt : TT) : Prop := ∀ pins s σ H (Q : Bool → Hp → Prop) (Q' : Bool → Shared → Prop) (E : Value → Shared → Prop), Inv X pins σ H s → tt σ H Q → (∀ b s', (∃ H', Inv X pins σ H' s' ∧ Q b H') → Q' b s') → tw X.env Q' E s
/-- no test -/
def ttT : TT := fun _ H Q => Q true H
theorem ptw_0 {X : Cx} : PTw X tw0 ttT := fun _ _ _ H _ _ _ I h k => k _ _ ⟨H, I, h⟩
theorem cap_none {N : List Str} {σ : St} : cap (N.map fun _ => none) σ = List.replicate N.length none := by
  unfold cap
  rw [List.map_map]
  exact List.map_const'
theorem caps0 {X : Cx} {N : List Str} {scope : Scope} (hkind : scope.kind = .function) (hfree : ∀ x ∈ scope.names, x.2 ≠ .free) (hcell : ∀ x ∈ scope.names, x.2 ≠ .cell) (hnames : ∀ x ∈ scope.names, x.2 = .local → scope.names.lookup x.1 = some .local) : Caps X N scope [] (N.map fun _ => none) := by
  have rl : ∀ x ∈ (relabel scope X.env).names, x ∈ scope.names := by
    intro x hx
    obtain ⟨⟨n, k⟩, m, e⟩ := List.mem_map.mp hx
    have hk : k ≠ .free := hfree _ m
    have : (k == NameKind.free) = false := by simpa using hk
    simp [this] at e
    rw [← e]
    exact m
  refine ⟨hkind, hcell, hnames, closureFor_none hfree, fun x c h => (by cases h), fun x h => ?_, List.length_map .., fun i x j h1 h2 => ?_⟩
  · rcases h with h | h
    · exact absurd rfl (hcell _ (rl _ (PySem.mem_of_lookup h)))
    · exact absurd rfl (hfree _ (rl _ (PySem.mem_of_lookup h)))
  · rw [List.getElem?_map] at h2
    cases e : N[i]? with
    | none => rw [e] at h2; cases h2
    | some y => rw [e] at h2; cases h2
theorem t0_of {N : List Str} {wi : TI} {g : TG} {te : TE} {σ : St} {H : Hp} {Q : VK} (h : tComp N.length wi g te σ H Q) : tCompCI (N.map fun _ => none) wi g ttT te σ H Q := by
  unfold tCompCI
  rw [cap_none]
  exact h
section
variable {X : Cx} {N : List Str} {scope : Scope} {cl : List (Str × Addr)} {js : List (Option Nat)} {elt cnd target iter : Expr} {cs : List Expr} {pos : Pos} {wi : TI} {g : TG} {tt : TT} {te : TE} {tw : Env → (Bool → Shared → Prop) → (Value → Shared → Prop) → Shared → Prop}
theorem compG_core {pins : List (Addr × Obj)} {σ : St} {H : Hp} {s : Shared} {Q : VK} {RR : Value → Addr → Result → Shared → Prop}
    (hc : X.calm = true) (Cp : Caps X N scope cl js)
    (hi : PI X target iter wi) (hg : ∀ fp s H, PG (cxCompC X N scope cl fp s H) target g) (LR : LoopR X.prog X.w X.A elt target iter cs scope pos tw) (ht : ∀ fp s H, PTw (cxCompC X N scope cl fp s H) tw tt) (he : ∀ fp s H, PE (cxCompC X N scope cl fp s H) elt te)
    (I : Inv X pins σ H s) (h : tCompCI js wi g tt te σ H Q)
    (hR : ∀ (l C : Addr) (H' : Hp) (s' : Shared), Inv X pins σ H' s' → FpOk X pins H' C → (∃ m, s'.heap.Ns C m) → Q (.ref l) H' → RR (.ref l) C (.ok .next) s') :
    wpAny (model X.prog X.w) X.A (eval iter X.env) (fun x s₁ => wpAny (model X.prog X.w) X.A (pyIter x) (fun it s₂ => wpAny (model X.prog X.w) X.A (newList []) (fun acc s₃ =>
      wpAny (model X.prog X.w) X.A (newFunctionEnv scope X.env.globals cl [] X.env.qual none .none (some X.env)) (fun cenv s₄ =>
        codeAny (model X.prog X.w) X.A (.compStart (.ListComp elt [⟨target, iter, cs, 0⟩] scope pos) 0 it acc { cenv with scope := relabel scope X.env }) (RR acc cenv.locals) s₄) X.xe s₃) X.xe s₂) X.xe s₁) X.xe s := by
  refine thn (hi pins s σ H _ I h) fun v s1 h1 => thn h1 fun itv s2 h2 => ?_
  obtain ⟨it, fp, tn, J, H2, e, I2, T, st2, f2, hw⟩ := h2
  subst e
  have hl2 : H2 s2.heap.objs.size = none := I2.hok.fresh (Nat.le_refl _)
  obtain ⟨W, ⟨m0, w0⟩, turn⟩ := hw s2.heap.objs.size hl2
  have lt2 : ∀ b ∈ fp, b < s2.heap.objs.size := fun b hb => let ⟨o, e, _⟩ := T.obj _ _ st2 b hb; Heap.lt_size e
  refine wpAny_newList ?_
  have I3 : Inv X pins σ (upd H2 s2.heap.objs.size (.lst [])) { s2 with heap := s2.heap.push { cls := .type "list", data := .seq ([] : List Value).toArray } } :=
    I2.laid (t' := s2.toks) (fun b u e => Heap.get?_push_of_some _ e) (Nat.le_refl _) ⟨Nat.zero_le _, [], 0, .nil, Heap.get?_push_size _ rfl⟩
  have st3 : tn 0 (s2.heap.push { cls := .type "list", data := .seq ([] : List Value).toArray }) := T.keep _ _ _ st2 fun b hb o e => Heap.get?_push_of_some _ e
  have lt3 : ∀ b ∈ fp, b < (s2.heap.push { cls := .type "list", data := .seq ([] : List Value).toArray }).objs.size := fun b hb => by rw [Heap.size_push]; exact Nat.lt_succ_of_lt (lt2 b hb)
  have f3 : ∀ b ∈ fp, FpOk X pins (upd H2 s2.heap.objs.size (.lst [])) b := fun b hb => ⟨by rw [upd_ne (Nat.ne_of_lt (lt2 b hb))]; exact (f2 b hb).1, (f2 b hb).2⟩
  generalize s2.heap.objs.size = l at *
  generalize upd H2 l (.lst []) = H3 at *
  have hs3 : ∃ s3 : Shared, s3 = { s2 with heap := s2.heap.push { cls := .type "list", data := .seq ([] : List Value).toArray } } := ⟨_, rfl⟩
  obtain ⟨s3, e3⟩ := hs3
  rw [← e3] at I3
  rw [← e3]
  have st3 : tn 0 s3.heap := by rw [e3]; exact st3
  have lt3 : ∀ b ∈ fp, b < s3.heap.objs.size := by rw [e3]; exact lt3
  clear e3
  refine wpAny_newFunctionEnv Cp.nocell (by intro y hy; simp at hy) (fun h4 hns hsb => ?_) Cp.kind
  have kp : ∀ b o, s3.heap.get? b = some o → h4.get? b = some o := fun b o e => hsb.extBut b o (Nat.ne_of_lt (Heap.lt_size e)) (Heap.get?_push_of_some _ e)
  have I4 := inv_compC (N := N) (t' := s3.toks + ([] : List (Str × Value)).length) I3 Cp f3 lt3 hns kp
  have st4 : tn 0 h4 := T.keep _ _ _ st3 fun b hb o e => kp b o e
  have stat : ∀ {H' : Hp}, (∀ b ∈ fp, H' b = none) → ∀ b ∈ fp, FpOk (cxCompC X N scope cl fp s3 H3) [] H' b := fun hn b hb =>
    ⟨hn b hb, (I4.ok.exf b hb).1, I4.ok.exfs b hb, .inl hb, (I4.ok.exf b hb).2, fun p hp => absurd (show p ∈ ([] : List (Addr × Obj)) from hp) (by simp)⟩
  have loop : codeAny (model X.prog X.w) X.A (.compLoop (.ListComp elt [⟨target, iter, cs, 0⟩] scope pos) 0 (.ref it) (.ref l) (compEnvC scope cl s3.heap.objs.size X.env)) (RR (.ref l) s3.heap.objs.size)
      { s3 with heap := h4, toks := s3.toks + ([] : List (Str × Value)).length } := by
    refine LR _ _ _ _ _ (fun n s' => ∃ i ys σ' H', Inv (cxCompC X N scope cl fp s3 H3) [] σ' H' s' ∧ tn i s'.heap ∧ (∀ b ∈ fp, H' b = none) ∧ W i n ys σ' H') ?_ m0 ⟨0, [], _, _, I4, st4, fun b hb => (f3 b hb).1, w0⟩
    rintro n s5 ⟨i, ys, σ5, H5, I5, st5, fr5, w5⟩
    rcases turn i n ys σ5 H5 w5 with ⟨stop, q⟩ | ⟨go, step⟩
    · refine thn (T.done (cxCompC X N scope cl fp s3 H3) rfl rfl rfl hc i [] s5 σ5 H5 _ I5 (stat fr5) st5 stop) fun r s6 ⟨hr, I6⟩ => ?_
      subst hr
      exact hR _ _ _ _ (compC_back I3 f3 I6) (I3.fpOk (Nat.le_refl _) I6.free) (let ⟨m, hn, _⟩ := I6.loc; ⟨m, hn⟩) q
    · refine thn (T.item (cxCompC X N scope cl fp s3 H3) rfl rfl rfl hc i [] s5 σ5 H5 _ I5 (stat fr5) st5 go) fun r s6 ⟨u, hr, h6⟩ => ?_
      subst hr
      refine thn h6 fun _ s7 ⟨x, H7, I7, r7, y7, st7, fr7⟩ => ?_
      have I7' := I7.pinned (stat fr7) (T.obj _ _ st7)
      refine wpAny_mono (hg fp s3 H3 _ s7 σ5 H7 x u _ I7' r7 (step x H7 y7)) (fun _ s8 ⟨σ8, H8, I8, q8⟩ => ?_) (fun _ _ z => False.elim z)
      refine ht fp s3 H3 _ s8 σ8 H8 _ _ _ I8 q8 fun bb s85 z85 => ?_
      obtain ⟨H85, I85, q85⟩ := z85
      cases bb with
      | false =>
        rw [if_neg Bool.false_ne_true] at q85 ⊢
        obtain ⟨m', hm', w9⟩ := q85
        refine ⟨m', hm', i + 1, ys, σ8, H85, I85.unpinned, T.keep _ _ _ st7 fun b hb o e => (I85.pin (b, o) (List.mem_append_right _ (List.mem_append_right _ (mem_pinsAt hb e)))).1, fun b hb => ?_, w9⟩
        obtain ⟨o, e, d⟩ := T.obj _ _ st7 b hb
        exact (I85.pin (b, o) (List.mem_append_right _ (List.mem_append_right _ (mem_pinsAt hb e)))).2.1
      | true =>
      rw [if_pos rfl] at q85 ⊢
      refine wpAny_mono (he fp s3 H3 _ s85 σ8 H85 _ I85 q85) (fun v s9 ⟨y, H9, I9, r9, hl9, hz9, m', hm', w9⟩ => ?_) (fun _ _ z => False.elim z)
      refine wpAny_mono (mt_append (X := cxCompC X N scope cl fp s3 H3) _ s9 σ8 H9 (.ref l) [y] (.ref l) [v] (fun z Hz => Hz = upd H9 l (.lst (ys ++ [y]))) I9 rfl (.cons r9 .nil) ⟨l, ys, y, rfl, rfl, hl9, hz9, rfl⟩)
        (fun _ s10 ⟨z, Hz, I10, _, eH⟩ => ?_) (fun _ _ z => False.elim z)
      subst eH
      refine ⟨m', hm', i + 1, ys ++ [y], σ8, _, I10.unpinned, T.keep _ _ _ st7 fun b hb o e => (I10.pin (b, o) (List.mem_append_right _ (List.mem_append_right _ (mem_pinsAt hb e)))).1, fun b hb => ?_, w9⟩
      obtain ⟨o, e, d⟩ := T.obj _ _ st7 b hb
      exact (I10.pin (b, o) (List.mem_append_right _ (List.mem_append_right _ (mem_pinsAt hb e)))).2.1
  exact codeAny_compStart_list loop (T.self X.A 0 _ _ _ st4 loop)
theorem pe_compG (hc : X.calm = true) (Cp : Caps X N scope cl js)
    (hi : PI X target iter wi) (hg : ∀ fp s H, PG (cxCompC X N scope cl fp s H) target g) (LR : LoopR X.prog X.w X.A elt target iter cs scope pos tw) (ht : ∀ fp s H, PTw (cxCompC X N scope cl fp s H) tw tt) (he : ∀ fp s H, PE (cxCompC X N scope cl fp s H) elt te)
    (hs : ∀ x, foldedSetIterable iter X.env x = pure x := by intro _; rfl) : PE X (.ListComp elt [⟨target, iter, cs, 0⟩] scope pos) (tCompCI js wi g tt te) := by
  intro pins s σ H Q I h
  rw [eval_ListComp]
  refine wpAny_comprehension_free (use := none) (Q := EP X pins σ Q) rfl hs Cp.clos Cp.kind Cp.names
    (compG_core (RR := fun acc C => compPost (model X.prog X.w) X.A X.xe none (EP X pins σ Q) acc C) hc Cp hi hg LR ht he I h ?_)
  rintro l C H' s' I' fC ⟨m, hn⟩ q
  exact ⟨m, hn, fun h' sb' => ⟨.ref l, H', I'.turned (t' := s'.toks) (fun b o hb e => (sb'.2 b hb).trans e) fC.1 fC.2.1 fC.2.2.2.1 fC.2.2.2.2.1 fC.2.2.2.2.2, rfl, q⟩⟩
theorem pe_comp  (hc : X.calm = true) (hkind : scope.kind = .function) (hfree : ∀ x ∈ scope.names, x.2 ≠ .free) (hcell : ∀ x ∈ scope.names, x.2 ≠ .cell) (hnames : ∀ x ∈ scope.names, x.2 = .local → scope.names.lookup x.1 = some .local) (hi : PI X target iter wi) (hg : ∀ fp s H, PG (cxCompC X N scope [] fp s H) target g)  (he : ∀ fp s H, PE (cxCompC X N scope [] fp s H) elt te)  (hs : ∀ x, foldedSetIterable iter X.env x = pure x := by intro _; rfl)  :
    PE X (.ListComp elt [⟨target, iter, [], 0⟩] scope pos) (tComp N.length wi g te) :=
  fun pins s σ H Q I h => pe_compG hc (caps0 hkind hfree hcell hnames) hi hg (loopG (.inr ⟨rfl, rfl⟩)) (fun _ _ _ => ptw_0) he  hs  pins s σ H Q I (t0_of h)
end
/-! ### defs with defaults -/
structure FunD (K : PySem.W.Frag) (x qual : Str) (st : Stmt) (dV : Value) (f : Addr) (fd : FuncData) : Prop where
  ex : ∃ (oc : Value) (od : Option Addr) (kV doc pm : Value) (an : Option Addr) (cdv ct : Value) (osl : Array (Option Value)),
    fd = PySem.W.fnOf x qual (defArgs st) (defBody st) (defScope st) dV kV doc pm an cdv ct ∧ K.lookup f = some ⟨oc, od, .func fd, osl⟩ ∧ PySem.W.codeIn K cdv qual = true
  kp : PySem.W.keepIn K (.ref f) = true
theorem FunD.ok {P : Program} {w : World} {K : PySem.W.Frag} {mg : Str → Option Value} {base : Heap} {x qual : Str} {st : Stmt} {dV : Value} {f : Addr} {fd : FuncData} {N ps : List Str} {k : Nat} {sp : Sp} (F : FunD K x qual st dV f fd) (S : FnScope N ps (defScope st)) (len : ∀ vs H Q E, sp vs H Q E → vs.length = ps.length)
    (hb : ∀ (cdv : Value) (A : Around) (outer : List Env) (s : Shared) (H : Hp) (vs : List V) (Q : VK) (E : XK), Room k (A.deeper (envOfC qual (defScope st) s.heap.objs.size f cdv)) → sp vs H Q E →
      ∃ t, PSs (cxOf CX0 P w K mg base N qual (defScope st) f cdv A outer s H E).nox (defBody st) t ∧ t { nx := fun _ H' => Q .non H', rt := Q } (start N vs) H) : FnOk P w K mg base CX0 (k + 1) f fd ps sp := by
  obtain ⟨oc, od, kV, doc, pm, an, cdv, ct, osl, rfl, lk, hcd⟩ := F.ex
  refine fn_of lk hcd S len fun A outer s H vs Q E hr hsp => ?_
  obtain ⟨t, h, q⟩ := hb cdv A outer s H vs Q E hr hsp
  exact ⟨t, h.nox, q⟩

/-! ### a dict of the two keys 8 and 16 -/
def Map2 (P : Program) (w : World) (h : Heap) (d : Addr) (a b : Int) : Prop := ∃ t t' : Tok, h.MapOf (intKind P w) d (valueAt [((8 : Int), Value.int a t), (16, .int b t')])
/-- .. of the text's top -/
def TabK (K : PySem.W.Frag) (d : Addr) (a b : Int) : Prop := (d == sysModules) = false ∧ ∃ (t1 t2 t3 t4 : Tok) (ep : Nat), K.lookup d = some ⟨.type "dict", none, .dict #[⟨8, .int 8 t1, .int a t2⟩, ⟨16, .int 16 t3, .int b t4⟩] ep, #[]⟩
theorem TabK.map {K : PySem.W.Frag} {d : Addr} {a b : Int} {h : Heap} (P : Program) (w : World) (T : TabK K d a b) (X : K.In h) : Map2 P w h d a b := by
  obtain ⟨_, t1, t2, t3, t4, ep, e⟩ := T
  refine ⟨t2, t4, _, _, ep, X _ _ e, ⟨rfl, rfl, rfl⟩, rfl, ?_, ?_⟩
  · intro en hen
    have hen' : en = ⟨8, .int 8 t1, .int a t2⟩ ∨ en = ⟨16, .int 16 t3, .int b t4⟩ := by simpa using hen
    rcases hen' with rfl | rfl
    · exact ⟨8, intKind_is P w 8 t1, by show (8 : Int) = hashInt 8; decide +kernel⟩
    · exact ⟨16, intKind_is P w 16 t3, by show (16 : Int) = hashInt 16; decide +kernel⟩
  · intro k
    show findBy Value.isInt _ k = _
    unfold findBy valueAt
    by_cases h8 : k = 8
    · subst h8; simp [Value.isInt]
    · by_cases h16 : k = 16
      · subst h16; simp [Value.isInt]
      · have e1 : ¬ (8 : Int) = k := fun z => h8 z.symm
        have e2 : ¬ (16 : Int) = k := fun z => h16 z.symm
        simp [Value.isInt, e1, e2]
section
variable {X : Cx} {pins : List (Addr × Obj)} {σ : St} {H : Hp} {s : Shared}
/-! ### lists of ints compared; sets -/
end
end L2

set_option Elab.async false
set_option linter.all false
set_option maxRecDepth 100000
namespace QQ
open PySem
section
variable {M : Model} {A : Around} {E : Value → Shared → Prop}
variable {nm q nm' q' : Str} {C N D N' : Addr} {bs bm bs' bm' : List Value} {hdct hdct' : Bool} {sn sn' : List Str} {sub sub' : List Value} {ab ab' : Bool} {col col' : Option Bool} {dd dd' : Option Addr} {k0 k1 k2 k3 k5 j0 j1 j2 j3 j5 : Option Value} {newId newId' : String}
/-- an own class at except, of which the error's own class is one -/
theorem exc_matches {h : Heap} {g : Array GenState} {d : Drawn} {t : Nat} {os : OsState} {e : Addr} {oe : Obj} {Q : Bool → Shared → Prop}
    (hC : h.get? C = some (excClassObj nm q C N bs bm hdct sn sub ab col dd k0 k1 k2 k3 k5 newId)) (hD : h.get? D = some (excClassObj nm' q' D N' bs' bm' hdct' sn' sub' ab' col' dd' j0 j1 j2 j3 j5 newId'))
    (he : h.get? e = some oe) (hcls : oe.cls = .ref C) (hbase : bm'.contains (.type "BaseException") = true) (hm : (Value.ref C :: bm).contains (.ref D) = true) (ne : C ≠ D)
    (hq : Q true ⟨h, g, d, t, os⟩) : wpAny M A (excMatches (.ref e) (.ref D)) Q E ⟨h, g, d, t, os⟩ := by
  have hcB : (Value.ref D :: bm').contains (.type "BaseException") = true := by rw [List.contains_cons, hbase, Bool.or_true]
  have f := tc_notTuple
  unfold excMatches
  repeat (first | (with_reducible refine wpAny_loadPart_at he ?_; rw [hcls]) | with_reducible refine wpAny_loadPart_at hD ?_ | (with_reducible refine wpAny_isSubtype_exc hD ?_; rw [hcB]) | (with_reducible refine wpAny_isSubtype_exc hC ?_; rw [hm]) | wp_step)
  exact hq
end
end QQ

set_option Elab.async false
set_option linter.all false
set_option maxRecDepth 100000
set_option maxHeartbeats 4000000
namespace L2
open PySem PySem.Spec PyProof.Rows QQ
/-! ## errors: how one lies behind a call, how it passes a def, raise, try -/
theorem ObjOk.there {P : Program} {w : World} {H : Hp} {h : Heap} {a : Addr} {o : HO} (x : ObjOk P w H h a o) : ∃ ob, h.get? a = some ob := by
  cases o with
  | lst xs => obtain ⟨_, _, _, _, e⟩ := x; exact ⟨_, e⟩
  | tup xs => obtain ⟨_, _, _, ob, e, _⟩ := x; exact ⟨_, e⟩
  | dK kvs => obtain ⟨_, _, _, _, o, _, _, e, _⟩ := x; exact ⟨_, e⟩
  | dT kvs => obtain ⟨_, _, _, _, o, _, _, e, _⟩ := x; exact ⟨_, e⟩
  | set S n => obtain ⟨o, _, _, _, e, _⟩ := x; exact ⟨_, e⟩
  | ins C dx fs => obtain ⟨_, _, _, e, _⟩ := x; exact ⟨_, e⟩
  | own y => exact x
  | xd fs => obtain ⟨_, ⟨_, _, _, e, _⟩, _⟩ := x; exact ⟨_, e⟩
  | rng lo hi => obtain ⟨_, _, _, e⟩ := x; exact ⟨_, e⟩
  | frz ob u => obtain ⟨e, _⟩ := x; exact ⟨_, e⟩
  | tbl ps => exact ⟨_, show h.get? a = some _ from x⟩
  | met f y => exact ⟨_, show h.get? a = some _ from x⟩
  | ext φ => obtain ⟨_, e, _⟩ := x; exact e
theorem HOk.gone {P : Program} {w : World} {H : Hp} {h : Heap} {a : Addr} (x : HOk P w H h) (e : h.get? a = none) : H a = none := by
  cases q : H a with
  | none => rfl
  | some u =>
    obtain ⟨ob, r⟩ := (x a u q).there
    rw [e] at r; cases r
/-- what stands behind an error that flies: nothing, or one that is known and new -/
def Bk (h0 : Heap) (H : Hp) (e : Addr) (c : Value) : Prop := BkH H e c ∧ ∀ b, c = .ref b → h0.get? b = none
/-- how an error lies behind a call -/
def CXD (D : Value → Prop) (P : Program) (w : World) : CXT := fun outer H s E e s' => ∃ ea cls fp H', e = .ref ea ∧ s'.os = s.os ∧ AllBare s'.gens ∧ Un (frs outer) [] H H' s.heap s'.heap ∧ HOk P w H' s'.heap ∧
  (∃ c, D c ∧ Fly s'.heap ea cls fp c ∧ Bk s.heap H' ea c) ∧ (∀ b ∈ fp, s.heap.get? b = none ∧ H' b = none) ∧ E cls none H'
/-- .. whatever stands behind it -/
abbrev CXE : Program → World → CXT := CXD fun _ => True
/-- .. nothing behind it -/
abbrev CX1 : Program → World → CXT := CXD fun c => c = .none
/-- what is new since the entry, tracked or not -/
structure NewA (X : Cx) (pins : List (Addr × Obj)) (b : Addr) : Prop where
  s0 : X.s₀.heap.get? b = none
  loc : b ≠ X.env.locals
  cel : ∀ x c, X.env.cells.lookup x = some c → c ≠ b
  pin : ∀ p ∈ X.pn ++ pins, p.1 ≠ b
/-- .. what stands behind an error -/
def BkX (X : Cx) (pins : List (Addr × Obj)) (H : Hp) (e : Addr) (c : Value) : Prop := BkH H e c ∧ ∀ b, c = .ref b → NewA X pins b
/-- what is new since the entry -/
structure New (X : Cx) (pins : List (Addr × Obj)) (H : Hp) (b : Addr) : Prop where
  s0 : X.s₀.heap.get? b = none
  h : H b = none
  loc : b ≠ X.env.locals
  cel : ∀ x c, X.env.cells.lookup x = some c → c ≠ b
  pin : ∀ p ∈ X.pn ++ pins, p.1 ≠ b
section
variable {X : Cx} {pins : List (Addr × Obj)} {σ : St} {H H' : Hp} {s : Shared}
theorem Inv.newA (I : Inv X pins σ H s) {b : Addr} (e : s.heap.get? b = none) (hx : b ∉ X.ex) : NewA X pins b := by
  refine ⟨?_, fun z => ?_, fun x c ec z => ?_, fun p hp z => ?_⟩
  · cases q : X.s₀.heap.get? b with
    | none => rfl
    | some o =>
      obtain ⟨o', r⟩ := I.base.there b o q hx
      rw [e] at r; cases r
  · obtain ⟨m, ⟨o, _, _, ho, _⟩, _⟩ := I.loc
    rw [← z, e] at ho; cases ho
  · obtain ⟨v, o, ho, _⟩ := I.cell x c ec
    rw [z, e] at ho; cases ho
  · have := (I.pin p hp).1
    rw [z, e] at this; cases this
theorem Inv.new (I : Inv X pins σ H s) {b : Addr} (e : s.heap.get? b = none) (n : H' b = none) (hx : b ∉ X.ex) : New X pins H' b :=
  let a := I.newA e hx
  ⟨a.s0, n, a.loc, a.cel, a.pin⟩
theorem New.ch {b : Addr} (n : New X pins H b) : (b ∈ X.ex ∨ X.s₀.heap.get? b = none) ∧ b ≠ X.env.locals ∧ (∀ x c, X.env.cells.lookup x = some c → c ≠ b) ∧ ∀ p ∈ X.pn ++ pins, p.1 ≠ b := ⟨.inr n.s0, n.loc, n.cel, n.pin⟩
/-- new records have changed, of the frames that run the slots -/
theorem Inv.landed {h' : Heap} {fp : List Addr} (I : Inv X pins σ H s) (hn : ∀ b ∈ fp, New X pins H b) (k : ∀ b o, s.heap.get? b = some o → b ∉ fp → b ∉ X.stack.filterMap (·.frame) → h'.get? b = some o)
    (sl : ∀ b o, s.heap.get? b = some o → b ∉ fp → ∃ z, h'.get? b = some { o with slots := z }) (th : ∀ b o, s.heap.get? b = some o → ∃ o', h'.get? b = some o') : Inv X pins σ H { s with heap := h' } := by
  have nf : ∀ b, b ∉ X.fs → b ≠ X.env.locals → b ∉ X.stack.filterMap (·.frame) := fun b h1 h2 z => by
    rcases List.mem_cons.mp (I.stkSub b z) with q | q
    · exact h2 q
    · exact h1 q
  have tr : ∀ b u, H b = some u → ∀ o, s.heap.get? b = some o → h'.get? b = some o := fun b u e o g => by
    refine k b o g (fun z => ?_) fun z => ?_
    · rw [(hn b z).h] at e; cases e
    · rw [I.stkFree b z] at e; cases e
  refine I.step0 (g' := s.gens) (d' := s.drawn) (t' := s.toks) (ch := fp) (fun b hb => (hn b hb).ch) (fun b o h1 h2 h3 g _ => k b o g h3 (nf b h2 h1)) (fun b o _ _ h3 g _ => sl b o g h3) (fun _ _ _ _ n => n) (fun b o _ g => th b o g)
    (fun _ _ e => e) (fun _ _ _ e => e) (fun b ps e => ⟨#[], by rw [e]; simp⟩) (fun m hm => ?_) (fun a o e => ?_) I.bare
  · obtain ⟨o, es, ep, ho, r⟩ := hm
    obtain ⟨z, q⟩ := sl _ o ho fun y => (hn _ y).loc rfl
    exact ⟨_, es, ep, q, r⟩
  · refine (I.hok a o e).stay (fun c v hc q => ?_) (fun _ q => q) fun _ _ q => q
    rcases hc with z | z
    · subst z; exact tr c _ e v q
    · exact tr c _ z v q
/-- the state behind a call that ended in an error -/
theorem Inv.thrown {D : Value → Prop} {E : XK} {e : Value} {s' : Shared} (I : Inv X pins σ H s) (hx : CXD D X.prog X.w X.stack H s E e s') (hX : X.ex = []) : ∃ ea cls fp H', e = .ref ea ∧ Inv X pins σ H' s' ∧ (∃ c, D c ∧ Fly s'.heap ea cls fp c ∧ BkX X pins H' ea c) ∧ (∀ b ∈ fp, New X pins H' b) ∧ E cls none H' := by
  obtain ⟨ea, cls, fp, H', rfl, os, bare, un, hok, ⟨c, dc, F, bk, bn⟩, fr, q⟩ := hx
  exact ⟨ea, cls, fp, H', rfl, I.call' (ch := []) os un hok bare (fun b z => absurd z (by simp)), ⟨c, dc, F, bk, fun b e => I.newA (bn b e) (by rw [hX]; simp)⟩, fun b hb => I.new (fr b hb).1 (fr b hb).2 (by rw [hX]; simp), q⟩
end
/-- out of a def -/
theorem passE {D : Value → Prop} {P : Program} {w : World} {K : PySem.W.Frag} {mg : Str → Option Value} {base : Heap} {N : List Str} {qual : Str} {scope : Scope} {f : Addr} {cd : Value} {A : Around} {outer : List Env} {s₀ : Shared} {H₀ : Hp} {E : XK} :
    Passes (CXD D P w) (cxOf (CXD D P w) P w K mg base N qual scope f cd A outer s₀ H₀ E) E := by
  intro pins σ H s e s' I hx
  obtain ⟨ea, cls, fp, H', rfl, I', ⟨c, dc, F, bk, bn⟩, fr, q⟩ := I.thrown hx rfl
  show wpAny (model P w) _ (leaving _ (.ref ea)) _ _ _
  unfold leaving
  refine wpAny_bind (land I'.ok.frames I'.stack rfl F fun h' T F' hT f3 f4 f5 => ?_)
  have J := I'.landed fr f3 f4 f5
  refine ⟨ea, cls, [ea, T], H', rfl, J.os, J.bare, J.base, J.hok, ⟨c, dc, F', bk, fun b e => (bn b e).s0⟩, fun b hb => ?_, q⟩
  rcases List.mem_cons.mp hb with hb | hb
  · subst hb
    have z := fr b F.here
    exact ⟨z.s0, z.h⟩
  · rw [List.mem_singleton] at hb
    subst hb
    refine ⟨?_, I'.hok.fresh hT⟩
    cases z : s₀.heap.get? b with
    | none => rfl
    | some o =>
      obtain ⟨o', r⟩ := I'.base.there b o z (by simp [cxOf])
      exact absurd (Nat.lt_of_lt_of_le (Heap.lt_size r) hT) (Nat.lt_irrefl _)
/-- where no error is wanted -/
theorem passF {D : Value → Prop} {X : Cx} {P : Program} {w : World} : Passes (CXD D P w) X E0 := fun _ _ _ _ _ _ _ ⟨_, _, _, _, _, _, _, _, _, _, _, q⟩ => q.elim
/-- THE RULE for a def that may raise -/
theorem Fun.okE {D : Value → Prop} {P : Program} {w : World} {K : PySem.W.Frag} {mg : Str → Option Value} {base : Heap} {x qual : Str} {st : Stmt} {f : Addr} {fd : FuncData} {N ps : List Str} {k : Nat} {sp : Sp} (F : Fun K x qual st f fd) (S : FnScope N ps (defScope st)) (len : ∀ vs H Q E, sp vs H Q E → vs.length = ps.length)
    (hb : ∀ (cdv : Value) (A : Around) (outer : List Env) (s : Shared) (H : Hp) (vs : List V) (Q : VK) (E : XK), Room k (A.deeper (envOfC qual (defScope st) s.heap.objs.size f cdv)) → sp vs H Q E →
      ∃ t, PSs (cxOf (CXD D P w) P w K mg base N qual (defScope st) f cdv A outer s H E) (defBody st) t ∧ t { nx := fun _ H' => Q .non H', rt := Q } (start N vs) H) : FnOk P w K mg base (CXD D P w) (k + 1) f fd ps sp := by
  obtain ⟨oc, od, kV, doc, pm, an, cdv, ct, osl, rfl, lk, hcd⟩ := F.ex
  exact fn_of lk hcd S len fun A outer s H vs Q E hr hsp => hb cdv A outer s H vs Q E hr hsp
theorem FunD.okE {D : Value → Prop} {P : Program} {w : World} {K : PySem.W.Frag} {mg : Str → Option Value} {base : Heap} {x qual : Str} {st : Stmt} {dV : Value} {f : Addr} {fd : FuncData} {N ps : List Str} {k : Nat} {sp : Sp} (F : FunD K x qual st dV f fd) (S : FnScope N ps (defScope st)) (len : ∀ vs H Q E, sp vs H Q E → vs.length = ps.length)
    (hb : ∀ (cdv : Value) (A : Around) (outer : List Env) (s : Shared) (H : Hp) (vs : List V) (Q : VK) (E : XK), Room k (A.deeper (envOfC qual (defScope st) s.heap.objs.size f cdv)) → sp vs H Q E →
      ∃ t, PSs (cxOf (CXD D P w) P w K mg base N qual (defScope st) f cdv A outer s H E) (defBody st) t ∧ t { nx := fun _ H' => Q .non H', rt := Q } (start N vs) H) : FnOk P w K mg base (CXD D P w) (k + 1) f fd ps sp := by
  obtain ⟨oc, od, kV, doc, pm, an, cdv, ct, osl, rfl, lk, hcd⟩ := F.ex
  exact fn_of lk hcd S len fun A outer s H vs Q E hr hsp => hb cdv A outer s H vs Q E hr hsp

/-! ### an own error class, by the text -/
abbrev bmV : List Value := [.type "ValueError", .type "Exception", .type "BaseException", .type "object"]
/-- the class at C is an error class of the text's own, under ValueError -/
def ExC (K : PySem.W.Frag) (C : Addr) : Prop := PySem.W.excIn K C bmV "ValueError.__new__" = true
theorem exC_obj {K : PySem.W.Frag} {C : Addr} (c : ExC K C) : ∃ bm N nm q bs hdct sn sub ab col dd k0 k1 k2 k3 k5, K.lookup C = some (excClassObj nm q C N bs bm hdct sn sub ab col dd k0 k1 k2 k3 k5 "ValueError.__new__") ∧
    PySem.W.clsIn K C = some ⟨nm, bs, .ref C :: bm, N, q, hdct, sn, sub, ab, col, false⟩ ∧ ∀ h : Heap, K.In h → (∃ mN, h.Ns N mN ∧ mN "__init__" = none) ∧ OwnTail h bmV bm := by
  unfold ExC PySem.W.excIn at c
  split at c
  · rename_i dd cd sl hl
    split at c
    · rename_i C1 bm k0 k1 k2 k3 n k5 hm hs
      simp only [Bool.and_eq_true, beq_iff_eq, Bool.not_eq_true'] at c
      obtain ⟨⟨⟨⟨⟨e1, e2⟩, hdel⟩, ht⟩, hok⟩, hni⟩ := c
      subst e1 e2
      obtain ⟨nm, bs, mro, ns, qn, hd, sn, sub, ab, col, del⟩ := cd
      dsimp only at hm hdel hok hni
      subst hm hdel
      have hsl : sl = #[k0, k1, k2, k3, some (.builtin "ValueError.__new__"), k5] := by
        obtain ⟨l⟩ := sl
        simp only at hs
        rw [hs]
      subst hsl
      refine ⟨bm, ns, nm, qn, bs, hd, sn, sub, ab, col, dd, k0, k1, k2, k3, k5, hl, by unfold PySem.W.clsIn; rw [hl], fun h X => ⟨⟨_, .of_isNs (PySem.W.isNs_of_in X hok), PySem.W.nsMap_none_of_in X hok hni⟩, PySem.W.tail_of_in X ht⟩⟩
    · cases c
  · cases c
/-! ### raise -/
def tRaise (C : Addr) (E : XK) (te : TE) : TS := fun _ σ H => te σ H fun _ H1 => E (.ref C) none H1
theorem ps_raise {D : Value → Prop} {X : Cx} {E : XK} {x : Str} {C : Addr} {e : Expr} {te : TE} {np cpos pos : Pos} (hx : Passes (CXD D X.prog X.w) X E) (hh : X.A.handled = none) (hg : Gl X x) (hm : X.mg x = some (.ref C)) (c : ExC X.K C) (he : PE X e te)
    (hst : starEach [e] X.env = (false, eval e X.env) :: starEach [] X.env := by rfl) (hd : (x == ("__debug__" : Str)) = false := by decide) (hD : D .none := by first | trivial | rfl) : PS X (.Raise (some (.Call (.Name x np) [e] [] cpos)) none pos) (tRaise C E te) := by
  intro pins s σ H D I h
  obtain ⟨bm, N, nm, q, bs, hdct, sn, sub, ab, col, dd, k0, k1, k2, k3, k5, hl, _, hf⟩ := exC_obj c
  obtain ⟨⟨mN, hN, hni⟩, T⟩ := hf X.base I.mod.kin
  refine wpAny_Raise_call_subT (C := C) (nm := nm) (q := q) (N := N) (bs := bs) (bm := bm) (hdct := hdct) (sn := sn) (sub := sub) (ab := ab) (col := col) (dd := dd) (k0 := k0) (k1 := k1) (k2 := k2) (k3 := k3) (k5 := k5)
    PySem.F.excBase_ValueError (mN := mN) (T.hasType (by decide +kernel)) hh (by rw [hst]; rfl) hni (ld_glob I hg hm ⟨rfl, ?_⟩ hd)
  rw [hst]
  refine Calls.evalArgs_plain (Calls.spliced_cons (thn (he pins s σ H _ I h) fun u s1 ⟨y, H1, I1, r1, q1⟩ => Calls.spliced_nil ?_))
  refine ⟨rfl, by show 1 ≤ sizeLine; decide, I1.kIn C _ hl, hN.keeps I1.bk, T.keeps I1.bk, fun h' ea md => ?_⟩
  exact hx pins σ H1 s1 _ _ I1 ⟨ea, _, [ea], H1, rfl, rfl, I1.bare, Un.kept md.keeps, I1.hok.kept md.keeps, ⟨_, hD, Fly.made md, .inl rfl, fun b e => nomatch e⟩, fun b hb => by
    rw [List.mem_singleton] at hb
    subst hb
    exact ⟨md.new, I1.hok.gone md.new⟩, q1⟩
end L2

set_option Elab.async false
set_option linter.all false
set_option maxRecDepth 100000
set_option maxHeartbeats 4000000
namespace L2
open PySem PySem.Spec PyProof.Rows QQ
/-! ## try .. except C as e -/
/-- the body of a try: the names are σ0 where an error may come -/
def cxTry (X : Cx) (pn : List (Addr × Obj)) (σ0 : St) (E : XK) (D : Value → Prop := fun _ => True) : Cx := { X with
  pn := pn
  xe := fun e s' => ∃ ea cls fp H', e = .ref ea ∧ Inv { X with pn := pn } [] σ0 H' s' ∧ (∃ c, D c ∧ Fly s'.heap ea cls fp c ∧ BkX { X with pn := pn } [] H' ea c) ∧ (∀ b ∈ fp, New { X with pn := pn } [] H' b) ∧ E cls none H' }
/-- the suite of the except: the error is in hand -/
def cxHand (X : Cx) (e : Addr) (G : Hp) : Cx := { X with
  A := X.A.mark (some (.ref e))
  H₀ := G
  xe := fun _ _ => False }
def PassesAt (CX : CXT) (X : Cx) (E : XK) (σ0 : St) : Prop := ∀ (pins : List (Addr × Obj)) (H : Hp) (s : Shared) (e : Value) (s' : Shared), Inv X pins σ0 H s → CX X.stack H s E e s' → X.xe e s'
section
variable {X : Cx} {pins pn : List (Addr × Obj)} {σ σ0 : St} {H : Hp} {s : Shared} {E : XK} {W : Value → Shared → Prop}
theorem Cx.Ok.repn (ok : X.Ok) (pn : List (Addr × Obj)) (W : Value → Shared → Prop) : Cx.Ok { X with pn := pn, xe := W } :=
  ⟨ok.mod, ok.kind, ok.glob, ok.blt, ok.above, ok.inj, ok.has, ok.cab, ok.hd, ok.frames, ok.stk, ok.exf, ok.bs, ok.bsz, ok.noex, ok.exfs, ok.funs, ok.frf⟩
theorem Cx.Ok.unpn (ok : Cx.Ok { X with pn := pn, xe := W }) : X.Ok :=
  ⟨ok.mod, ok.kind, ok.glob, ok.blt, ok.above, ok.inj, ok.has, ok.cab, ok.hd, ok.frames, ok.stk, ok.exf, ok.bs, ok.bsz, ok.noex, ok.exfs, ok.funs, ok.frf⟩
theorem Inv.lift (I : Inv X pins σ H s) (W : Value → Shared → Prop) : Inv { X with pn := X.pn ++ pins, xe := W } [] σ H s :=
  ⟨I.ok.repn _ W, I.os, I.bare, I.base, I.loc, I.cell, I.free, I.freeC, fun p hp => I.pin p (by simpa using hp), I.hok, I.len⟩
theorem Inv.unlift {pins' : List (Addr × Obj)} (I : Inv { X with pn := X.pn ++ pins, xe := W } pins' σ H s) : Inv X pins σ H s :=
  ⟨I.ok.unpn, I.os, I.bare, I.base, I.loc, I.cell, I.free, I.freeC, fun p hp => I.pin p (List.mem_append_left _ hp), I.hok, I.len⟩
theorem Inv.repn {W' : Value → Shared → Prop} (I : Inv { X with pn := pn, xe := W } pins σ H s) : Inv { X with pn := pn, xe := W' } [] σ H s :=
  ⟨I.ok.unpn.repn _ W', I.os, I.bare, I.base, I.loc, I.cell, I.free, I.freeC, fun p hp => I.pin p (by simp at hp; exact List.mem_append_left _ hp), I.hok, I.len⟩
theorem SP.unlift {D : Ends} {f : Flow} {s' : Shared} (h : SP { X with pn := X.pn ++ pins, xe := W } [] D f s') : SP X pins D f s' := by
  cases f with
  | next => obtain ⟨σ', H', I, q⟩ := h; exact ⟨σ', H', I.unlift, q⟩
  | brk => obtain ⟨σ', H', I, q⟩ := h; exact ⟨σ', H', I.unlift, q⟩
  | cont => obtain ⟨σ', H', I, q⟩ := h; exact ⟨σ', H', I.unlift, q⟩
  | ret u => obtain ⟨v, σ', H', I, r, q⟩ := h; exact ⟨v, σ', H', I.unlift, r, q⟩
theorem passT {D D' : Value → Prop} (hX : X.ex = []) (hD : ∀ c, D c → D' c := by exact fun _ h => by first | trivial | exact h) : PassesAt (CXD D X.prog X.w) (cxTry X pn σ0 E D') E σ0 := by
  intro pins H s e s' I hx
  obtain ⟨ea, cls, fp, H', rfl, I', F, fr, q⟩ := I.thrown hx hX
  obtain ⟨c, dc, F, bk, bn⟩ := F
  exact ⟨ea, cls, fp, H', rfl, I'.repn, ⟨c, hD c dc, F, bk, fun b e => let n := bn b e; ⟨n.s0, n.loc, n.cel, fun p hp => n.pin p (by simp at hp; exact List.mem_append_left _ hp)⟩⟩, fun b hb => let n := fr b hb; ⟨n.s0, n.h, n.loc, n.cel, fun p hp => n.pin p (by simp at hp; exact List.mem_append_left _ hp)⟩, q⟩
end
/-! ### calls in the body of a try -/
section
variable {X : Cx} {CX : CXT} {k : Nat} {f C : Addr} {fd : FuncData} {ps : List Str} {sp : Sp} {dvs : List V} {ds : List Value} {E : XK} {x m : Str} {p pos apos : Pos} {e o : Expr} {es : List Expr} {ta : TE} {t : TA} {σ0 : St}
def tAt (σ0 : St) (t : TE) : TE := fun σ H Q => σ = σ0 ∧ t σ H Q
theorem run_fnX {pins : List (Addr × Obj)} {H : Hp} {s : Shared} {Q : VK} {us : List Value} {vs : List V} (F : FnOk X.prog X.w X.K X.mg X.base CX k f fd ps sp) (hr : Room k X.A) (hb : Binds X.K fd ps ds) (hd : Vals dvs ds) (hx : PassesAt CX X E σ0)
    (I : Inv X pins σ0 H s) (r : Vals vs us) (h : sp (vs ++ dvs) H Q E) : wpAny (model X.prog X.w) X.A (call (.ref f) us) (EP X pins σ0 Q) X.xe s := by
  have r2 : Vals (vs ++ dvs) (us ++ ds) := r.append hd
  have hl : (us ++ ds).length = ps.length := by rw [← r2.length]; exact F.len _ _ _ _ h
  refine wpAny_call (codeAny_mono (F.run X.A X.stack s H ⟨us, []⟩ (us ++ ds) (vs ++ dvs) Q E hr I.env0 (hb s us I.kIn hl) r2 h) fun r s' hq => ?_)
  cases r with
  | error e => exact hx pins H s e s' I hq
  | ok fl =>
    cases fl with
    | ret u => exact I.after hq
    | next => exact False.elim hq
    | brk => exact False.elim hq
    | cont => exact False.elim hq
theorem pe_callX (F : FnOk X.prog X.w X.K X.mg X.base CX k f fd ps sp) (hr : Room k X.A) (hg : Gl X x) (hm : X.mg x = some (.ref f)) (hk : PySem.W.keepIn X.K (.ref f) = true) (hb : Binds X.K fd ps ds) (hd : Vals dvs ds) (hx : PassesAt CX X E σ0)
    (ha : PA X (e :: es) t) (hdb : (x == ("__debug__" : Str)) = false := by decide) (he : starEach (e :: es) X.env = (false, eval e X.env) :: starEach es X.env := by rfl) (hpl : (backTo pos (starEach es X.env)).any (·.1) = false := by rfl) :
    PE X (.Call (.Name x p) (e :: es) [] pos) (tAt σ0 (tCall sp dvs E t)) := by
  intro pins s σ H Q I h
  obtain ⟨rfl, h⟩ := h
  refine wpAny_Call_Name_kw (ld_glob I hg hm ?_ hdb)
  refine PySem.W.callWith_K (h₀ := X.base) I.ok.mod.kin hk (thn (ha pos pins s σ H _ I h) fun us s1 ⟨vs, H1, I1, r, q⟩ => ⟨I1.kIn, ?_⟩) he hpl
  exact run_fnX F hr hb hd hx I1 r q
end
/-! ### the suite of the except -/
section
variable {X : Cx} {pins : List (Addr × Obj)} {σ : St} {H : Hp} {s : Shared}
/-- an object that is tracked and new is known from here on -/
theorem Inv.know {b : Addr} {ob : Obj} (I : Inv X pins σ H s) (n : NewA X pins b) (hb : H b = some (.frz ob (.own b))) : Inv { X with H₀ := upd X.H₀ b (.frz ob (.own b)) } pins σ H s := by
  have neF : ∀ c ∈ X.fs, c ≠ b := fun c hc z => by
    obtain ⟨_, o, ho, _⟩ := I.ok.funs.mem hc
    rw [z, n.s0] at ho; cases ho
  have ne0 : ∀ c o, X.s₀.heap.get? c = some o → c ≠ b := fun c o q z => by rw [z, n.s0] at q; cases q
  have neB : ∀ c o, X.base.get? c = some o → c ≠ b := fun c o q => ne0 c o (I.ok.bs c o q).1
  refine ⟨⟨I.ok.mod, I.ok.kind, I.ok.glob, I.ok.blt, I.ok.above, I.ok.inj, I.ok.has, I.ok.cab, ?_, I.ok.frames, I.ok.stk, I.ok.exf, fun c o q => ⟨(I.ok.bs c o q).1, ?_⟩, I.ok.bsz, I.ok.noex, I.ok.exfs, I.ok.funs, fun c hc => ?_⟩,
    I.os, I.bare, ⟨fun c o q z hc hx => ?_, fun c o q z hc hx => ?_, fun c o q z hx => ?_, I.base.there, fun c xs q => ?_, fun c o u q => ?_, fun c ps q => ?_⟩, I.loc, I.cell, I.free, I.freeC, I.pin, I.hok, I.len⟩
  · rcases I.ok.hd with q | ⟨a, o, vs, c, e, f, d, z, k⟩
    · exact .inl q
    · have up : ∀ x o u, X.H₀ x = some (.frz o u) → upd X.H₀ b (.frz ob (.own b)) x = some (.frz o u) := fun x o u g => by
        by_cases hx : x = b
        · have := I.base.frzs _ _ _ g
          rw [hx, hb] at this
          rw [hx, upd_same]; exact this
        · rw [upd_ne hx]; exact g
      exact .inr ⟨a, o, vs, c, e, up _ _ _ f, d, z, k.keep up⟩
  · show upd X.H₀ b _ c = none
    rw [upd_ne (neB c o q)]; exact (I.ok.bs c o q).2
  · show upd X.H₀ b _ c = none
    rw [upd_ne (neF c hc)]; exact I.ok.frf c hc
  · have z' : upd X.H₀ b (.frz ob (.own b)) c = none := z
    rw [upd_ne (ne0 c o q)] at z'
    exact I.base.keep c o q z' hc hx
  · have z' : upd X.H₀ b (.frz ob (.own b)) c = none := z
    rw [upd_ne (ne0 c o q)] at z'
    exact I.base.slot c o q z' hc hx
  · have z' : upd X.H₀ b (.frz ob (.own b)) c = none := z
    rw [upd_ne (ne0 c o q)] at z'
    exact I.base.free c o q z' hx
  · have q' : upd X.H₀ b (.frz ob (.own b)) c = some (.tup xs) := q
    by_cases hc : c = b
    · rw [hc, upd_same] at q'; cases q'
    · rw [upd_ne hc] at q'; exact I.base.tups c xs q'
  · have q' : upd X.H₀ b (.frz ob (.own b)) c = some (.frz o u) := q
    by_cases hc : c = b
    · rw [hc] at q' ⊢
      rw [upd_same] at q'
      rw [hb]; exact q'
    · rw [upd_ne hc] at q'; exact I.base.frzs c o u q'
  · have q' : upd X.H₀ b (.frz ob (.own b)) c = some (.tbl ps) := q
    by_cases hc : c = b
    · rw [hc, upd_same] at q'; cases q'
    · rw [upd_ne hc] at q'; exact I.base.tbls c ps q'
theorem Inv.unknow {b : Addr} {ob : Obj} {σ1 : St} {H1 : Hp} {s1 : Shared} (I0 : Inv X pins σ H s) (n : NewA X pins b) (hb : H b = some (.frz ob (.own b))) (I : Inv { X with H₀ := upd X.H₀ b (.frz ob (.own b)) } pins σ1 H1 s1) : Inv X pins σ1 H1 s1 := by
  have ne0 : ∀ c u, X.s₀.heap.get? c = some u → c ≠ b := fun c u q z => by rw [z, n.s0] at q; cases q
  have tr : ∀ c, c ≠ b → upd X.H₀ b (.frz ob (.own b)) c = X.H₀ c := fun c hc => upd_ne hc
  refine ⟨I0.ok, I.os, I.bare, ⟨fun c u q z hc hx => I.base.keep c u q ((tr c (ne0 c u q)).trans z) hc hx, fun c u q z hc hx => I.base.slot c u q ((tr c (ne0 c u q)).trans z) hc hx, fun c u q z hx => I.base.free c u q ((tr c (ne0 c u q)).trans z) hx, I.base.there, fun c xs q => ?_, fun c u v q => ?_, fun c ps q => ?_⟩, I.loc, I.cell, I.free, I.freeC, I.pin, I.hok, I.len⟩
  · refine I.base.tups c xs ((tr c fun z => ?_).trans q)
    have := I0.base.tups c xs q
    rw [z, hb] at this; cases this
  · by_cases hc : c = b
    · have := I0.base.frzs c u v q
      rw [hc, hb] at this
      refine I.base.frzs c u v ?_
      show upd X.H₀ b (.frz ob (.own b)) c = _
      rw [hc, upd_same]; exact this
    · exact I.base.frzs c u v ((tr c hc).trans q)
  · refine I.base.tbls c ps ((tr c fun z => ?_).trans q)
    obtain ⟨m, this⟩ := I0.base.tbls c ps q
    rw [z, hb] at this; cases this
/-- what stands behind an error is known -/
theorem Inv.ready {e : Addr} {c : Value} (I : Inv X pins σ H s) (bk : BkX X pins H e c) : ∃ G : Hp, Inv { X with H₀ := G } pins σ H s ∧ BkH G e c ∧ ∀ σ1 H1 s1, Inv { X with H₀ := G } pins σ1 H1 s1 → Inv X pins σ1 H1 s1 := by
  obtain ⟨bk, bn⟩ := bk
  rcases bk with bk | ⟨b, ob, us, rfl, n, f, r⟩
  · exact ⟨X.H₀, I, .inl bk, fun _ _ _ z => z⟩
  · exact ⟨_, I.know (bn b rfl) f, .inr ⟨b, ob, us, rfl, n, upd_same, r⟩, fun _ _ _ z => I.unknow (bn b rfl) f z⟩
/-- the error is known from here on -/
theorem Inv.hand {e : Addr} {cls c : Value} {vs : Array Value} (I : Inv X pins σ H s) (n : New X pins H e) (g : s.heap.get? e = some (exO cls vs)) (h2 : vs[2]? = some c ∧ 6 ≤ vs.size) (bk : BkH X.H₀ e c) :
    Inv (cxHand X e (upd X.H₀ e (.frz (exO cls vs) (.own e)))) pins σ (upd H e (.frz (exO cls vs) (.own e))) s := by
  have neF : ∀ b ∈ X.fs, b ≠ e := fun b hb z => by
    obtain ⟨_, o, ho, _⟩ := I.ok.funs.mem hb
    rw [z, n.s0] at ho; cases ho
  have ne0 : ∀ b o, X.s₀.heap.get? b = some o → b ≠ e := fun b o q z => by rw [z, n.s0] at q; cases q
  have neB : ∀ b o, X.base.get? b = some o → b ≠ e := fun b o q => ne0 b o (I.ok.bs b o q).1
  have bk' : BkH (upd X.H₀ e (.frz (exO cls vs) (.own e))) e c := by
    rcases bk with bk | ⟨b, ob, us, e1, n1, f1, r⟩
    · exact .inl bk
    · exact .inr ⟨b, ob, us, e1, n1, (upd_ne n1).trans f1, r⟩
  refine ⟨⟨I.ok.mod, I.ok.kind, I.ok.glob, I.ok.blt, I.ok.above, I.ok.inj, I.ok.has, I.ok.cab, .inr ⟨e, _, vs, c, rfl, upd_same, rfl, h2, bk'⟩, I.ok.frames, I.ok.stk, I.ok.exf, fun b o q => ⟨(I.ok.bs b o q).1, ?_⟩, I.ok.bsz, I.ok.noex, I.ok.exfs, I.ok.funs, fun b hb => ?_⟩,
    I.os, I.bare, ⟨fun b o q z hb hx => ?_, fun b o q z hb hx => ?_, fun b o q z hx => ?_, I.base.there, fun b xs q => ?_, fun b o u q => ?_, fun b ps q => ?_⟩, I.loc, I.cell, ?_, fun x c ec => ?_, fun p hp => ?_, fun a o q => ?_, I.len⟩
  · show upd X.H₀ e _ b = none
    rw [upd_ne (neB b o q)]; exact (I.ok.bs b o q).2
  · show upd X.H₀ e _ b = none
    rw [upd_ne (neF b hb)]; exact I.ok.frf b hb
  · have z' : upd X.H₀ e (.frz (exO cls vs) (.own e)) b = none := z
    rw [upd_ne (ne0 b o q)] at z'
    exact I.base.keep b o q z' hb hx
  · have z' : upd X.H₀ e (.frz (exO cls vs) (.own e)) b = none := z
    rw [upd_ne (ne0 b o q)] at z'
    exact I.base.slot b o q z' hb hx
  · have z' : upd X.H₀ e (.frz (exO cls vs) (.own e)) b = none := z
    rw [upd_ne (ne0 b o q)] at z' ⊢
    exact I.base.free b o q z' hx
  · have q' : upd X.H₀ e (.frz (exO cls vs) (.own e)) b = some (.tup xs) := q
    by_cases hb : b = e
    · rw [hb, upd_same] at q'; cases q'
    · rw [upd_ne hb] at q' ⊢; exact I.base.tups b xs q'
  · have q' : upd X.H₀ e (.frz (exO cls vs) (.own e)) b = some (.frz o u) := q
    by_cases hb : b = e
    · rw [hb] at q' ⊢
      rw [upd_same] at q' ⊢; exact q'
    · rw [upd_ne hb] at q' ⊢; exact I.base.frzs b o u q'
  · have q' : upd X.H₀ e (.frz (exO cls vs) (.own e)) b = some (.tbl ps) := q
    by_cases hb : b = e
    · rw [hb, upd_same] at q'; cases q'
    · rw [upd_ne hb] at q' ⊢; exact I.base.tbls b ps q'
  · show upd H e _ X.env.locals = none
    rw [upd_ne (Ne.symm n.loc)]; exact I.free
  · rw [upd_ne (n.cel x c ec)]; exact I.freeC x c ec
  · obtain ⟨a1, a2, a3⟩ := I.pin p hp
    exact ⟨a1, by rw [upd_ne (n.pin p hp)]; exact a2, a3⟩
  · by_cases ha : a = e
    · subst ha
      rw [upd_same] at q
      cases q
      exact ⟨g, _, g⟩
    · rw [upd_ne ha] at q
      have nt : ∀ b u, H b = some u → b ≠ e := fun b u r z => by rw [z, n.h] at r; cases r
      exact (I.hok a o q).stay (fun b u _ r => r) (fun b r => by rw [upd_ne (nt b _ r)]; exact r) fun b xs r => by rw [upd_ne (nt b _ r)]; exact r
/-- out of the suite -/
theorem Inv.unhand {e : Addr} {o : Obj} {σ1 : St} {H1 : Hp} {s1 : Shared} (I0 : Inv X pins σ H s) (n : New X pins H e) (I : Inv (cxHand X e (upd X.H₀ e (.frz o (.own e)))) pins σ1 H1 s1) : Inv X pins σ1 H1 s1 := by
  have ne0 : ∀ b u, X.s₀.heap.get? b = some u → b ≠ e := fun b u q z => by rw [z, n.s0] at q; cases q
  have tr : ∀ b, b ≠ e → (cxHand X e (upd X.H₀ e (.frz o (.own e)))).H₀ b = X.H₀ b := fun b hb => upd_ne hb
  refine ⟨I0.ok, I.os, I.bare, ⟨fun b u q z hb hx => I.base.keep b u q ((tr b (ne0 b u q)).trans z) hb hx, fun b u q z hb hx => I.base.slot b u q ((tr b (ne0 b u q)).trans z) hb hx, fun b u q z hx => I.base.free b u q ((tr b (ne0 b u q)).trans z) hx, I.base.there, fun b xs q => ?_, fun b u v q => ?_, fun b ps q => ?_⟩, I.loc, I.cell, I.free, I.freeC, I.pin, I.hok, I.len⟩
  · refine I.base.tups b xs ((tr b fun z => ?_).trans q)
    have := I0.base.tups b xs q
    rw [z, n.h] at this; cases this
  · refine I.base.frzs b u v ((tr b fun z => ?_).trans q)
    have := I0.base.frzs b u v q
    rw [z, n.h] at this; cases this
  · refine I.base.tbls b ps ((tr b fun z => ?_).trans q)
    obtain ⟨m, this⟩ := I0.base.tbls b ps q
    rw [z, n.h] at this; cases this
/-- the error's name goes behind the suite -/
theorem Inv.nameGoes {M : Model} {A : Around} {E : Value → Shared → Prop} {Q : Unit → Shared → Prop} {i : Nat} {y : Str} {pos : Pos} (I : Inv X pins σ H s) (hN : X.N.Nodup) (hi : X.N[i]? = some y) (hl : X.env.scope.names.lookup y = some .local)
    (h : ∀ s', Inv X pins (σ.set i none) H s' → Q () s') : wpAny M A (do bindName X.env y .none; unbindBehindTheSuite X.env y pos) Q E s := by
  have hiσ : i < σ.length := by rw [I.len]; exact (List.getElem?_eq_some_iff.mp hi).1
  have hcls : (X.env.scope.kind == .class || (X.env.scope.kind == .module && X.env.locals != X.env.globals)) = false := by rw [I.ok.kind]; rfl
  have hk : X.env.kindOf y = some .local := hl
  refine wpAny_bind (wpAny_bindName (store_ok (v := .non) I hN hi (.inl hl) rfl (fun s1 I1 => ?_) (.inr hl)))
  unfold unbindBehindTheSuite
  refine wpAny_onRaise ?_
  unfold unbindName
  refine wpAny_bind (wpAny_point (wpAny_bind ?_))
  unfold deleteName
  simp only [hk, hcls]
  rw [if_neg (by decide)]
  obtain ⟨m, hn, hm⟩ := id I1.loc
  obtain ⟨u, ru, lk⟩ := hm i y .non hi (by rw [List.getElem?_set_self hiσ]) (.inl hl)
  have hmy : m y = some u := by
    rcases lk with ⟨_, q⟩ | ⟨q, _⟩
    · exact q
    · rw [hk] at q
      rcases q with q | q <;> cases q
  refine wpAny_bind (wpAny_nsDel_keeps hn fun h2 v hn2 hs2 => ?_)
  rw [hmy]
  simp only [if_true, Option.isSome_some, Bool.not_true, Bool.false_eq_true, if_false]
  refine wpAny_pure (wpAny_point (h _ ?_))
  obtain ⟨oL, _, _, hoL, _⟩ := id hn
  have ne0 : ∀ b o, X.s₀.heap.get? b = some o → b ≠ X.env.locals := fun b o e => Nat.ne_of_lt (Nat.lt_of_lt_of_le (Heap.lt_size e) I1.ok.above)
  refine ⟨I1.ok, I1.os, I1.bare, ⟨fun b o e n hb hx => (hs2.2 b (ne0 b o e)).trans (I1.base.keep b o e n hb hx), fun b o e n hb hx => ?_, I1.base.free, fun b o e hx => ?_, I1.base.tups, I1.base.frzs, I1.base.tbls⟩, ⟨_, hn2, fun j z v' e1 e2 e3 => ?_⟩, fun z c e => ?_, I1.free, I1.freeC, fun p hp => ?_, fun b ob e => ?_, by simpa using I.len⟩
  · obtain ⟨sl, e1⟩ := I1.base.slot b o e n hb hx
    exact ⟨sl, (hs2.2 b (ne0 b o e)).trans e1⟩
  · obtain ⟨o', e1⟩ := I1.base.there b o e hx
    exact ⟨o', (hs2.2 b (ne0 b o e)).trans e1⟩
  · have hj : j ≠ i := fun q => by rw [q, List.getElem?_set_self hiσ] at e2; cases e2
    rw [List.getElem?_set_ne (Ne.symm hj)] at e2
    obtain ⟨u', r', q⟩ := hm j z v' e1 (by rw [List.getElem?_set_ne (Ne.symm hj)]; exact e2) e3
    refine ⟨u', r', ?_⟩
    rcases q with ⟨kk, e⟩ | ⟨kk, c, e, zz⟩
    · refine .inl ⟨kk, ?_⟩
      have : z ≠ y := fun q => hj (nodup_ix hN e1 (q ▸ hi))
      simp [this, e]
    · exact .inr ⟨kk, c, e, zz.sameBut hs2 (I1.cne z c e)⟩
  · obtain ⟨w', q⟩ := I1.cell z c e
    exact ⟨w', q.sameBut hs2 (I1.cne z c e)⟩
  · obtain ⟨e, n, ne, nf, d⟩ := I1.pin p hp
    exact ⟨(hs2.2 p.1 ne).trans e, n, ne, nf, d⟩
  · refine (I1.hok b ob e).stay (fun c w' hc q => (hs2.2 c fun z => ?_).trans q) (fun _ q => q) fun _ _ q => q
    rcases hc with hc | hc
    · rw [← hc, z, I1.free] at e; cases e
    · rw [z, I1.free] at hc; cases hc
end
/-! ### the rule -/
/-- what is wanted behind the suite: the error's name is gone -/
def Dx (i : Nat) (D : Ends) : Ends := ⟨fun σ H => D.nx (σ.set i none) H, D.rt, fun σ H => D.bk (σ.set i none) H, fun σ H => D.ct (σ.set i none) H⟩
/-- try: body; except D as e: suite. An error of the class C, one of D's, is caught -/
def tTry (K : PySem.W.Frag) (D0 : Addr) (i : Nat) (tb : St → XK → TS) (th : TS) : TS := fun D σ H =>
  tb σ (fun cls _ H' => ∃ C, cls = .ref C ∧ ExC K C ∧ C ≠ D0 ∧ PySem.W.mroIn K C (.ref D0) = some true ∧
    ∀ e vs, H' e = none → th (Dx i D) (σ.set i (some (.ref e))) (upd H' e (.frz (exO (.ref C) vs) (.own e)))) D σ H
theorem ps_try {X : Cx} {x y : Str} {i : Nat} {D0 : Addr} {b₀ : Stmt} {body suite : List Stmt} {tb : St → XK → TS} {th : TS} {np hpos pos : Pos} (hN : X.N.Nodup) (hi : X.N[i]? = some y) (hl : X.env.scope.names.lookup y = some .local)
    (hg : Gl X x) (hm : X.mg x = some (.ref D0)) (hD : ExC X.K D0) (hst : X.stack = X.env :: X.outer) (hfr : X.env.frame = some X.env.locals) (hX : X.ex = [])
    (hb : ∀ pn σ0 E, PSs (cxTry X pn σ0 E) body (tb σ0 E)) (hh : ∀ e G, PSs (cxHand X e G) (b₀ :: suite) th) (hd : (x == ("__debug__" : Str)) = false := by decide) :
    PS X (.Try body [.ExceptHandler (some (.Name x np)) (some y) (b₀ :: suite) hpos] [] [] pos) (tTry X.K D0 i tb th) := by
  intro pins s σ H D I h
  refine wpAny_Try_except (wpAny_mono (hb (X.pn ++ pins) σ _ [] s σ H D (I.lift _) h) (fun f s1 q => ?_) fun e s1 q => ?_)
  · have q' : SP X pins D f s1 := SP.unlift q
    cases f with
    | next => exact wpAny_execs_nil q'
    | brk => exact q'
    | cont => exact q'
    | ret u => exact q'
  · obtain ⟨ea, cls, fp, H', rfl, I1, ⟨c, dc, F, bk, bn⟩, fr, C, rfl, cC, hne, hmro, q⟩ := q
    have I1 : Inv X pins σ H' s1 := Inv.unlift (W := X.xe) I1
    have fr : ∀ b ∈ fp, New X pins H' b := fun b hb => let n := fr b hb; ⟨n.s0, n.h, n.loc, n.cel, fun p hp => n.pin p (by simpa using hp)⟩
    have hf : X.A.frames = some (X.env :: X.outer) := hst ▸ I1.ok.frames
    refine land hf (hst ▸ I1.stack) hfr F fun h' T F' hT f3 f4 f5 => ?_
    have I2 := I1.landed fr (by rw [hst]; exact f3) f4 f5
    have nE : New X pins H' ea := fr ea F.here
    have nT : New X pins H' T := I1.new (by
      cases z : s1.heap.get? T with
      | none => rfl
      | some o => exact absurd (Nat.lt_of_lt_of_le (Heap.lt_size z) hT) (Nat.lt_irrefl _)) (I1.hok.fresh hT) (by rw [hX]; simp)
    obtain ⟨vs, ge, z2, ⟨_, r⟩ | ⟨T', oT, ts, _, neT, _, _, _, r⟩⟩ := id F'
    · cases r
    · cases r
      have q := q ea vs nE.h
      obtain ⟨G, I2', bk0, unk⟩ := I2.ready (e := ea) (c := c) ⟨bk, fun b e => let n := bn b e; ⟨n.s0, n.loc, n.cel, fun p hp => n.pin p (by simpa using hp)⟩⟩
      have nE' : New { X with H₀ := G } pins H' ea := ⟨nE.s0, nE.h, nE.loc, nE.cel, nE.pin⟩
      have I3 := I2'.hand nE' ge z2 bk0
      have uh : ∀ σ6 H6 s6, Inv (cxHand X ea (upd G ea (.frz (exO (.ref C) vs) (.own ea)))) pins σ6 H6 s6 → Inv X pins σ6 H6 s6 := fun _ _ _ z => unk _ _ _ (Inv.unhand I2' nE' z)
      generalize hG3 : upd G ea (.frz (exO (.ref C) vs) (.own ea)) = G3 at *
      generalize hH3 : upd H' ea (.frz (exO (.ref C) vs) (.own ea)) = H3 at *
      refine wpAny_handleBy_cons (codeAny_handlers_test (ld_glob (X := cxHand X ea G3) I3 hg hm ?_ hd)) (by intro q; cases q)
      obtain ⟨bm, N, nm, qn, bs, hdct, sn, sub, ab, col, dd, k0, k1, k2, k3, k5, hlC, hcC, _⟩ := exC_obj cC
      obtain ⟨bm', N', nm', qn', bs', hdct', sn', sub', ab', col', dd', j0, j1, j2, j3, j5, hlD, _, hfD⟩ := exC_obj hD
      have hmem : (Value.ref C :: bm).contains (.ref D0) = true := by
        unfold PySem.W.mroIn at hmro
        rw [hcC] at hmro
        simpa using hmro
      have T' := (hfD _ I2.kIn).2
      obtain ⟨hh1, gg, dr, tk, os1⟩ := s1
      refine exc_matches (I2.kIn C _ hlC) (I2.kIn D0 _ hlD) ge rfl (T'.hasType (by decide +kernel)) hmem hne (codeAny_handlers_suite_as ?_)
      refine land_again F' fun h4 F4 k4 => ?_
      have nT3 : New (cxHand X ea G3) pins H3 T := ⟨nT.s0, by rw [← hH3, upd_ne neT]; exact nT.h, nT.loc, nT.cel, nT.pin⟩
      have I4 := I3.landed (h' := h4) (fp := [T]) (fun b hb => by rw [List.mem_singleton] at hb; rw [hb]; exact nT3) (fun b o g hb _ => k4 b o g fun z => hb (by simp [z])) (fun b o g hb => ⟨o.slots, k4 b o g fun z => hb (by simp [z])⟩) (fun b o g => by
        by_cases hb : b = T
        · obtain ⟨o', us, g', _⟩ := F4.rec T (by simp)
          exact ⟨o', by rw [hb]; exact g'⟩
        · exact ⟨o, k4 b o g hb⟩)
      refine store_ok (X := cxHand X ea G3) (v := .ref ea) I4 hN hi (.inl hl) rfl (fun s5 I5 => ?_) (.inr hl)
      refine wpAny_mono (hh ea G3 pins s5 _ H3 (Dx i D) I5 q) (fun f s6 q6 => ?_) fun _ _ z => False.elim z
      cases f with
      | next =>
        obtain ⟨σ6, H6, I6, q7⟩ := q6
        exact (uh _ _ _ I6).nameGoes hN hi hl fun s' I8 => ⟨_, _, I8, q7⟩
      | brk =>
        obtain ⟨σ6, H6, I6, q7⟩ := q6
        exact (uh _ _ _ I6).nameGoes hN hi hl fun s' I8 => ⟨_, _, I8, q7⟩
      | cont =>
        obtain ⟨σ6, H6, I6, q7⟩ := q6
        exact (uh _ _ _ I6).nameGoes hN hi hl fun s' I8 => ⟨_, _, I8, q7⟩
      | ret u =>
        obtain ⟨v, σ6, H6, I6, r, q7⟩ := q6
        exact (uh _ _ _ I6).nameGoes hN hi hl fun s' I8 => ⟨v, _, _, I8, r, q7⟩
theorem Room.hand {j k : Nat} {A : Around} {v : Option Value} (r : Room k A) (h : j ≤ k) (h30 : j < 30) : Room j (A.mark v) :=
  ⟨fun z => absurd z (Nat.not_le.mpr h30), by have := r.dp; show A.depth + _ + 5 < _; omega, by have := r.un; show A.units + _ + 200 < _; omega, r.gd⟩
/-! ### isinstance of an error in hand -/
/-- what of the text an error class must have for isinstance -/
structure ExI (K : PySem.W.Frag) (C : Addr) : Prop where
  ga : PySem.W.findIn K (.ref C) "__getattribute__" = some (some (.builtin "BaseException.__getattribute__"))
  gt : PySem.W.findIn K (.ref C) "__getattr__" = some none
  hd : PySem.W.hasDictIn K C = true
  ha : PySem.W.findIn K (.ref C) "__class__" = some (some (.builtin "object.__class__"))
  hn : PySem.W.specialIn K (.builtin "object.__class__") "__get__" = some (some (.builtin "getset_descriptor.__get__"))
  htk : PySem.W.takesIn K (.builtin "object.__class__") = some true
  hm : PySem.W.mroIn K C (.type "object") = some true
  be : PySem.W.mroIn K C (.type "BaseException") = some true
theorem ga_check {M : Model} {A : Around} {E : Value → Shared → Prop} {h : Heap} {g : Array GenState} {d : Drawn} {t : Nat} {os : OsState} {x : Addr} {nv : Value} {Q : Unit → Shared → Prop} (L : PySem.W.Looks M h (isInstance (.ref x) (.type "BaseException")) true)
    (hq : Q () ⟨h, g, d, t, os⟩) : wpAny M A (checkBuiltinCall "BaseException.__getattribute__" ⟨[.ref x, nv], []⟩) Q E ⟨h, g, d, t, os⟩ := by
  have hk : builtinKind "BaseException.__getattribute__" = some .slot := by decide +kernel
  have hsplit : splitId "BaseException.__getattribute__" = some ("BaseException", "__getattribute__") := by decide +kernel
  have ha := PySem.F.args_bexc_ga (.ref x) nv
  simp only [checkBuiltinCall, hk, hsplit]
  refine wpAny_bind (L.at ?_)
  repeat (first | exact hq | wp_step)
theorem ga_entry {prog : Program} {w : World} {A : Around} {E : Value → Shared → Prop} {h : Heap} {g : Array GenState} {d : Drawn} {t : Nat} {os : OsState} {K : PySem.W.Frag} {x C : Addr} {ox : Obj} {tk : Tok} {Q : Fin → Shared → Prop} (Y : K.In h) (I : PySem.W.InstAt h x ox C none)
    (L3 : PySem.W.Looks (model prog w) h (Builtin.ObjectAttr.find (.ref x) (.ref C) "__class__") (.bind (.builtin "getset_descriptor.__get__") (.builtin "object.__class__"))) (hm : PySem.W.mroIn K C (.type "object") = some true)
    (hq : Q (.done (.ret (.ref C))) ⟨h, g, d, t, os⟩) : wpAny (model prog w) A (Builtin.«object.__getattribute__» ⟨[.ref x, .str "__class__" tk], []⟩) Q E ⟨h, g, d, t, os⟩ := by
  have L0 := I.type (M := model prog w)
  refine wpAny_bind (wpAny_bind (wpAny_pure (wpAny_pure ?_)))
  refine wpAny_bind (wpAny_pure (wpAny_bind (L0.at (wpAny_bind (L3.at ?_)))))
  show wpAny _ _ (holding [Value.builtin "object.__class__"] (call (.builtin "getset_descriptor.__get__") [.builtin "object.__class__", .ref x, .ref C]) >>= ret) _ _ _
  exact wpAny_bind (wpAny_holding (wpAny_call (PySem.W.class_get (s := ⟨h, g, d, t, os⟩) (ox := ox) (od := none) Y I hm (wpAny_pure hq))))
theorem exc_class {prog : Program} {w : World} {A : Around} {E : Value → Shared → Prop} {s : Shared} {K : PySem.W.Frag} {x C : Addr} {ox : Obj} {Q : Option Value → Shared → Prop} (c : ExI K C) (Y : K.In s.heap) (I : PySem.W.InstAt s.heap x ox C none)
    (h : Q (some (.ref C)) { s with toks := s.toks + 1 }) : wpAny (model prog w) A (getAttr? (.ref x) "__class__") Q E s := by
  have hf : PySem.W.findObj K C none "__class__" = some (.bind (.builtin "getset_descriptor.__get__") (.builtin "object.__class__")) := by
    obtain ⟨cd, hc, _⟩ := PySem.W.any_some c.hd
    unfold PySem.W.findObj
    rw [hc, Option.bind_some, c.ha, Option.bind_some]
    simp [c.hn, c.htk]
  obtain ⟨hh, g, d, t, os⟩ := s
  have L0 := I.type (M := model prog w)
  have L1 := PySem.W.looks_findIn (M := model prog w) Y c.ga
  have L2 := PySem.W.looks_findIn (M := model prog w) Y c.gt
  have L3 := PySem.W.looks_find (M := model prog w) Y I hf
  have L4 := PySem.W.looks_mroIn (M := model prog w) Y c.be
  unfold getAttr? getAttrBy? getAttrBy
  refine wpAny_bind (wpAny_mkText (wpAny_bind (wpAny_attempt (wpAny_holding (wpAny_bind (L0.at (wpAny_bind (L1.at ?_))))))))
  show wpAny _ _ (getAttrByItsOwn _ _ _ _ _ _) _ _ _
  unfold getAttrByItsOwn
  refine wpAny_bind (show wpAny _ _ (typeLookup (.ref C) "__getattr__") _ _ _ from L2.at ?_)
  refine wpAny_bind (wpAny_attempt (wpAny_holding ?_))
  show wpAny _ _ (boundAndCalled _ _ _) _ _ _
  unfold boundAndCalled
  refine wpAny_bind (wpAny_of_eq (PySem.F.attr_ValueError.ga.bind _) ?_)
  refine wpAny_call (codeAny_call_builtin PySem.F.attr_ValueError.ga.plain PySem.F.entry_bexc_ga ?_)
  refine ga_check (L0.andThen L4) (ga_entry Y I L3 c.hm ?_)
  show wpAny _ _ (handedOut (.ref C)) _ _ _
  exact wpAny_pure (wpAny_pure h)
theorem kitx_err {K : PySem.W.Frag} {x C : Addr} {vs : Array Value} (c : ExI K C) : PySem.W.KitX K (.ref x) (.ref C) (fun h => PySem.W.InstAt h x (exO (.ref C) vs) C none) where
  ty := fun _ _ _ I => I.type
  it := fun M h Y _ => by
    obtain ⟨cd, hc, _⟩ := PySem.W.any_some c.hd
    unfold PySem.W.clsIn at hc
    split at hc
    · rename_i ho
      intro A' Q' E' s' k q
      unfold isType loadHead
      exact wpAny_bind (wpAny_loadPart (k _ _ (Y _ _ ho)) (wpAny_pure q))
    · cases hc
  ne := fun h tp dd its n sl Y htp => by
    obtain ⟨cd, hc, _⟩ := PySem.W.any_some c.hd
    refine Bool.eq_false_iff.mpr fun q => ?_
    have e : C = tp := Value.ref.inj (beq_iff_eq.mp q)
    subst e
    unfold PySem.W.clsIn at hc
    split at hc
    · rename_i ho
      have z := (Y _ _ ho).symm.trans htp
      cases z
    · cases hc
  ca := fun Y I k => exc_class c Y I k
section
variable {X : Cx}
/-- the class, own or built-in, as a value -/
def clsV : Value → V
  | .ref a => .ref a
  | .type n => .ty n
  | _ => .non
theorem call_isiE : CallR X (.builtin "isinstance") (fun xs H Q => ∃ a C vs c b, xs = [.ref a, clsV c] ∧ (∃ n, c = .ref n ∨ ∃ t, c = .type t) ∧ H a = some (.frz (exO (.ref C) vs) (.own a)) ∧ ExI X.K C ∧ PySem.W.kitOne X.K (.ref C) c = some b ∧ Q (.bl b) H) := by
  intro pins s σ H xs us Q I r h
  obtain ⟨a, C, vs, c, b, rfl, hc, hf, ci, e, q⟩ := h
  obtain ⟨u, v, rfl, ru, rv⟩ := vals2 r
  cases ru
  have ev : v = c := by
    obtain ⟨n, hc | ⟨t, hc⟩⟩ := hc
    · subst hc; exact rv
    · subst hc; exact rv
  subst ev
  obtain ⟨g, _⟩ := I.hok a _ hf
  exact PySem.W.kia_one (kitx_err (vs := vs) ci) I.kIn ⟨g, rfl, rfl, trivial⟩ e (fun z => nomatch z) fun tk => ⟨.bl b, H, I.tok tk, rfl, q⟩
end
end L2

set_option Elab.async false
set_option linter.all false
set_option maxRecDepth 100000
set_option maxHeartbeats 4000000
namespace L2
open PySem PySem.Spec PyProof.Rows QQ
/-! ## comprehensions with a test -/
/-! ### tuples of texts compared -/
end L2

set_option Elab.async false
set_option linter.all false
set_option maxRecDepth 100000
set_option maxHeartbeats 4000000
namespace L2
open PySem
theorem fn_of0 {CX : CXT} {P : Program} {w : World} {K : PySem.W.Frag} {mg : Str → Option Value} {base : Heap} {f : Addr} {name qual : Str} {params : Arguments} {body : List Stmt} {scope : Scope} {dV kV doc pm cdv ct oc : Value} {an od : Option Addr}
    {osl : Array (Option Value)} {N ps : List Str} {sp : Sp} (lk : K.lookup f = some ⟨oc, od, .func (PySem.W.fnOf name qual params body scope dV kV doc pm an cdv ct), osl⟩) (hcd : PySem.W.codeIn K cdv qual = true) (S : FnScope N ps scope)
    (len : ∀ vs H Q E, sp vs H Q E → vs.length = ps.length)
    (hbody : ∀ (A : Around) (outer : List Env) (s : Shared) (H : Hp) (vs : List V) (Q : VK) (E : XK), sp vs H Q E →
      ∃ t, PSs (cxOf CX P w K mg base N qual scope f cdv A outer s H E) body t ∧ t { nx := fun _ H' => Q .non H', rt := Q } (start N vs) H) :
    FnOk P w K mg base CX 0 f (PySem.W.fnOf name qual params body scope dV kV doc pm an cdv ct) ps sp := by
  refine ⟨len, fun A outer s H args us vs Q E hr e0 hb r hsp => ?_⟩
  have hl := len _ _ _ _ hsp
  have KX : K.In s.heap := e0.mod.kin.keeps fun b o e => (e0.bs b o e).1
  have lim : s.heap.NoLimit := e0.mod.nolimit.keeps fun b o e => (e0.bs b o e).1
  have hkind : ∀ y ∈ ps.zip us, scope.names.lookup y.1 = some .local ∨ (scope.names.lookup y.1 = some .cell ∧ ((cellsFrom (s.heap.objs.size + 1) scope.names []).lookup y.1).isSome = true) := fun ⟨n, v⟩ hy => by
    rcases S.par n (List.of_mem_zip hy).1 with q | q
    · exact .inl q
    · exact .inr ⟨q, PySem.W.cellsFrom_some _ _ _ (.inl q)⟩
  refine codeAny_call_function hr.depth (KX _ _ lk) rfl S.co S.gen rfl (PySem.W.codeRec_of KX hcd) (hb _ _ _ _ ?_)
  refine wpAny_newFunctionEnv_cells S.kind hkind fun env he s1 x => ?_
  subst he
  refine ⟨lim.keeps x.toInCall.keep, codeAny_func ?_⟩
  obtain ⟨t, ht, hq⟩ := hbody A outer s H vs Q E hsp
  have I : Inv (cxOf CX P w K mg base N qual scope f cdv A outer s H E) [] (start N vs) H s1 := inv_start S e0 hl r x
  refine wpAny_mono (ht [] s1 (start N vs) H _ I hq) (fun fl s' hs => ?_) fun e s' hs => hs
  have fin : ∀ {σ' : St} {H' : Hp} {v : V} {u : Value}, Inv (cxOf CX P w K mg base N qual scope f cdv A outer s H E) [] σ' H' s' → RelV v u → Q v H' → CE outer P w H s Q u s' :=
    fun {σ' H' v u} J rv q => ⟨v, H', J.os, J.bare, J.base, J.hok, rv, q⟩
  cases fl with
  | ret u =>
    obtain ⟨v, σ', H', J, rv, q⟩ := hs
    exact fin J rv q
  | next =>
    obtain ⟨σ', H', J, q⟩ := hs
    exact fin (v := V.non) (u := Value.none) J rfl q
  | brk =>
    obtain ⟨_, _, _, q⟩ := hs
    exact False.elim q
  | cont =>
    obtain ⟨_, _, _, q⟩ := hs
    exact False.elim q
theorem Fun.ok0 {P : Program} {w : World} {K : PySem.W.Frag} {mg : Str → Option Value} {base : Heap} {x qual : Str} {st : Stmt} {f : Addr} {fd : FuncData} {N ps : List Str} {sp : Sp} (F : Fun K x qual st f fd) (S : FnScope N ps (defScope st)) (len : ∀ vs H Q E, sp vs H Q E → vs.length = ps.length)
    (hbody : ∀ (cdv : Value) (A : Around) (outer : List Env) (s : Shared) (H : Hp) (vs : List V) (Q : VK) (E : XK), sp vs H Q E →
      ∃ t, PSs (cxOf CX0 P w K mg base N qual (defScope st) f cdv A outer s H E).nox (defBody st) t ∧ t { nx := fun _ H' => Q .non H', rt := Q } (start N vs) H) : FnOk P w K mg base CX0 0 f fd ps sp := by
  obtain ⟨oc, od, kV, doc, pm, an, cdv, ct, osl, rfl, lk, hcd⟩ := F.ex
  refine fn_of0 lk hcd S len fun A outer s H vs Q E hsp => ?_
  obtain ⟨t, h, q⟩ := hbody cdv A outer s H vs Q E hsp
  exact ⟨t, h.nox, q⟩
end L2

set_option Elab.async false
set_option linter.all false
set_option maxRecDepth 100000
set_option maxHeartbeats 4000000
namespace L2
open PySem PySem.Spec PyProof.Rows QQ
/-! ### rules by the K at hand; statements one by one -/
theorem seq_g {t u : TS} {D : Ends} {σ : St} {H : Hp} (h : ∀ R : St → Hp → Prop, (∀ σ H, u D σ H → R σ H) → t { D with nx := R } σ H) : tSeq t u D σ H := h (u D) fun _ _ z => z
theorem take_cut (xs : List V) (k : Nat) : cutV xs none (some ((k : Nat) : Int)) = xs.take k := by
  unfold cutV
  rw [HT.sIx_none, HT.sIx_nat, List.drop_zero, Nat.sub_zero]
  by_cases h : k ≤ xs.length
  · rw [Nat.min_eq_left h]
  · rw [Nat.min_eq_right (by omega), List.take_length, List.take_of_length_le (by omega)]
theorem drop_cut (xs : List V) (k : Nat) : cutV xs (some ((k : Nat) : Int)) none = xs.drop k := by
  unfold cutV
  rw [HT.sIx_none, HT.sIx_nat]
  by_cases h : k ≤ xs.length
  · rw [Nat.min_eq_left h, ← List.length_drop, List.take_length]
  · rw [Nat.min_eq_right (by omega), List.drop_length, List.drop_of_length_le (by omega), List.take_nil]
theorem none_of {H H' : Hp} (s : Same H H') {q : Addr} (h : H' q = none) : H q = none := by
  cases e : H q with
  | none => rfl
  | some o => rw [s _ _ e] at h; cases h
theorem same_new {H : Hp} {p : Addr} {o : HO} (h : H p = none) : Same H (upd H p o) := fun b u e => by
  rw [upd_ne (ne_of_none e h)]; exact e
/-! ### [elt for target in iter if cnd] as a value -/
section
variable {X : Cx}
/-! ### t[a:] of a tuple -/
/-! ### lists of tuples of plain things compared, the same ones -/
theorem eqV_self : ∀ x : V, flatV x = true → eqV x x = true := by
  intro x h
  cases x <;> simp [flatV, eqV] at h ⊢
theorem eqAt_tup {pins : List (Addr × Obj)} {σ : St} {H : Hp} {s : Shared} (I : Inv X pins σ H s) {a b : Addr} {xs : List V} (ha : SqT X.K H a xs) (hb : SqT X.K H b xs) (fl : xs.all flatV = true) {A : Around} (hu : A.units < cLine) : SeqAt.EqAt A s (.ref a) (.ref b) true := by
  by_cases e : a = b
  · subst e; exact .same _
  · obtain ⟨its, rv, pl, hz⟩ := I.tuple ha
    obtain ⟨its2, rv2, pl2, hz2⟩ := I.tuple hb
    have l1 := rv.length
    have l2 := rv2.length
    refine .of_refs e ?_
    have R := SeqAt.RcAt.tuples (A := A) (e := fun _ => true) (show s.heap.IsTuple a its.toArray from pl) (show s.heap.IsTuple b its2.toArray from pl2) hu (fun j h1 h2 => ?_)
    · have e2 : ((List.range (min its.toArray.size its2.toArray.size)).all (fun _ => true) && its.toArray.size == its2.toArray.size) = true := by
        rw [List.size_toArray, List.size_toArray, ← l1, ← l2]; simp
      rw [e2] at R
      exact R
    · have j1 : j < xs.length := by simp at h1; omega
      obtain ⟨u1, e1, r1⟩ := rv.get (i := j) (x := xs[j]) (by simp [j1])
      obtain ⟨u2, e2, r2⟩ := rv2.get (i := j) (x := xs[j]) (by simp [j1])
      have g1 : its.toArray[j] = u1 := by
        obtain ⟨_, z⟩ := List.getElem?_eq_some_iff.mp e1
        simpa using z
      have g2 : its2.toArray[j] = u2 := by
        obtain ⟨_, z⟩ := List.getElem?_eq_some_iff.mp e2
        simpa using z
      have f1 : flatV xs[j] = true := List.all_eq_true.mp fl _ (List.getElem_mem j1)
      rw [g1, g2, ← eqV_self _ f1]
      exact eqAt_V r1 r2 f1 f1
end
end L2

set_option Elab.async false
set_option linter.all false
set_option maxRecDepth 100000
set_option maxHeartbeats 4000000
namespace L2
open PySem PySem.Spec PyProof.Rows QQ
section
variable {X : Cx}
/-! ### try, where nothing is raised -/
/-! ### xs += ys of lists -/
theorem inI_list_add : typeLookup (.type "list") (dunderI "add") = pure (some (.builtin "list.__iadd__")) := PySem.F.slot_list_iadd.lookup
theorem seqI_list_add : seqSlot? (.type "list") (dunderI "add") = pure (some (.builtin "list.__iadd__")) := PyProof.Rows.seqSlot_of inI_list_add (by decide +kernel)
theorem inplace_list {M : Model} {A : Around} {E : Value → Shared → Prop} {s : Shared} {a b : Value} {Q : Value → Shared → Prop} (ha : s.TypeIs a "list") (hb : s.TypeIs b "list")
    (hc : wpAny M A (call (.builtin "list.__iadd__") [a, b]) Q E s) : wpAny M A (inplaceOp .Add a b) Q E s := by
  unfold inplaceOp
  refine wpAny_holding ?_
  have hfi : fillsInplaceSlot (.type "list") "add" (Operator.Add == .Add) = pure false := by
    unfold fillsInplaceSlot
    show (typeLookup (.type "list") (dunderI "add") >>= fun fi => pure (fi.isSome && !isSeqSlot fi)) = pure false
    rw [inI_list_add, pure_bind, show isSeqSlot (some (.builtin "list.__iadd__")) = true by decide +kernel]
    rfl
  refine wpAny_bind (wpAny_typeOf ha (wpAny_bind (wpAny_of_eq hfi ?_)))
  show wpAny M A (if false = true then _ else _) Q E s
  rw [if_neg Bool.false_ne_true]
  refine wpAny_bind (PyProof.Rows.binaryOp1_none (nm := "add") ha hb PySem.noFill_list_add ?_)
  refine wpAny_bind (wpAny_of_eq seqI_list_add ?_)
  exact wpAny_bind (wpAny_rule hc)
def ipL : TIp := fun x y H Q => ∃ l b xs zs, x = .ref l ∧ y = .ref b ∧ H l = some (.lst xs) ∧ H b = some (.lst zs) ∧ xs.length + zs.length ≤ sizeLine ∧ Q (.ref l) (upd H l (.lst (xs ++ zs)))
theorem ip_lcat : PIp X .Add ipL := by
  intro pins s σ H x y v u Q I rx ry h
  obtain ⟨l, b, xs, zs, rfl, rfl, hH, hB, hz, q⟩ := h
  cases rx
  cases ry
  obtain ⟨z, its, n, r, hl, e⟩ := I.lstM hH
  obtain ⟨z2, its2, n2, r2, hl2, e2⟩ := I.lstM hB
  have hsz : its.toArray.size + its2.toArray.size ≤ sizeLine := by rw [List.size_toArray, List.size_toArray]; omega
  have hlong : ¬ (!its.toArray.isEmpty && Builtin.List.listTooLong (its.toArray.size + its2.toArray.size)) = true := by
    rw [notLongL hsz, Bool.and_false]
    exact Bool.false_ne_true
  refine inplace_list ⟨_, e, rfl⟩ ⟨_, e2, rfl⟩ (call_meets PySem.F.slot_list_iadd ⟨_, e, rfl⟩ PySem.F.entry_list_iadd (PySem.F.args_list_iadd_2 _ _)
    (AutoSeq1.list___iadd___list_list_0 l its.toArray n b its2.toArray n2 hlong (by rw [List.size_toArray]; omega) (by omega)) ⟨e, e2, ?_⟩)
  refine ⟨.ref l, _, I.lset (its' := its ++ its2) hH e (by simp) (r.append r2) ?_, rfl, q⟩
  rw [List.length_append]
  omega
end
end L2

set_option Elab.async false
set_option linter.all false
set_option maxRecDepth 100000
set_option maxHeartbeats 4000000
namespace QQ
open PySem PyProof.Rows
section
variable {prog : Program} {w : World} {A : Around} {E : Value → Shared → Prop} {s : Shared}
end
end QQ
namespace L2
open PySem PySem.Spec PyProof.Rows QQ
/-! ### zip of two lists -/
/-! ### t != u of tuples of plain things, the same ones -/
/-! ### lists of lists of ints compared, the same ones -/
end L2

set_option Elab.async false
set_option linter.all false
set_option maxRecDepth 100000
set_option maxHeartbeats 4000000
namespace L2
open PySem PySem.Spec PyProof.Rows QQ
/-! ### comprehensions with captured names, with a test, as values -/
end L2

set_option Elab.async false
set_option linter.all false
set_option maxRecDepth 100000
namespace QQ
open PySem PyProof.Rows
section
variable {prog : Program} {w : World} {A : Around} {E : Value → Shared → Prop} {s : Shared}
end
end QQ

namespace L2
open PySem PySem.Spec PyProof.Rows
/-! ### a text's signs, one by one -/
section
variable {X : Cx} {tg : Expr}
/-! ### range(a, b, c) -/
/-! ### texts of the signs 0 and 1 -/
/-! ### slices of texts -/
/-! ### '0' * n -/
end
end L2

set_option Elab.async false
set_option linter.all false
set_option maxRecDepth 100000
set_option maxHeartbeats 4000000
namespace L2
open PySem PySem.Spec PyProof.Rows QQ
/-! ### t != u: a tuple of one text or truth, and such a one -/
end L2

set_option Elab.async false
set_option linter.all false
set_option maxRecDepth 100000
set_option maxHeartbeats 4000000
namespace L2
open PySem PySem.Spec PyProof.Rows QQ
/-! ### {} and the value None, True, False by `is not` -/
section
variable {X : Cx} {pos : Pos}
end
end L2

set_option Elab.async false
set_option linter.all false
set_option maxRecDepth 100000
set_option maxHeartbeats 4000000
namespace L2
open PySem PySem.Spec PyProof.Rows QQ
/-! ### xs[::-1] -/
section
variable {X : Cx} {e e1 : Expr} {te t1 : TE} {pos p2 : Pos}
end
end L2

set_option Elab.async false
set_option linter.all false
set_option maxRecDepth 100000
set_option maxHeartbeats 4000000
namespace L2
open PySem PySem.Spec PyProof.Rows QQ
section
variable {X : Cx} {a b : Expr} {rest : List Expr} {ta tb : TE} {pos : Pos}
/-! ### all(truths), all of them true; (a list) or .. -/
end
end L2

set_option Elab.async false
set_option linter.all false
set_option maxRecDepth 100000
set_option maxHeartbeats 4000000
namespace L2
open PySem PySem.Spec PyProof.Rows QQ
/-! ### one of two readings -/
/-! ### C() without an __init__ of its own -/
structure MkB (K : PySem.W.Frag) (C : Addr) : Prop where
  makes : PySem.W.makesIn K C = true
  init : PySem.W.findIn K (.ref C) "__init__" = some (some (.builtin "object.__init__"))
  kp : PySem.W.keepIn K (.ref C) = true
section
variable {X : Cx}
/-! ### isinstance of an own class -/
/-! ### lists of lists of numbers, or of None, that are the same -/
end
end L2

set_option Elab.async false
set_option linter.all false
set_option maxRecDepth 100000
set_option maxHeartbeats 4000000
namespace L2
open PySem PySem.Spec PyProof.Rows QQ
section
variable {X : Cx}
end
end L2

set_option Elab.async false
set_option linter.all false
set_option maxRecDepth 100000
set_option maxHeartbeats 2000000
namespace L2
open PySem PyProof.Rows
/-- a record that may turn -/
theorem Inv.turn {X : Cx} {pins : List (Addr × Obj)} {σ : St} {H : Hp} {s : Shared} {a : Addr} {g : Obj → Obj} (I : Inv X pins σ H s) (fa : FpOk X pins H a) : Inv X pins σ H { s with heap := s.heap.update a g } :=
  I.turned (t' := s.toks) (fun b o hb e => by rw [Heap.get?_update_ne _ _ _ _ hb]; exact e) fa.1 fa.2.1 fa.2.2.2.1 fa.2.2.2.2.1 fa.2.2.2.2.2
end L2

set_option Elab.async false
set_option linter.all false
set_option maxRecDepth 100000
set_option maxHeartbeats 2000000
namespace L2
open PySem PyProof.Rows QQ
/-! ### as a rule of the layer -/
inductive PR : List (Value × Value) → List (Int × V) → Prop
  | nil : PR [] []
  | cons {k v : Value} {n : Int} {x : V} {l : List (Value × Value)} {m : List (Int × V)} : (∃ t, k = .int n t) → RelV x v → PR l m → PR ((k, v) :: l) ((n, x) :: m)
section
variable {X : Cx} {k : Nat} {f : Addr} {fd : FuncData} {x : Str} {sp : Sp} {e : Expr} {te : TE} {fe : Expr} {p kp pos : Pos} {y : Str}
end
end L2

set_option Elab.async false
set_option linter.all false
set_option maxRecDepth 100000
set_option maxHeartbeats 2000000
namespace L2
open PySem PyProof.Rows QQ
section
variable {X : Cx}
end
end L2

set_option Elab.async false
set_option linter.all false
set_option maxRecDepth 100000
set_option maxHeartbeats 4000000
namespace L2
open PySem PySem.Spec PyProof.Rows QQ
section
variable {X : Cx}
/-! ### list.index of a number in a list of numbers -/
end
end L2

set_option Elab.async false
set_option linter.all false
set_option maxRecDepth 100000
set_option maxHeartbeats 4000000
namespace QQ
open PySem PyProof.Rows
section
variable {prog : Program} {w : World} {A : Around} {E : Value → Shared → Prop} {s : Shared}
end
end QQ
namespace L2
open PySem PySem.Spec PyProof.Rows QQ
/-! ### enumerate -/
end L2

set_option Elab.async false
set_option linter.all false
set_option maxRecDepth 100000
set_option maxHeartbeats 4000000
namespace L2
open PySem PySem.Spec PyProof.Rows QQ
section
variable {X : Cx}
/-! ### lists with the same things in them, by themselves or as tuples of plain ones -/
def EqG (K : PySem.W.Frag) (H : Hp) (x y : V) : Prop := (x = y ∧ (flatV x = true ∨ ∃ a, x = .ref a)) ∨ ∃ (a b : Addr) (xs : List V), x = .ref a ∧ y = .ref b ∧ SqT K H a xs ∧ SqT K H b xs ∧ xs.all flatV = true
def SameGs (K : PySem.W.Frag) (H : Hp) (p q : Addr) : Prop := ∃ xs ys : List V, SqL K H p xs ∧ SqL K H q ys ∧ xs.length = ys.length ∧ ∀ (i : Nat) (x y : V), xs[i]? = some x → ys[i]? = some y → EqG K H x y
theorem sameGs_at {pins : List (Addr × Obj)} {σ : St} {H : Hp} {s : Shared} (I : Inv X pins σ H s) {p q : Addr} (h : SameGs X.K H p q) {A : Around} (hu : A.units < cLine) : ∃ its its2 : List Value, s.heap.IsList p its.toArray ∧ s.heap.IsList q its2.toArray ∧ its.toArray.size = its2.toArray.size ∧ ∀ j (h1 : j < its.toArray.size) (h2 : j < its2.toArray.size), SeqAt.EqAt A s its.toArray[j] its2.toArray[j] true := by
  obtain ⟨xs, ys, h1, h2, hl, hi⟩ := h
  obtain ⟨its, rv, pl, hz⟩ := I.list h1
  obtain ⟨its2, rv2, pl2, hz2⟩ := I.list h2
  have l1 := rv.length
  have l2 := rv2.length
  refine ⟨its, its2, pl.isList, pl2.isList, by rw [List.size_toArray, List.size_toArray]; omega, fun j j1 j2 => ?_⟩
  have k1 : j < xs.length := by simp at j1; omega
  have k2 : j < ys.length := by omega
  obtain ⟨u1, e1, r1⟩ := rv.get (i := j) (x := xs[j]) (by simp [k1])
  obtain ⟨u2, e2, r2⟩ := rv2.get (i := j) (x := ys[j]) (by simp [k2])
  have g1 : its.toArray[j] = u1 := by
    obtain ⟨_, z⟩ := List.getElem?_eq_some_iff.mp e1
    simpa using z
  have g2 : its2.toArray[j] = u2 := by
    obtain ⟨_, z⟩ := List.getElem?_eq_some_iff.mp e2
    simpa using z
  rw [g1, g2]
  rcases hi j xs[j] ys[j] (by simp [k1]) (by simp [k2]) with ⟨z1, f | ⟨a, z2⟩⟩ | ⟨a, b, zs, z1, z2, q1, q2, fl⟩
  · rw [← z1] at r2
    rw [← eqV_self _ f]
    exact eqAt_V r1 r2 f f
  · rw [← z1] at r2
    rw [z2] at r1 r2
    cases r1
    cases r2
    exact SeqAt.EqAt.same _
  · rw [z1] at r1
    rw [z2] at r2
    cases r1
    cases r2
    exact eqAt_tup I q1 q2 fl hu
def rNeGs (K : PySem.W.Frag) : R2 := fun x y H Q => ∃ (p q : Addr), x = .ref p ∧ y = .ref q ∧ SameGs K H p q ∧ Q (.bl false) H
theorem op_neGs (hu : X.A.units + 64 < cLine) : OpR X (compareOp .NotEq) (rNeGs X.K) := by
  intro pins s σ H x y v u Q I rx ry h
  obtain ⟨p, q, rfl, rfl, h, k⟩ := h
  cases rx
  cases ry
  obtain ⟨its, its2, pl, pl2, hz, he⟩ := sameGs_at (A := X.A.in1) I h (by show X.A.units + 1 < _; omega)
  refine SeqAt.RcNeAt.lists (e := fun _ => true) pl pl2 hz (by omega) he _ _ _ _ ?_
  refine ⟨.bl false, H, I, ?_, k⟩
  show Value.bool _ = Value.bool _
  simp
def rEqGs (K : PySem.W.Frag) : R2 := fun x y H Q => ∃ (p q : Addr), x = .ref p ∧ y = .ref q ∧ SameGs K H p q ∧ Q (.bl true) H
theorem op_eqGs (hu : X.A.units + 64 < cLine) : OpR X (compareOp .Eq) (rEqGs X.K) := by
  intro pins s σ H x y v u Q I rx ry h
  obtain ⟨p, q, rfl, rfl, h, k⟩ := h
  cases rx
  cases ry
  obtain ⟨its, its2, pl, pl2, hz, he⟩ := sameGs_at (A := X.A.in1) I h (by show X.A.units + 1 < _; omega)
  refine SeqAt.RcAt.lists (e := fun _ => true) pl pl2 hz (by omega) he _ _ _ _ ?_
  refine ⟨.bl true, H, I, ?_, k⟩
  show Value.bool _ = Value.bool _
  simp
/-! ### list.count of a number in a list of numbers -/
/-! ### one of two readings of an operator; {} != itself -/
/-! ### for i, x in enumerate(list) -/
/-! ### [.. for x in range(..) if ..] with captured names -/
end
/-! ### (a, b) != (c, d) of numbers -/
end L2

set_option Elab.async false
set_option linter.all false
set_option maxRecDepth 100000
set_option maxHeartbeats 4000000
namespace L2
open PySem PySem.Spec PyProof.Rows QQ
section
variable {X : Cx}
/-! ### isinstance of an error and a tuple of classes, none of which is its own -/
theorem kitAny_none {K : PySem.W.Frag} {t : Value} : ∀ {cs : List Addr} {us : List Value}, Vals (cs.map V.ref) us → (∀ c ∈ cs, PySem.W.kitOne K t (.ref c) = some false) → PySem.W.kitAny K t us = some false
  | [], _, .nil, _ => rfl
  | c :: cs, _, .cons r tl, h => by
    cases r
    have h1 := h c List.mem_cons_self
    have h2 := kitAny_none tl fun d hd => h d (List.mem_cons_of_mem _ hd)
    simp only [PySem.W.kitAny, h1]
    exact h2
theorem call_isiET : CallR X (.builtin "isinstance") (fun xs H Q => ∃ (a C p : Addr) (vs : Array Value) (cs : List Addr), xs = [.ref a, .ref p] ∧ H a = some (.frz (exO (.ref C) vs) (.own a)) ∧ ExI X.K C ∧ SqT X.K H p (cs.map V.ref) ∧ (∀ c ∈ cs, PySem.W.kitOne X.K (.ref C) (.ref c) = some false) ∧ Q (.bl false) H) := by
  intro pins s σ H xs us Q I r h
  obtain ⟨a, C, p, vs, cs, rfl, hf, ci, hp, hk, q⟩ := h
  obtain ⟨u, v, rfl, ru, rv⟩ := vals2 r
  cases ru
  cases rv
  obtain ⟨its, rw', pl, hz⟩ := I.tuple hp
  obtain ⟨⟨cls, dd, data, sl⟩, ho, hc, n, hd⟩ := (show s.heap.IsTuple p its.toArray from pl)
  simp only at hc hd
  subst hc hd
  obtain ⟨g, _⟩ := I.hok a _ hf
  exact PySem.W.kia_tup (kitx_err (vs := vs) ci) I.kIn ⟨g, rfl, rfl, trivial⟩ ho (kitAny_none rw' hk) (fun z => nomatch z) fun tk => ⟨.bl false, H, I.tok tk, rfl, q⟩
/-! ### f'..{n}..', the text unsaid -/
end
end L2

set_option Elab.async false
set_option linter.all false
set_option maxRecDepth 100000
set_option maxHeartbeats 4000000
namespace QQ
open PySem PyProof.Rows
section
variable {prog : Program} {w : World} {A : Around} {E : Value → Shared → Prop} {s : Shared} {env : Env}
/-- a new error is raised, one in hand that has none behind it: that one stands behind the new one then -/
theorem raise_behind {α : Type} {e a : Addr} {oe oa : Obj} {vs us : Array Value} {Q : α → Shared → Prop} (hA : A.handled = some (.ref a)) (ga : s.heap.get? a = some oa) (da : oa.data = .fields us) (za : us[2]? = some Value.none)
    (he : s.heap.get? e = some oe) (hd : oe.data = .fields vs) (hz : 2 < vs.size) (hne : a ≠ e)
    (h : ∀ h', h'.get? e = some (oe.mapFields (·.setIfInBounds 2 (.ref a))) → Heap.SameBut e s.heap h' → E (.ref e) { s with heap := h' }) : wpAny (model prog w) A (raiseNew (.ref e) : Sem α) Q E s := by
  unfold raiseNew
  refine wpAny_bind (wpAny_handled ?_)
  rw [hA]
  have ne : (Value.ref a != Value.ref e) = true := by simp [bne, hne]
  show wpAny _ _ (if (Value.ref a != Value.ref e) = true then _ else _) _ _ _
  rw [if_pos ne]
  refine wpAny_bind (wpAny_holding (wpAny_runValue (codeAny_builtin entry_unch ?_)))
  show wpAny _ _ (field (.ref a) 2 >>= _) _ _ s
  refine wpAny_bind (wpAny_field ga da za ?_)
  show wpAny _ _ (if (Value.none == Value.none) = true then _ else _) _ _ s
  rw [if_pos (by rfl)]
  refine wpAny_bind (wpAny_pure (wpAny_pure ?_))
  show wpAny _ _ (updateField e 2 (.ref a) >>= fun _ => throw (.ref e)) _ _ s
  refine wpAny_bind (wpAny_setField he hd hz ?_ : wpAny _ _ (setField (.ref e) 2 (.ref a)) _ _ s)
  exact wpAny_throw (h _ (Heap.get?_update_self _ he (Obj.isFreed_of_fields (Obj.data_mapFields hd _))) (Heap.SameBut.update ..))
variable {nm q : Str} {C N : Addr} {bs bm : List Value} {hdct : Bool} {sn : List Str} {sub : List Value} {ab : Bool} {col : Option Bool} {dd : Option Addr} {k0 k1 k2 k3 k5 : Option Value} {newId : String}
/-- raise x from None, an error in hand -/
theorem raiseStmt_fromNone {x c : Sem Value} {a : Addr} {Q : Flow → Shared → Prop} (hbase : bm.contains (.type "BaseException") = true) (hc : ∀ (Q : Value → Shared → Prop) (s : Shared), Q .none s → wpAny (model prog w) A c Q E s) (hA : A.handled = some (.ref a))
    (h : wpAny (model prog w) A x (fun v s₁ => ∃ e t oa us, v = .ref e ∧ s₁.heap.get? C = some (excClassObj nm q C N bs bm hdct sn sub ab col dd k0 k1 k2 k3 k5 newId) ∧
      s₁.heap.get? e = some { cls := .ref C, data := .fields #[.ref t, .none, .none, .none, .bool false, .none] } ∧ s₁.heap.get? a = some oa ∧ oa.data = .fields us ∧ us[2]? = some Value.none ∧ a ≠ e ∧ C ≠ e ∧
      ∀ h', h'.get? e = some (exO (.ref C) #[.ref t, .none, .ref a, .none, .bool true, .none]) → Heap.SameBut e s₁.heap h' → E (.ref e) { s₁ with heap := h' }) E s) :
    wpAny (model prog w) A (raiseStmt env (some x) (some c)) Q E s := by
  have hcB : (Value.ref C :: bm).contains (.type "BaseException") = true := by rw [List.contains_cons, hbase, Bool.or_true]
  unfold raiseStmt
  refine wpAny_bind (wpAny_mono h (fun v s₁ h₁ => ?_) fun _ _ x => x)
  obtain ⟨e, t, oa, us, rfl, hC, he, ga, da, za, hne, hCe, hE⟩ := h₁
  obtain ⟨hp, g, d, tk, os⟩ := s₁
  dsimp only at *
  refine wpAny_bind (wpAny_holding (hc _ _ ?_))
  repeat (first | with_reducible refine wpAny_loadPart_at he ?_ | with_reducible refine wpAny_loadPart_at hC ?_ | (with_reducible refine wpAny_isSubtype_exc hC ?_; rw [hcB]) | wp_step)
  have e1 := Heap.get?_update_self (Obj.mapFields fun x => x.setIfInBounds 3 Value.none) he rfl
  have e2 := Heap.get?_update_self (Obj.mapFields fun x => x.setIfInBounds 4 (Value.bool true)) e1 rfl
  have ka := (Heap.get?_update_other ((hp.update e (Obj.mapFields fun x => x.setIfInBounds 3 Value.none))) (Obj.mapFields fun x => x.setIfInBounds 4 (Value.bool true)) (Ne.symm hne)).trans ((Heap.get?_update_other hp (Obj.mapFields fun x => x.setIfInBounds 3 Value.none) (Ne.symm hne)).trans ga)
  have e3 : ((hp.update e (Obj.mapFields fun x => x.setIfInBounds 3 Value.none)).update e (Obj.mapFields fun x => x.setIfInBounds 4 (Value.bool true))).get? e = some (exO (.ref C) #[.ref t, .none, .none, .none, .bool true, .none]) := e2
  have sb2 : Heap.SameBut e hp ((hp.update e (Obj.mapFields fun x => x.setIfInBounds 3 Value.none)).update e (Obj.mapFields fun x => x.setIfInBounds 4 (Value.bool true))) := (Heap.SameBut.update ..).trans (Heap.SameBut.update ..)
  clear e1 e2
  generalize (hp.update e (Obj.mapFields fun x => x.setIfInBounds 3 Value.none)).update e (Obj.mapFields fun x => x.setIfInBounds 4 (Value.bool true)) = hp2 at *
  refine raise_behind (s := ⟨hp2, g, d, tk, os⟩) (oa := oa) (us := us) (oe := exO (.ref C) #[.ref t, .none, .none, .none, .bool true, .none]) (vs := #[.ref t, .none, .none, .none, .bool true, .none]) hA ka da za e3 rfl (by show (2 : Nat) < 6; decide) hne fun h' g' sb => ?_
  exact hE h' g' (sb2.trans sb)
theorem Raise_call_fromNone {B initId : String} {bmB : List Value} (F : ExcBaseFacts B newId initId bmB) {mN : Str → Option Value} {x : Str} {np cpos pos : Pos} {args : List Expr} {cz : Expr} {a : Addr} {Q : Flow → Shared → Prop}
    (hbase : bm.contains (.type "BaseException") = true) (hcz : eval cz env = pure .none) (hA : A.handled = some (.ref a)) (hplain : (backTo cpos (starEach args env)).any (·.1) = false) (hni : mN "__init__" = none)
    (h : wpAny (model prog w) A (eval (.Name x np) env) (fun f s₁ => f = .ref C ∧ wpAny (model prog w) A (evalArgs (.ref C) true (backTo cpos (starEach args env)) [])
      (fun ar s₂ => ar.kw = [] ∧ ar.pos.length ≤ sizeLine ∧ s₂.heap.get? C = some (excClassObj nm q C N bs bm hdct sn sub ab col dd k0 k1 k2 k3 k5 newId) ∧ s₂.heap.Ns N mN ∧ OwnTail s₂.heap bmB bm ∧
        (∃ oa us, s₂.heap.get? a = some oa ∧ oa.data = .fields us ∧ us[2]? = some Value.none) ∧
        ∀ h' e t, (∀ b o, s₂.heap.get? b = some o → h'.get? b = some o) → s₂.heap.get? e = none → h'.get? e = some (exO (.ref C) #[.ref t, .none, .ref a, .none, .bool true, .none]) → E (.ref e) { s₂ with heap := h' }) E s₁) E s) :
    wpAny (model prog w) A (exec (.Raise (some (.Call (.Name x np) args [] cpos)) (some cz) pos) env) Q E s := by
  rw [arm_exec_Raise]
  refine wpAny_bind (wpAny_standAt ?_)
  refine raiseStmt_fromNone (C := C) (nm := nm) (q := q) (N := N) (bs := bs) (bm := bm) (hdct := hdct) (sn := sn) (sub := sub) (ab := ab) (col := col) (dd := dd) (k0 := k0) (k1 := k1) (k2 := k2) (k3 := k3) (k5 := k5) (newId := newId) (a := a) hbase (fun Q s hq => ?_) hA ?_
  · rw [hcz]
    exact wpAny_bind (wpAny_pure (wpAny_bind (wpAny_standAt (wpAny_pure hq))))
  refine wpAny_bind (wpAny_mono (wpAny_Call_ofName (wpAny_mono h (fun f s₁ h₁ => ?_) fun _ _ x => x)) (fun v s₃ h₃ => wpAny_bind (wpAny_standAt (wpAny_pure h₃))) fun _ _ x => x)
  obtain ⟨rfl, h₁⟩ := h₁
  unfold callWith
  refine wpAny_bind (wpAny_holding (wpAny_mono h₁ (fun a s₂ h₂ => wpAny_bind (wpAny_standAt ?_)) fun _ _ x => x))
  obtain ⟨apos, akw⟩ := a
  obtain ⟨hkw, hlen, hC, hn, T, ⟨oa, us, ga, da, za⟩, h₂⟩ := h₂
  obtain rfl : akw = [] := hkw
  obtain ⟨hp, g, d, tk, os⟩ := s₂
  simp only [hplain]
  refine wpAny_bind (wpAny_keeperOf_exc hC ?_)
  refine wpAny_bind (wpAny_call_exc_subT (hrest := hlen) F T hC hn hni fun h' e hm => wpAny_bind (wpAny_holding (wpAny_point (wpAny_pure ?_))))
  obtain ⟨t, ht, _, _⟩ := hm.there
  refine ⟨e, t, oa, us, rfl, hm.keeps _ _ hC, ht, hm.keeps _ _ ga, da, za, fun z => ?_, fun z => ?_, fun h'' g' sb => ?_⟩
  · have := hm.new; rw [← z] at this; rw [this] at ga; cases ga
  · have := hm.new; rw [← z] at this; rw [this] at hC; cases hC
  · refine h₂ h'' e t (fun b o q => ?_) hm.new g'
    refine sb.extBut b o (fun z => ?_) (hm.keeps _ _ q)
    have := hm.new; rw [← z] at this; rw [this] at q; cases q
end
end QQ

set_option Elab.async false
set_option linter.all false
set_option maxRecDepth 100000
set_option maxHeartbeats 4000000
namespace QQ
open PySem PyProof.Rows
section
variable {M : Model} {A B : Around} {E E2 : Value → Shared → Prop} {s : Shared}
/-- an error that was raised in the suite of an except goes out of the suite, out of the try and out of the def -/
theorem land_out {base : Heap} {env : Env} {outer : List Env} {L e : Addr} {cls c : Value} {vs : Array Value} {Q : Unit → Shared → Prop} {Kx : Value → Shared → Prop} (hK : ∀ s2, wpAny M B (leaving env (.ref e)) Q E2 s2 → Kx (.ref e) s2)
    (hfr : A.frames = some (env :: outer)) (hl : s.heap.FunFrames base (env :: outer)) (hf : env.frame = some L)
    (he : s.heap.get? e = some (exO cls vs)) (h0 : vs[1]? = some Value.none) (h2 : vs[2]? = some c ∧ 6 ≤ vs.size)
    (h : ∀ h' T, Fly h' e cls [e, T] c → s.heap.objs.size ≤ T → (∀ b o, s.heap.get? b = some o → b ≠ e → b ∉ (env :: outer).filterMap (·.frame) → h'.get? b = some o) →
      (∀ b o, s.heap.get? b = some o → b ≠ e → ∃ sl, h'.get? b = some { o with slots := sl }) → Q () { s with heap := h' }) :
    notedBy M A env (cameBackBy M B env Kx) (.ref e) s := by
  have h1 : 1 < vs.size := (Array.getElem?_eq_some_iff.mp h0).1
  have ne : e ∉ (env :: outer).filterMap (·.frame) := fun hm => by
    obtain ⟨_, o, ho, hnf⟩ := hl.mem hm
    rw [he] at ho; cases ho
    exact hnf vs rfl
  unfold notedBy noteFrame
  simp only [hf]
  refine wpAny_bind (wpAny_field he rfl h0 ?_)
  rw [if_neg (by decide)]
  refine wpAny_bind (wpAny_frameOf_fun hfr hl hf fun g1 s1 => ?_)
  refine wpAny_bind (wpAny_entryPlaceOf fun pl hpl => ?_)
  unfold EntryCells.newEntry newFields
  refine wpAny_bind (wpAny_newObj_type ?_ (hpl.sizeOk5 _ _ _ _ _))
  have hsz : g1.objs.size = s.heap.objs.size := s1.1
  have he1 : g1.get? e = some (exO cls vs) := (s1.2.1 e ne).trans he
  generalize hO : ({ cls := .type "traceback", dict := none, data := .fields ([Value.none, .ref L, .none, rawInt L, .none] ++ (if pl.isEmpty then List.replicate 6 Value.none else pl)).toArray } : Obj) = oT
  have e3 : ∃ ts, oT.data = .fields ts ∧ 3 < ts.size := ⟨_, by rw [← hO], by simp only [List.size_toArray, List.length_append, List.length_cons, List.length_nil]; omega⟩
  have hfreed : oT.isFreed = false := by rw [← hO]; rfl
  clear hO
  obtain ⟨ts, hts, hz3⟩ := e3
  have he2 : (g1.push oT).get? e = some (exO cls vs) := Heap.get?_push_of_some _ he1
  have hT2 : (g1.push oT).get? g1.objs.size = some oT := Heap.get?_push_size g1 hfreed
  have hTe : g1.objs.size ≠ e := Nat.ne_of_gt (Heap.lt_size he1)
  refine wpAny_setField he2 rfl h1 ?_
  have he3 := Heap.get?_update_self (Obj.mapFields (·.setIfInBounds 1 (Value.ref g1.objs.size))) he2 rfl
  have hT3 := (Heap.get?_update_other (g1.push oT) (Obj.mapFields (·.setIfInBounds 1 (Value.ref g1.objs.size))) (Ne.symm hTe)).trans hT2
  have he3' : ((g1.push oT).update e (Obj.mapFields (·.setIfInBounds 1 (Value.ref g1.objs.size)))).get? e = some (exO cls (vs.setIfInBounds 1 (Value.ref g1.objs.size))) := he3
  have keep3 : ∀ b o, b ≠ e → g1.get? b = some o → ((g1.push oT).update e (Obj.mapFields (·.setIfInBounds 1 (Value.ref g1.objs.size)))).get? b = some o := fun b o hb q => by
    rw [Heap.get?_update_other _ _ (Ne.symm hb)]
    exact Heap.get?_push_of_some _ q
  generalize (g1.push oT).update e (Obj.mapFields (·.setIfInBounds 1 (Value.ref g1.objs.size))) = g3 at *
  have f1 : (vs.setIfInBounds 1 (Value.ref g1.objs.size))[1]? = some (.ref g1.objs.size) := by simp [h1]
  -- it comes back
  unfold cameBackBy
  refine wpAny_bind (wpAny_field he3' rfl f1 ?_)
  rw [if_neg (by simp)]
  unfold setFlight
  refine wpAny_bind (wpAny_field he3' rfl f1 ?_)
  rw [if_pos (show (Value.ref g1.objs.size != Value.none) = true from by simp)]
  refine wpAny_setField hT3 hts hz3 ?_
  have hT4 := Heap.get?_update_self (Obj.mapFields (·.setIfInBounds 3 (env.frame.elim Value.none fun f => rawInt f))) hT3 (Obj.isFreed_of_fields (Obj.data_mapFields hts _))
  have keep4 : ∀ b o, b ≠ g1.objs.size → g3.get? b = some o → (g3.update g1.objs.size (Obj.mapFields (·.setIfInBounds 3 (env.frame.elim Value.none fun f => rawInt f)))).get? b = some o := fun b o hb q => by
    rw [Heap.get?_update_other _ _ (Ne.symm hb)]; exact q
  have ht4 : (oT.mapFields (·.setIfInBounds 3 (env.frame.elim Value.none fun f => rawInt f))).data = .fields (ts.setIfInBounds 3 (rawInt L)) := by rw [hf]; exact Obj.data_mapFields hts _
  generalize g3.update g1.objs.size (Obj.mapFields (·.setIfInBounds 3 (env.frame.elim Value.none fun f => rawInt f))) = g4 at *
  generalize oT.mapFields (·.setIfInBounds 3 (env.frame.elim Value.none fun f => rawInt f)) = o4 at *
  have he4 := keep4 e _ (Ne.symm hTe) he3'
  -- it leaves
  refine hK _ ?_
  unfold leaving
  refine wpAny_bind ?_
  unfold noteFrame
  simp only [hf]
  refine wpAny_bind (wpAny_field he4 rfl f1 ?_)
  rw [if_pos (show (Value.ref g1.objs.size != Value.none) = true from by simp)]
  refine wpAny_bind (wpAny_field hT4 ht4 (x := rawInt L) (by simp [hz3]) ?_)
  rw [if_pos (by simp)]
  refine wpAny_pure ?_
  unfold setFlight
  refine wpAny_bind (wpAny_field he4 rfl f1 ?_)
  rw [if_pos (show (Value.ref g1.objs.size != Value.none) = true from by simp)]
  have z4 : 3 < (ts.setIfInBounds 3 (rawInt L)).size := by rw [Array.size_setIfInBounds]; exact hz3
  refine wpAny_setField hT4 ht4 z4 ?_
  have keep : ∀ b o, b ≠ e → g1.get? b = some o → (g4.update g1.objs.size (Obj.mapFields (·.setIfInBounds 3 ((none : Option Addr).elim Value.none fun f => rawInt f)))).get? b = some o := fun b o hb q => by
    rw [Heap.get?_update_other _ _ (Nat.ne_of_gt (Heap.lt_size q))]
    exact keep4 b o (Nat.ne_of_lt (Heap.lt_size q)) (keep3 b o hb q)
  refine h _ g1.objs.size ⟨vs.setIfInBounds 1 (Value.ref g1.objs.size), ?_, ?_, .inr ⟨g1.objs.size, _, _, f1, hTe, Heap.get?_update_self _ hT4 (Obj.isFreed_of_fields (Obj.data_mapFields ht4 _)), Obj.data_mapFields ht4 _, ?_, rfl⟩⟩ (Nat.le_of_eq hsz.symm) (fun b o q hb hn => ?_) fun b o q hb => ?_
  · rw [Heap.get?_update_other _ _ hTe]; exact he4
  · rw [Array.getElem?_setIfInBounds_ne (by decide), Array.size_setIfInBounds]; exact h2
  · simp [hz3]
  · exact keep b o hb ((s1.2.1 b hn).trans q)
  · obtain ⟨sl, e'⟩ := s1.2.2 b o q
    exact ⟨sl, keep b _ hb e'⟩
end
end QQ

set_option Elab.async false
set_option linter.all false
set_option maxRecDepth 100000
namespace QQ
open PySem
section
variable {M : Model} {A : Around} {E : Value → Shared → Prop}
variable {nm q : Str} {C N : Addr} {bs bm : List Value} {hdct : Bool} {sn : List Str} {sub : List Value} {ab : Bool} {col : Option Bool} {dd : Option Addr} {k0 k1 k2 k3 k5 : Option Value} {newId : String}
/-- an own class at except, and it is the error's own -/
theorem exc_same {h : Heap} {g : Array GenState} {d : Drawn} {t : Nat} {os : OsState} {e : Addr} {oe : Obj} {Q : Bool → Shared → Prop}
    (hC : h.get? C = some (excClassObj nm q C N bs bm hdct sn sub ab col dd k0 k1 k2 k3 k5 newId))
    (he : h.get? e = some oe) (hcls : oe.cls = .ref C) (hbase : bm.contains (.type "BaseException") = true)
    (hq : Q true ⟨h, g, d, t, os⟩) : wpAny M A (excMatches (.ref e) (.ref C)) Q E ⟨h, g, d, t, os⟩ := by
  have hcB : (Value.ref C :: bm).contains (.type "BaseException") = true := by rw [List.contains_cons, hbase, Bool.or_true]
  have f := tc_notTuple
  unfold excMatches
  repeat (first | (with_reducible refine wpAny_loadPart_at he ?_; rw [hcls]) | with_reducible refine wpAny_loadPart_at hC ?_ | (with_reducible refine wpAny_isSubtype_exc hC ?_; rw [hcB]) | wp_step)
  refine wpAny_isSubtype_exc hC ?_
  rw [show (Value.ref C :: bm).contains (.ref C) = true by simp]
  repeat wp_step
  exact hq
end
end QQ

set_option Elab.async false
set_option linter.all false
set_option maxRecDepth 100000
set_option maxHeartbeats 4000000
namespace L2
open PySem PySem.Spec PyProof.Rows QQ
/-! ## raise .. from None in the suite of an except -/
theorem Inv.rexe {X : Cx} {pins : List (Addr × Obj)} {σ : St} {H : Hp} {s : Shared} {W W' : Value → Shared → Prop} (I : Inv { X with xe := W } pins σ H s) : Inv { X with xe := W' } pins σ H s :=
  ⟨⟨I.ok.mod, I.ok.kind, I.ok.glob, I.ok.blt, I.ok.above, I.ok.inj, I.ok.has, I.ok.cab, I.ok.hd, I.ok.frames, I.ok.stk, I.ok.exf, I.ok.bs, I.ok.bsz, I.ok.noex, I.ok.exfs, I.ok.funs, I.ok.frf⟩, I.os, I.bare, I.base, I.loc, I.cell, I.free, I.freeC, I.pin, I.hok, I.len⟩
/-- the suite of an except that may raise: the new error, the one in hand behind it -/
def cxHandR (X : Cx) (e : Addr) (G : Hp) (E : XK) : Cx := { cxHand X e G with
  xe := fun x s' => ∃ e2 C t pins σ H', x = .ref e2 ∧ Inv (cxHand X e G) pins σ H' s' ∧ s'.heap.get? e2 = some (exO (.ref C) #[.ref t, .none, .ref e, .none, .bool true, .none]) ∧ New (cxHand X e G) pins H' e2 ∧ E (.ref C) none H' }
theorem ps_raiseN {X : Cx} {E : XK} {G : Hp} {a : Addr} {oa : Obj} {us : Array Value} {x : Str} {C : Addr} {e cz : Expr} {te : TE} {np cpos pos : Pos} (hX : X.ex = []) (hk : G a = some (.frz oa (.own a))) (hda : oa.data = .fields us) (h2 : us[2]? = some Value.none)
    (hg : Gl (cxHandR X a G E) x) (hm : X.mg x = some (.ref C)) (c : ExC X.K C) (he : PE (cxHandR X a G E) e te)
    (hcz : eval cz X.env = pure .none := by rfl) (hst : starEach [e] X.env = (false, eval e X.env) :: starEach [] X.env := by rfl) (hd : (x == ("__debug__" : Str)) = false := by decide) :
    PS (cxHandR X a G E) (.Raise (some (.Call (.Name x np) [e] [] cpos)) (some cz) pos) (tRaise C E te) := by
  intro pins s σ H D I h
  obtain ⟨bm, N, nm, q, bs, hdct, sn, sub, ab, col, dd, k0, k1, k2, k3, k5, hl, _, hf⟩ := exC_obj c
  obtain ⟨⟨mN, hN, hni⟩, T⟩ := hf X.base I.mod.kin
  refine QQ.Raise_call_fromNone (C := C) (nm := nm) (q := q) (N := N) (bs := bs) (bm := bm) (hdct := hdct) (sn := sn) (sub := sub) (ab := ab) (col := col) (dd := dd) (k0 := k0) (k1 := k1) (k2 := k2) (k3 := k3) (k5 := k5)
    PySem.F.excBase_ValueError (mN := mN) (a := a) (T.hasType (by decide +kernel)) hcz rfl (by show (backTo cpos (starEach [e] X.env)).any (·.1) = false; rw [hst]; rfl) hni (ld_glob I hg hm ⟨rfl, ?_⟩ hd)
  show wpAny _ _ (evalArgs (.ref C) true (backTo cpos (starEach [e] X.env)) []) _ _ _
  rw [hst]
  refine Calls.evalArgs_plain (Calls.spliced_cons (thn (he pins s σ H _ I h) fun u s1 z1 => Calls.spliced_nil ?_))
  obtain ⟨y, H1, I1, r1, q1⟩ := z1
  obtain ⟨ga, _⟩ := I1.hok a _ (I1.base.frzs a oa (.own a) hk)
  refine ⟨rfl, by show 1 ≤ sizeLine; decide, I1.kIn C _ hl, hN.keeps I1.bk, T.keeps I1.bk, ⟨oa, us, ga, hda, h2⟩, fun h' e2 t kp nw g' => ?_⟩
  have I2 : Inv (cxHand X a G) pins σ H1 s1 := Inv.rexe I1
  exact ⟨e2, C, t, pins, σ, H1, rfl, I2.kept (t' := s1.toks) kp, g', I2.new nw (I2.hok.gone nw) (by show e2 ∉ X.ex; rw [hX]; simp), q1⟩
def tTryR (D0 : Addr) (tb : St → XK → TS) (th : TS) : TS := fun D σ H =>
  tb σ (fun cls _ H' => cls = .ref D0 ∧ ∀ e vs, H' e = none → th D σ (upd H' e (.frz (exO (.ref D0) vs) (.own e)))) D σ H
/-- try .. except D0: a suite that may raise, in a def -/
theorem ps_tryR {P : Program} {w : World} {K : PySem.W.Frag} {mg : Str → Option Value} {base : Heap} {N : List Str} {qual : Str} {scope : Scope} {f : Addr} {cd : Value} {A : Around} {outer : List Env} {s₀ : Shared} {H₀ : Hp} {E : XK} {X : Cx} (eX : X = cxOf (CXE P w) P w K mg base N qual scope f cd A outer s₀ H₀ E)
    {x : Str} {D0 : Addr} {b₀ : Stmt} {body suite : List Stmt} {tb : St → XK → TS} {th : TS} {np hpos pos : Pos} (hg : Gl X x) (hm : X.mg x = some (.ref D0)) (hD : ExC X.K D0)
    (hb : ∀ pn σ0 E', PSs (cxTry X pn σ0 E' fun c => c = .none) body (tb σ0 E')) (hh : ∀ e G o us, G e = some (.frz o (.own e)) → o.data = .fields us → us[2]? = some Value.none → PSs (cxHandR X e G E) (b₀ :: suite) th) (hd : (x == ("__debug__" : Str)) = false := by decide) :
    PS X (.Try body [.ExceptHandler (some (.Name x np)) none (b₀ :: suite) hpos] [] [] pos) (tTryR D0 tb th) := by
  have hst : X.stack = X.env :: X.outer := by rw [eX]; rfl
  have hfr : X.env.frame = some X.env.locals := by rw [eX]; rfl
  have hX : X.ex = [] := by rw [eX]; rfl
  intro pins s σ H D I h
  refine wpAny_Try_except (wpAny_mono (hb (X.pn ++ pins) σ _ [] s σ H D (I.lift _) h) (fun f s1 q => ?_) fun e s1 q => ?_)
  · have q' : SP X pins D f s1 := SP.unlift q
    cases f with
    | next => exact wpAny_execs_nil q'
    | brk => exact q'
    | cont => exact q'
    | ret u => exact q'
  · obtain ⟨ea, cls, fp, H', rfl, I1, ⟨c, dc, F, bk, bn⟩, fr, rfl, q⟩ := q
    subst dc
    have I1 : Inv X pins σ H' s1 := Inv.unlift (W := X.xe) I1
    have fr : ∀ b ∈ fp, New X pins H' b := fun b hb => let n := fr b hb; ⟨n.s0, n.h, n.loc, n.cel, fun p hp => n.pin p (by simpa using hp)⟩
    have hf : X.A.frames = some (X.env :: X.outer) := hst ▸ I1.ok.frames
    refine land hf (hst ▸ I1.stack) hfr F fun h' T F' hT f3 f4 f5 => ?_
    have I2 := I1.landed fr (by rw [hst]; exact f3) f4 f5
    have nE : New X pins H' ea := fr ea F.here
    have nT : New X pins H' T := I1.new (by
      cases z : s1.heap.get? T with
      | none => rfl
      | some o => exact absurd (Nat.lt_of_lt_of_le (Heap.lt_size z) hT) (Nat.lt_irrefl _)) (I1.hok.fresh hT) (by rw [hX]; simp)
    obtain ⟨vs, ge, z2, ⟨_, r⟩ | ⟨T', oT, ts, _, neT, _, _, _, r⟩⟩ := id F'
    · cases r
    · cases r
      have q := q ea vs nE.h
      have I3 := I2.hand nE ge z2 (.inl rfl)
      have hG : (upd X.H₀ ea (.frz (exO (.ref D0) vs) (.own ea))) ea = some (.frz (exO (.ref D0) vs) (.own ea)) := upd_same
      have uh : ∀ σ6 H6 s6, Inv (cxHand X ea (upd X.H₀ ea (.frz (exO (.ref D0) vs) (.own ea)))) pins σ6 H6 s6 → Inv X pins σ6 H6 s6 := fun _ _ _ z => Inv.unhand I2 nE z
      have nE0 : New X [] H' ea := ⟨nE.s0, nE.h, nE.loc, nE.cel, fun p hp => nE.pin p (by simp at hp; exact List.mem_append_left _ hp)⟩
      have uh0 : ∀ σ6 H6 s6, Inv (cxHand X ea (upd X.H₀ ea (.frz (exO (.ref D0) vs) (.own ea)))) [] σ6 H6 s6 → Inv X [] σ6 H6 s6 := fun _ _ _ z => Inv.unhand I2.unpinned nE0 z
      generalize hG3 : upd X.H₀ ea (.frz (exO (.ref D0) vs) (.own ea)) = G3 at *
      generalize hH3 : upd H' ea (.frz (exO (.ref D0) vs) (.own ea)) = H3 at *
      refine wpAny_handleBy_cons (codeAny_handlers_test (ld_glob (X := cxHand X ea G3) I3 hg hm ?_ hd)) (by intro q; cases q)
      obtain ⟨bm, N', nm, qn, bs, hdct, sn, sub, ab, col, dd, k0, k1, k2, k3, k5, hlD, _, hfD⟩ := exC_obj hD
      have TT := (hfD _ I2.kIn).2
      obtain ⟨hh1, gg, dr, tk, os1⟩ := s1
      refine exc_same (I2.kIn D0 _ hlD) ge rfl (TT.hasType (by decide +kernel)) (codeAny_handlers_suite ?_)
      refine land_again F' fun h4 F4 k4 => ?_
      have nT3 : New (cxHand X ea G3) pins H3 T := ⟨nT.s0, by rw [← hH3, upd_ne neT]; exact nT.h, nT.loc, nT.cel, nT.pin⟩
      have I4 := I3.landed (h' := h4) (fp := [T]) (fun b hb => by rw [List.mem_singleton] at hb; rw [hb]; exact nT3) (fun b o g hb _ => k4 b o g fun z => hb (by simp [z])) (fun b o g hb => ⟨o.slots, k4 b o g fun z => hb (by simp [z])⟩) (fun b o g => by
        by_cases hb : b = T
        · obtain ⟨o', us, g', _⟩ := F4.rec T (by simp)
          exact ⟨o', by rw [hb]; exact g'⟩
        · exact ⟨o, k4 b o g hb⟩)
      refine wpAny_mono (hh ea G3 _ vs hG rfl z2.1 pins _ σ H3 D (Inv.rexe I4) q) (fun f s6 q6 => ?_) fun x s6 z6 => ?_
      · cases f with
        | next => obtain ⟨σ6, H6, I6, q7⟩ := q6; exact ⟨σ6, H6, uh _ _ _ (Inv.rexe I6), q7⟩
        | brk => obtain ⟨σ6, H6, I6, q7⟩ := q6; exact ⟨σ6, H6, uh _ _ _ (Inv.rexe I6), q7⟩
        | cont => obtain ⟨σ6, H6, I6, q7⟩ := q6; exact ⟨σ6, H6, uh _ _ _ (Inv.rexe I6), q7⟩
        | ret u => obtain ⟨v, σ6, H6, I6, r, q7⟩ := q6; exact ⟨v, σ6, H6, uh _ _ _ (Inv.rexe I6), r, q7⟩
      · obtain ⟨e2, C2, t, pins', σ6, H6, rfl, I6, g2, n2, qE⟩ := z6
        have hE6 : H6 ea = some (.frz (exO (.ref D0) vs) (.own ea)) := I6.base.frzs _ _ _ hG
        have J0 := uh0 _ _ _ I6.unpinned
        have ne2 : ea ≠ e2 := fun z => by have nh := n2.h; rw [← z, hE6] at nh; cases nh
        refine land_out (B := X.A) (Kx := X.xe) (Q := fun _ s'' => CXE P w outer H₀ s₀ E (.ref e2) s'') (E2 := fun e' s'' => CXE P w outer H₀ s₀ E e' s'') (fun s2 z => by rw [eX]; rw [eX] at z; exact z) hf (hst ▸ J0.stack) hfr g2 rfl ⟨rfl, by show (6 : Nat) ≤ 6; decide⟩ fun h7 T7 F7 hT7 k7 sl7 => ?_
        have n20 : New X [] H6 e2 := ⟨n2.s0, n2.h, n2.loc, n2.cel, fun p hp => n2.pin p (by simp at hp; exact List.mem_append_left _ hp)⟩
        have J := J0.landed (h' := h7) (fp := [e2]) (fun b hb => by rw [List.mem_singleton] at hb; rw [hb]; exact n20) (fun b o g hb hn => k7 b o g (fun z => hb (by simp [z])) (by rw [hst] at hn; exact hn)) (fun b o g hb => sl7 b o g fun z => hb (by simp [z])) (fun b o g => by
          by_cases hb : b = e2
          · obtain ⟨vs', g', _⟩ := F7
            exact ⟨_, by rw [hb]; exact g'⟩
          · obtain ⟨sl, e'⟩ := sl7 b o g hb
            exact ⟨_, e'⟩)
        have hT0 : H6 T7 = none := J0.hok.fresh hT7
        have sT : X.s₀.heap.get? T7 = none := by
          cases z : X.s₀.heap.get? T7 with
          | none => rfl
          | some o =>
            obtain ⟨o', r⟩ := J0.base.there T7 o z (by rw [hX]; simp)
            exact absurd (Nat.lt_of_lt_of_le (Heap.lt_size r) hT7) (Nat.lt_irrefl _)
        have sA := nE.s0
        have s2' := n2.s0
        have hz := z2
        have nh2 := n2.h
        clear hb hh uh uh0 I I1 I2 I3 I4 I6 J0
        subst eX
        refine ⟨e2, _, [e2, T7], H6, rfl, J.os, J.bare, J.base, J.hok, ⟨.ref ea, trivial, F7, .inr ⟨ea, _, vs, rfl, ne2, hE6, rfl, hz.2, hz.1⟩, fun b e => ?_⟩, fun b hb => ?_, qE⟩
        · cases e
          exact sA
        · rcases List.mem_cons.mp hb with hb | hb
          · subst hb
            exact ⟨s2', nh2⟩
          · rw [List.mem_singleton] at hb
            subst hb
            exact ⟨sT, hT0⟩
end L2

namespace W13
/-- how many of a stand at the beginning -/
def run (a : Nat) : List Nat → Nat
  | [] => 0
  | x :: xs => if x = a then run a xs + 1 else 0
theorem run_le (a : Nat) : ∀ L : List Nat, run a L ≤ L.length
  | [] => Nat.le_refl _
  | x :: xs => by
    unfold run
    have := run_le a xs
    split <;> simp <;> omega
theorem run_at {a : Nat} : ∀ {L : List Nat} {i : Nat}, i < run a L → L[i]? = some a
  | [], i, h => by simp [run] at h
  | x :: xs, 0, h => by
    unfold run at h
    split at h
    · rename_i c; simp [c]
    · omega
  | x :: xs, i + 1, h => by
    unfold run at h
    split at h
    · simpa using run_at (L := xs) (i := i) (by omega)
    · omega
theorem run_of {a : Nat} : ∀ {L : List Nat} {n : Nat}, (∀ i < n, L[i]? = some a) → n ≤ run a L
  | [], 0, _ => Nat.zero_le _
  | [], n + 1, h => by simpa using h 0 (by omega)
  | x :: xs, 0, _ => Nat.zero_le _
  | x :: xs, n + 1, h => by
    have h0 : x = a := by simpa using h 0 (by omega)
    rw [run, if_pos h0]
    have := run_of (L := xs) (n := n) (fun i hi => by simpa using h (i + 1) (by omega))
    omega
theorem run_eq {a : Nat} {L : List Nat} {n : Nat} (h : ∀ i < n, L[i]? = some a) (hn : L[n]? ≠ some a) : run a L = n := by
  have h1 := run_of h
  rcases Nat.lt_or_ge n (run a L) with h2 | h2
  · exact absurd (run_at h2) hn
  · omega
/-- what the program puts: a length, or so many more -/
inductive Itm where
  | one (x : Nat)
  | rep (r : Nat)
def Itm.size : Itm → Nat
  | .one _ => 1
  | .rep r => r
def Itm.cost : Itm → Nat
  | .one _ => 3
  | .rep _ => 9
def Itm.next (a : Nat) : Itm → Nat
  | .one x => x
  | .rep _ => a
/-- the numbers and their counts of bits -/
def Itm.puts : Itm → List (Nat × Nat)
  | .one x => [(x, 3)]
  | .rep r => [(7, 3), (r - 3, 6)]
def stAt (L : List Nat) (p a : Nat) : Itm := if 3 ≤ min 66 (run a (L.drop p)) then .rep (min 66 (run a (L.drop p))) else .one (L.getD p 0)
def Walk (L : List Nat) : Nat → Nat → List Itm → Nat → Nat → Prop
  | p, a, [], q, b => p = q ∧ a = b
  | p, a, x :: xs, q, b => p < L.length ∧ x = stAt L p a ∧ Walk L (p + x.size) (x.next a) xs q b
theorem walk_snoc {L : List Nat} : ∀ {P : List Itm} {p a q b : Nat}, Walk L p a P q b → q < L.length → Walk L p a (P ++ [stAt L q b]) (q + (stAt L q b).size) ((stAt L q b).next b)
  | [], p, a, q, b, h, hq => by
    obtain ⟨rfl, rfl⟩ := h
    exact ⟨hq, rfl, rfl, rfl⟩
  | x :: P, p, a, q, b, h, hq => ⟨h.1, h.2.1, walk_snoc h.2.2 hq⟩
theorem stAt_size {L : List Nat} {p a : Nat} (h : p < L.length) : 1 ≤ (stAt L p a).size ∧ p + (stAt L p a).size ≤ L.length := by
  unfold stAt
  split
  · rename_i c
    have := run_le a (L.drop p)
    rw [List.length_drop] at this
    show 1 ≤ min 66 (run a (L.drop p)) ∧ p + min 66 (run a (L.drop p)) ≤ L.length
    omega
  · show 1 ≤ 1 ∧ p + 1 ≤ L.length
    omega
theorem walk_len {L : List Nat} : ∀ {P : List Itm} {p a q b : Nat}, Walk L p a P q b → p + P.length ≤ q
  | [], p, a, q, b, h => by obtain ⟨rfl, rfl⟩ := h; simp
  | x :: P, p, a, q, b, h => by
    have h1 := walk_len h.2.2
    have h2 := (stAt_size (a := a) h.1).1
    rw [← h.2.1] at h2
    simp
    omega
def nxtS (a : Nat) : List Itm → Nat
  | [] => a
  | x :: xs => nxtS (x.next a) xs
/-- what the steps tell -/
theorem st_tell {L : List Nat} {p a : Nat} (hp : p < L.length) : (∀ x, stAt L p a = .one x → L.take (p + 1) = L.take p ++ [x] ∧ L[p]? = some x) ∧ (∀ r, stAt L p a = .rep r → 3 ≤ r ∧ r ≤ 66 ∧ p + r ≤ L.length ∧ L.take (p + r) = L.take p ++ List.replicate r a) := by
  have hle := run_le a (L.drop p)
  rw [List.length_drop] at hle
  unfold stAt
  split
  · rename_i c
    refine ⟨fun x h => (by cases h), fun r h => ?_⟩
    injection h with h
    have hr : r ≤ run a (L.drop p) := by omega
    refine ⟨by omega, by omega, by omega, ?_⟩
    rw [List.take_add]
    congr 1
    apply List.ext_getElem?
    intro i
    rw [List.getElem?_take, List.getElem?_replicate]
    split
    · rename_i hi
      exact run_at (by omega)
    · rfl
  · refine ⟨fun x h => ?_, fun r h => (by cases h)⟩
    injection h with h
    have e : L[p]? = some x := by rw [← h]; simp [List.getD, hp]
    exact ⟨by rw [List.take_add_one, e]; rfl, e⟩
/-- the lengths that steps tell, behind the length ahead -/
def decL (a : Nat) : List Itm → List Nat
  | [] => []
  | .one x :: P => x :: decL x P
  | .rep r :: P => List.replicate r a ++ decL a P
def StOk : Itm → Prop
  | .one x => x ≤ 6
  | .rep r => 3 ≤ r ∧ r ≤ 66
theorem decL_one (a : Nat) (x : Itm) : (decL a [x]).length = x.size := by cases x <;> simp [decL, Itm.size]
theorem decL_append : ∀ (P Q : List Itm) (a : Nat), decL a (P ++ Q) = decL a P ++ decL (nxtS a P) Q
  | [], Q, a => rfl
  | .one y :: P, Q, a => by
    show y :: decL y (P ++ Q) = y :: (decL y P ++ _)
    rw [decL_append P Q y]
    rfl
  | .rep r :: P, Q, a => by
    show List.replicate r a ++ decL a (P ++ Q) = List.replicate r a ++ decL a P ++ _
    rw [decL_append P Q a, List.append_assoc]
    rfl
theorem walk_dec {L : List Nat} : ∀ {P : List Itm} {p a q b : Nat}, Walk L p a P q b → L.take q = L.take p ++ decL a P
  | [], p, a, q, b, h => by obtain ⟨rfl, rfl⟩ := h; simp [decL]
  | x :: P, p, a, q, b, h => by
    obtain ⟨hp, hx, hw⟩ := h
    have ih := walk_dec hw
    have ht := st_tell (a := a) hp
    rw [ih]
    cases x with
    | one y =>
      have h1 := (ht.1 y hx.symm).1
      show L.take (p + 1) ++ decL y P = L.take p ++ y :: decL y P
      rw [h1]
      simp
    | rep r =>
      have h1 := (ht.2 r hx.symm).2.2.2
      show L.take (p + r) ++ decL a P = L.take p ++ (List.replicate r a ++ decL a P)
      rw [h1, List.append_assoc]
theorem walk_ok {L : List Nat} (hL : ∀ b ∈ L, b ≤ 6) : ∀ {P : List Itm} {p a q b : Nat}, Walk L p a P q b → ∀ x ∈ P, StOk x
  | [], p, a, q, b, h, x, hx => by simp at hx
  | y :: P, p, a, q, b, h, x, hx => by
    rcases List.mem_cons.mp hx with rfl | hx
    · have ht := st_tell (a := a) h.1
      cases x with
      | one y => exact hL _ (List.mem_of_getElem? (ht.1 y h.2.1.symm).2)
      | rep r => have := ht.2 r h.2.1.symm; exact ⟨this.1, this.2.1⟩
    · exact walk_ok hL h.2.2 x hx
/-- all that is put -/
def puts (P : List Itm) : List (Nat × Nat) := P.flatMap Itm.puts
theorem puts_append (P Q : List Itm) : puts (P ++ Q) = puts P ++ puts Q := by simp [puts]
theorem puts_cost : ∀ P : List Itm, ((puts P).map (·.2)).sum = (P.map Itm.cost).sum
  | [] => rfl
  | .one x :: P => by
    show ((Itm.puts (.one x) ++ puts P).map (·.2)).sum = _
    rw [List.map_append, List.sum_append, puts_cost P]
    simp [Itm.puts, Itm.cost]
  | .rep r :: P => by
    show ((Itm.puts (.rep r) ++ puts P).map (·.2)).sum = _
    rw [List.map_append, List.sum_append, puts_cost P]
    simp [Itm.puts, Itm.cost]
theorem puts_good {P : List Itm} (h : ∀ x ∈ P, StOk x) : ∀ q ∈ puts P, q.1 < 2 ^ q.2 := by
  intro q hq
  obtain ⟨x, hx, hq⟩ := List.mem_flatMap.mp hq
  have ok := h x hx
  cases x with
  | one y =>
    have : y ≤ 6 := ok
    simp [Itm.puts] at hq
    subst hq
    show y < 2 ^ 3
    omega
  | rep r =>
    obtain ⟨h1, h2⟩ : 3 ≤ r ∧ r ≤ 66 := ok
    simp [Itm.puts] at hq
    rcases hq with rfl | rfl
    · decide
    · show r - 3 < 2 ^ 6
      omega
/-! costs -/
def cost (P : List Itm) : Nat := (P.map Itm.cost).sum
/-- the fewest bits by which so many more of the length ahead are told, as the program tells them -/
def g (m : Nat) : Nat := 9 * (m / 66) + min 9 (3 * (m % 66))
inductive PC : Nat → List Nat → Nat → Prop
  | nil (a : Nat) : PC a [] 0
  | rep {a : Nat} {L : List Nat} {c : Nat} (h : 3 ≤ min 66 (run a L)) (k : PC a (L.drop (min 66 (run a L))) c) : PC a L (9 + c)
  | one {a x : Nat} {xs : List Nat} {c : Nat} (h : ¬ 3 ≤ min 66 (run a (x :: xs))) (k : PC x xs c) : PC a (x :: xs) (3 + c)
/-- what the law reckons, stretch by stretch -/
inductive LF : Nat → List Nat → Nat → Prop
  | nil (a : Nat) : LF a [] 0
  | new {a x : Nat} {xs : List Nat} {c : Nat} (h : x ≠ a) (k : LF x (xs.drop (run x xs)) c) : LF a (x :: xs) (3 + g (run x xs) + c)
  | old {a : Nat} {x : Nat} {xs : List Nat} {c : Nat} (h : x = a) (k : LF a ((x :: xs).drop (run a (x :: xs))) c) : LF a (x :: xs) (g (run a (x :: xs)) + c)
end W13

namespace BP
/-- the number that bytes tell, the highest first -/
def val (B : List Nat) : Nat := B.foldl (fun a b => a * 256 + b) 0
theorem foldl_val (B : List Nat) : ∀ a, B.foldl (fun a b => a * 256 + b) a = a * 256 ^ B.length + val B := by
  induction B with
  | nil => intro a; simp [val]
  | cons b B ih =>
    intro a
    have h0 : val (b :: B) = b * 256 ^ B.length + val B := by
      show B.foldl (fun a b => a * 256 + b) (0 * 256 + b) = _
      rw [ih, Nat.zero_mul, Nat.zero_add]
    show B.foldl (fun a b => a * 256 + b) (a * 256 + b) = _
    rw [ih, h0, List.length_cons, Nat.pow_succ, Nat.add_mul, Nat.mul_assoc, Nat.mul_comm 256, Nat.add_assoc]
theorem val_cons (b : Nat) (B : List Nat) : val (b :: B) = b * 256 ^ B.length + val B := by
  show B.foldl (fun a b => a * 256 + b) (0 * 256 + b) = _
  rw [foldl_val, Nat.zero_mul, Nat.zero_add]
theorem val_append (A B : List Nat) : val (A ++ B) = val A * 256 ^ B.length + val B := by
  show (A ++ B).foldl (fun a b => a * 256 + b) 0 = _
  rw [List.foldl_append, foldl_val]
  rfl
theorem val_snoc (A : List Nat) (b : Nat) : val (A ++ [b]) = val A * 256 + b := by
  show (A ++ [b]).foldl (fun a b => a * 256 + b) 0 = _
  rw [List.foldl_append]
  rfl
theorem val_lt {B : List Nat} (h : ∀ b ∈ B, b < 256) : val B < 256 ^ B.length := by
  induction B with
  | nil => simp [val]
  | cons b B ih =>
    rw [val_cons, List.length_cons, Nat.pow_succ]
    have h1 := ih fun x hx => h x (List.mem_cons_of_mem _ hx)
    have h2 : b < 256 := h b List.mem_cons_self
    have h3 : b * 256 ^ B.length ≤ 255 * 256 ^ B.length := Nat.mul_le_mul_right _ (by omega)
    omega
theorem pow256 (n : Nat) : 256 ^ n = 2 ^ (8 * n) := by rw [Nat.pow_mul]
theorem pow_pos2 (n : Nat) : 0 < 2 ^ n := Nat.pow_pos (by decide)
/-- the first so many bytes of a row -/
theorem val_take {B : List Nat} (h : ∀ b ∈ B, b < 256) (n : Nat) (hn : n ≤ B.length) : val (B.take n) = val B / 256 ^ (B.length - n) := by
  have e : val B = val (B.take n) * 256 ^ (B.drop n).length + val (B.drop n) := by rw [← val_append, List.take_append_drop]
  have hd : val (B.drop n) < 256 ^ (B.drop n).length := val_lt fun b hb => h b (List.mem_of_mem_drop hb)
  rw [List.length_drop] at e hd
  rw [e, Nat.mul_comm, Nat.mul_add_div (Nat.pow_pos (by decide)), Nat.div_eq_of_lt hd, Nat.add_zero]
/-- bytes from m to n -/
theorem val_cut {B : List Nat} (h : ∀ b ∈ B, b < 256) {m n : Nat} (hmn : m ≤ n) (hn : n ≤ B.length) : val ((B.take n).drop m) = val B / 256 ^ (B.length - n) % 256 ^ (n - m) := by
  have e : val (B.take n) = val ((B.take n).take m) * 256 ^ ((B.take n).drop m).length + val ((B.take n).drop m) := by rw [← val_append, List.take_append_drop]
  have hl : ((B.take n).drop m).length = n - m := by rw [List.length_drop, List.length_take]; omega
  have hd : val ((B.take n).drop m) < 256 ^ ((B.take n).drop m).length := val_lt fun b hb => h b (List.mem_of_mem_take (List.mem_of_mem_drop hb))
  rw [hl] at e hd
  rw [← val_take h n hn, e, Nat.mul_comm, Nat.mul_add_mod, Nat.mod_eq_of_lt hd]
/-- what bits_at reckons: from the bit at p on, s bits -/
theorem bits_cut {B : List Nat} (h : ∀ b ∈ B, b < 256) {p s : Nat} (hp : p + s ≤ 8 * B.length) :
    val ((B.take ((p + s + 7) / 8)).drop (p / 8)) / 2 ^ (8 * ((p + s + 7) / 8) - (p + s)) % 2 ^ s = val B / 2 ^ (8 * B.length - (p + s)) % 2 ^ s := by
  have h1 : p / 8 ≤ (p + s + 7) / 8 := by omega
  have h2 : (p + s + 7) / 8 ≤ B.length := by omega
  rw [val_cut h h1 h2, pow256, pow256]
  have e1 : 2 ^ (8 * ((p + s + 7) / 8 - p / 8)) = 2 ^ (8 * ((p + s + 7) / 8) - (p + s)) * 2 ^ (8 * ((p + s + 7) / 8 - p / 8) - (8 * ((p + s + 7) / 8) - (p + s))) := by
    rw [← Nat.pow_add]; congr 1; omega
  rw [e1, Nat.mod_mul_right_div_self, Nat.div_div_eq_div_mul, ← Nat.pow_add]
  have e2 : 2 ^ (8 * ((p + s + 7) / 8 - p / 8) - (8 * ((p + s + 7) / 8) - (p + s))) = 2 ^ s * 2 ^ (8 * ((p + s + 7) / 8 - p / 8) - (8 * ((p + s + 7) / 8) - (p + s)) - s) := by
    rw [← Nat.pow_add]; congr 1; omega
  rw [e2, Nat.mod_mul_right_mod]
  congr 3; omega
/-- a row of bits under way: N the number of all bits, T how many -/
structure BR (N T : Nat) (B : List Nat) (r k : Nat) : Prop where
  tot : T = 8 * B.length + k
  num : N = val B * 2 ^ k + r
  low : r < 2 ^ k
  byt : ∀ b ∈ B, b < 256
theorem BR.init : BR 0 0 [] 0 0 := ⟨rfl, rfl, by decide, fun _ h => nomatch h⟩
theorem BR.put {N T : Nat} {B : List Nat} {r k : Nat} (h : BR N T B r k) {n s : Nat} (hn : n < 2 ^ s) : BR (N * 2 ^ s + n) (T + s) B (r * 2 ^ s + n) (k + s) := by
  refine ⟨by rw [h.tot]; omega, ?_, ?_, h.byt⟩
  · rw [h.num, Nat.pow_add, Nat.add_mul, Nat.mul_assoc, Nat.add_assoc]
  · have h1 : r + 1 ≤ 2 ^ k := h.low
    have h2 : (r + 1) * 2 ^ s ≤ 2 ^ k * 2 ^ s := Nat.mul_le_mul_right _ h1
    rw [Nat.add_mul, Nat.one_mul] at h2
    rw [Nat.pow_add]; omega
theorem BR.move {N T : Nat} {B : List Nat} {r k : Nat} (h : BR N T B r (k + 8)) : BR N T (B ++ [r / 2 ^ k]) (r % 2 ^ k) k := by
  have e := Nat.div_add_mod r (2 ^ k)
  refine ⟨by rw [h.tot, List.length_append, List.length_singleton]; omega, ?_, Nat.mod_lt _ (pow_pos2 k), fun b hb => ?_⟩
  · rw [h.num, val_snoc, Nat.add_mul, Nat.pow_add]
    have : val B * (2 ^ k * 2 ^ 8) = val B * 256 * 2 ^ k := by rw [Nat.mul_comm (2 ^ k), ← Nat.mul_assoc]
    rw [this, Nat.add_assoc]
    rw [Nat.mul_comm (r / 2 ^ k), e]
  · rcases List.mem_append.mp hb with hb | hb
    · exact h.byt b hb
    · rw [List.mem_singleton.mp hb]
      have := h.low
      rw [Nat.pow_add] at this
      exact Nat.div_lt_of_lt_mul this
/-- a whole row: the bits N, T of them, then noughts -/
structure RowOf (N T : Nat) (R : List Nat) : Prop where
  len : R.length = (T + 7) / 8
  byt : ∀ b ∈ R, b < 256
  num : val R = N * 2 ^ (8 * R.length - T)
theorem BR.row0 {N T : Nat} {B : List Nat} {r : Nat} (h : BR N T B r 0) : RowOf N T B := by
  have h1 := h.low
  refine ⟨by rw [h.tot]; omega, h.byt, ?_⟩
  rw [h.num, h.tot]
  have : r = 0 := by simpa using h1
  subst this
  simp
theorem BR.row1 {N T : Nat} {B : List Nat} {r k : Nat} (h : BR N T B r k) (h0 : 0 < k) (h8 : k < 8) : RowOf N T (B ++ [r * 2 ^ (8 - k)]) := by
  refine ⟨by rw [h.tot, List.length_append, List.length_singleton]; omega, fun b hb => ?_, ?_⟩
  · rcases List.mem_append.mp hb with hb | hb
    · exact h.byt b hb
    · rw [List.mem_singleton.mp hb]
      have h2 : r * 2 ^ (8 - k) < 2 ^ k * 2 ^ (8 - k) := (Nat.mul_lt_mul_right (pow_pos2 _)).mpr h.low
      rw [← Nat.pow_add] at h2
      have : k + (8 - k) = 8 := by omega
      rw [this] at h2
      exact h2
  · have e : 8 * (B ++ [r * 2 ^ (8 - k)]).length - T = 8 - k := by rw [h.tot, List.length_append, List.length_singleton]; omega
    have e2 : 256 = 2 ^ k * 2 ^ (8 - k) := by
      rw [← Nat.pow_add]
      have : k + (8 - k) = 8 := by omega
      rw [this]
    rw [e, val_snoc, h.num, Nat.add_mul, Nat.mul_assoc, ← e2]
theorem BR.lt {N T : Nat} {B : List Nat} {r k : Nat} (h : BR N T B r k) : N < 2 ^ T := by
  have h1 := val_lt h.byt
  rw [pow256] at h1
  rw [h.num, h.tot, Nat.pow_add]
  have h2 : (val B + 1) * 2 ^ k ≤ 2 ^ (8 * B.length) * 2 ^ k := Nat.mul_le_mul_right _ h1
  have := h.low
  rw [Nat.add_mul, Nat.one_mul] at h2
  omega
/-- the pairs put so far -/
def nums : List (Nat × Nat) → Nat → Nat
  | [], N => N
  | p :: ps, N => nums ps (N * 2 ^ p.2 + p.1)
def tots (ps : List (Nat × Nat)) : Nat := (ps.map (·.2)).sum
theorem nums_append (a b : List (Nat × Nat)) (N : Nat) : nums (a ++ b) N = nums b (nums a N) := by
  induction a generalizing N with
  | nil => rfl
  | cons p a ih => exact ih _
theorem tots_append (a b : List (Nat × Nat)) : tots (a ++ b) = tots a + tots b := by simp [tots, List.map_append, List.sum_append]
theorem tots_cons (p : Nat × Nat) (b : List (Nat × Nat)) : tots (p :: b) = p.2 + tots b := by simp [tots]
def Good (ps : List (Nat × Nat)) : Prop := ∀ p ∈ ps, p.1 < 2 ^ p.2
/-- what comes behind is divided away -/
theorem nums_div (b : List (Nat × Nat)) (hb : Good b) : ∀ N, nums b N / 2 ^ tots b = N := by
  induction b with
  | nil => intro N; simp [nums, tots]
  | cons p b ih =>
    intro N
    have h1 : p.1 < 2 ^ p.2 := hb p List.mem_cons_self
    rw [nums, tots_cons, Nat.add_comm p.2 (tots b), Nat.pow_add, ← Nat.div_div_eq_div_mul, ih (fun q hq => hb q (List.mem_cons_of_mem _ hq))]
    rw [Nat.mul_comm, Nat.mul_add_div (pow_pos2 _), Nat.div_eq_of_lt h1, Nat.add_zero]
/-- behind the pairs of a, the bits of b: V is all bits with c noughts behind -/
theorem take_at (a b c : List (Nat × Nat)) (hc : Good c) (e : Nat) (L : Nat) (hL : L = tots (a ++ b ++ c) + e) :
    nums (a ++ b ++ c) 0 * 2 ^ e / 2 ^ (L - (tots a + tots b)) = nums b (nums a 0) := by
  have h1 : L - (tots a + tots b) = e + tots c := by rw [hL, tots_append, tots_append]; omega
  rw [h1, Nat.pow_add, ← Nat.div_div_eq_div_mul, Nat.mul_div_cancel _ (pow_pos2 e), nums_append, nums_append]
  exact nums_div c hc _
/-- one pair -/
theorem take_one {a c : List (Nat × Nat)} {n s : Nat} (hc : Good c) (hn : n < 2 ^ s) {e L : Nat} (hL : L = tots (a ++ (n, s) :: c) + e) :
    nums (a ++ (n, s) :: c) 0 * 2 ^ e / 2 ^ (L - (tots a + s)) % 2 ^ s = n := by
  have h := take_at a [(n, s)] c hc e L (by simpa using hL)
  have e1 : tots [(n, s)] = s := by simp [tots]
  rw [e1] at h
  have e2 : a ++ [(n, s)] ++ c = a ++ (n, s) :: c := by simp
  rw [e2] at h
  rw [h]
  show (nums a 0 * 2 ^ s + n) % 2 ^ s = n
  rw [Nat.mul_comm, Nat.mul_add_mod, Nat.mod_eq_of_lt hn]
end BP

set_option linter.all false
namespace BP
/-- the number that bits tell, the highest first -/
def num (bs : List Bool) : Nat := bs.foldl (fun a b => 2 * a + b.toNat) 0
theorem val_inj : ∀ {A B : List Nat}, (∀ b ∈ A, b < 256) → (∀ b ∈ B, b < 256) → A.length = B.length → val A = val B → A = B
  | [], [], _, _, _, _ => rfl
  | [], _ :: _, _, _, h, _ => by cases h
  | _ :: _, [], _, _, h, _ => by cases h
  | a :: A, b :: B, hA, hB, hl, hv => by
    have hl' : A.length = B.length := by simpa using hl
    rw [val_cons, val_cons, hl'] at hv
    have h1 : val A < 256 ^ B.length := by rw [← hl']; exact val_lt fun x hx => hA x (List.mem_cons_of_mem _ hx)
    have h2 : val B < 256 ^ B.length := val_lt fun x hx => hB x (List.mem_cons_of_mem _ hx)
    have p : 0 < 256 ^ B.length := Nat.pow_pos (by decide)
    have e1 : a = b := by
      have q1 : (a * 256 ^ B.length + val A) / 256 ^ B.length = a := by rw [Nat.mul_comm, Nat.mul_add_div p, Nat.div_eq_of_lt h1, Nat.add_zero]
      have q2 : (b * 256 ^ B.length + val B) / 256 ^ B.length = b := by rw [Nat.mul_comm, Nat.mul_add_div p, Nat.div_eq_of_lt h2, Nat.add_zero]
      rw [← q1, hv, q2]
    subst e1
    rw [val_inj (fun x hx => hA x (List.mem_cons_of_mem _ hx)) (fun x hx => hB x (List.mem_cons_of_mem _ hx)) hl' (Nat.add_left_cancel hv)]
theorem RowOf.uniq {N T : Nat} {R R' : List Nat} (h : RowOf N T R) (h' : RowOf N T R') : R = R' := by
  have e : R.length = R'.length := by rw [h.len, h'.len]
  exact val_inj h.byt h'.byt e (by rw [h.num, h'.num, e])
end BP

set_option Elab.async false
set_option linter.all false
namespace W12
open W13 BP
/-- s bits of a row from the bit at t on -/
def bt (R : List Nat) (t s : Nat) : Nat := val R / 2 ^ (8 * R.length - (t + s)) % 2 ^ s
/-- how a table's items are read from the bit at t on, with c lengths told: the count at the end and the place, or the bits end -/
inductive Rd (R : List Nat) : Nat → Nat → Option (Nat × Nat) → Prop
  | done {t c : Nat} : 272 ≤ c → Rd R t c (some (c, t))
  | end3 {t c : Nat} : c < 272 → 8 * R.length < t + 3 → Rd R t c none
  | one {t c : Nat} {o : Option (Nat × Nat)} : c < 272 → t + 3 ≤ 8 * R.length → bt R t 3 ≠ 7 → Rd R (t + 3) (c + 1) o → Rd R t c o
  | end6 {t c : Nat} : c < 272 → t + 3 ≤ 8 * R.length → bt R t 3 = 7 → 8 * R.length < t + 3 + 6 → Rd R t c none
  | rep {t c : Nat} {o : Option (Nat × Nat)} : c < 272 → t + 3 + 6 ≤ 8 * R.length → bt R t 3 = 7 → Rd R (t + 3 + 6) (c + (bt R (t + 3) 6 + 3)) o → Rd R t c o
theorem bt_take {R : List Nat} (h : ∀ b ∈ R, b < 256) {m t s : Nat} (hm : m ≤ R.length) (ht : t + s ≤ 8 * m) : bt (R.take m) t s = bt R t s := by
  unfold bt
  rw [val_take h m hm, List.length_take, Nat.min_eq_left hm, Nat.div_div_eq_div_mul]
  have e : 256 ^ (R.length - m) * 2 ^ (8 * m - (t + s)) = 2 ^ (8 * R.length - (t + s)) := by
    rw [show (256 : Nat) = 2 ^ 8 from rfl, ← Nat.pow_mul, ← Nat.pow_add]
    congr 1
    omega
  rw [e]
/-- a row that is cut ahead of the place where its table ends -/
theorem Rd.cut {R : List Nat} (h : ∀ b ∈ R, b < 256) {m : Nat} (hm : m ≤ R.length) {t c c' t' : Nat} {o : Option (Nat × Nat)} (r : Rd R t c o) (ho : o = some (c', t')) (ht' : 8 * m < t') (ht : t ≤ 8 * m) : Rd (R.take m) t c none := by
  have hl : (R.take m).length = m := by rw [List.length_take]; omega
  induction r with
  | done hc => cases ho; omega
  | end3 => cases ho
  | end6 => cases ho
  | @one t c o hc h3 hb r ih =>
    by_cases z : t + 3 ≤ 8 * m
    · exact .one hc (by rw [hl]; exact z) (by rw [bt_take h hm z]; exact hb) (ih ho z)
    · exact .end3 hc (by rw [hl]; omega)
  | @rep t c o hc h9 hb r ih =>
    by_cases z : t + 3 ≤ 8 * m
    · have hb' : bt (R.take m) t 3 = 7 := by rw [bt_take h hm z]; exact hb
      by_cases y : t + 3 + 6 ≤ 8 * m
      · refine .rep hc (by rw [hl]; exact y) hb' ?_
        rw [bt_take h hm y]
        exact ih ho y
      · exact .end6 hc (by rw [hl]; exact z) hb' (by rw [hl]; omega)
    · exact .end3 hc (by rw [hl]; omega)
theorem bt_lt (R : List Nat) (t s : Nat) : bt R t s < 2 ^ s := Nat.mod_lt _ (Nat.pow_pos (by decide))
/-- a few bits never tell a table -/
theorem Rd.few {R : List Nat} : ∀ (n t c : Nat), 8 * R.length - t ≤ n → t ≤ 8 * R.length → 3 * c + 22 * (8 * R.length - t) < 816 → Rd R t c none
  | n, t, c, hn, ht, hc => by
    by_cases z : t + 3 ≤ 8 * R.length
    · by_cases b : bt R t 3 = 7
      · by_cases y : t + 3 + 6 ≤ 8 * R.length
        · have hb := bt_lt R (t + 3) 6
          have h64 : bt R (t + 3) 6 < 64 := hb
          match n with
          | 0 => omega
          | n + 1 => exact .rep (by omega) y b (Rd.few n _ _ (by omega) y (by omega))
        · exact .end6 (by omega) z b (by omega)
      · match n with
        | 0 => omega
        | n + 1 => exact .one (by omega) z b (Rd.few n _ _ (by omega) z (by omega))
    · exact .end3 (by omega) (by omega)
/-- how many lengths items tell -/
def sz (P : List Itm) : Nat := (P.map Itm.size).sum
theorem sz_append (A B : List Itm) : sz (A ++ B) = sz A + sz B := by simp [sz]
theorem sz_cons (x : Itm) (B : List Itm) : sz (x :: B) = x.size + sz B := by simp [sz]
theorem decL_sz : ∀ (P : List Itm) (a : Nat), (decL a P).length = sz P
  | [], _ => rfl
  | x :: P, a => by
    have h2 := decL_append [x] P a
    have h3 : decL a (x :: P) = decL a [x] ++ decL (x.next a) P := h2
    rw [h3, List.length_append, decL_one, sz_cons, decL_sz P]
/-- a row that has the items' bits behind others, and ahead of others -/
structure Told (pre post : List (Nat × Nat)) (Pp : List Itm) (R : List Nat) : Prop where
  row : RowOf (nums (pre ++ puts Pp ++ post) 0) (tots (pre ++ puts Pp ++ post)) R
  gpost : Good post
  ok : ∀ x ∈ Pp, StOk x
theorem Told.len {pre post : List (Nat × Nat)} {Pp : List Itm} {R : List Nat} (h : Told pre post Pp R) : ∃ e, 8 * R.length = tots (pre ++ puts Pp ++ post) + e ∧ val R = nums (pre ++ puts Pp ++ post) 0 * 2 ^ e := by
  have h1 := h.row.len
  have h2 := h.row.num
  refine ⟨8 * R.length - tots (pre ++ puts Pp ++ post), by omega, h2⟩
/-- one number of it -/
theorem Told.at {pre post : List (Nat × Nat)} {Pp : List Itm} {R : List Nat} (h : Told pre post Pp R) {A Z : List Itm} {x y : List (Nat × Nat)} {n s : Nat} (e : puts Pp = puts A ++ x ++ (n, s) :: y ++ puts Z) (hy : Good y) (hZ : ∀ z ∈ Z, StOk z) (hn : n < 2 ^ s) :
    tots pre + (tots (puts A) + tots x) + s ≤ 8 * R.length ∧ bt R (tots pre + (tots (puts A) + tots x)) s = n := by
  unfold bt
  obtain ⟨q, hL, hv⟩ := h.len
  have e1 : pre ++ puts Pp ++ post = (pre ++ puts A ++ x) ++ (n, s) :: (y ++ puts Z ++ post) := by rw [e]; simp [List.append_assoc]
  have g : Good (y ++ puts Z ++ post) := by
    intro z hz
    rcases List.mem_append.mp hz with hz | hz
    · rcases List.mem_append.mp hz with hz | hz
      · exact hy z hz
      · exact puts_good hZ z hz
    · exact h.gpost z hz
  rw [e1] at hL hv
  have t := take_one (a := pre ++ puts A ++ x) (c := y ++ puts Z ++ post) (n := n) (s := s) g hn (e := q) (L := 8 * R.length) hL
  have et : tots (pre ++ puts A ++ x) = tots pre + (tots (puts A) + tots x) := by rw [tots_append, tots_append]; omega
  rw [et] at t
  refine ⟨?_, by rw [hv]; exact t⟩
  rw [tots_append, tots_cons, et] at hL
  simp only [] at hL
  omega
/-- the first number behind the items -/
theorem Told.post {pre : List (Nat × Nat)} {n s : Nat} {c : List (Nat × Nat)} {Pp : List Itm} {R : List Nat} (h : Told pre ((n, s) :: c) Pp R) (hn : n < 2 ^ s) :
    tots pre + tots (puts Pp) + s ≤ 8 * R.length ∧ bt R (tots pre + tots (puts Pp)) s = n := by
  unfold bt
  obtain ⟨q, hL, hv⟩ := h.len
  have g : Good c := fun z hz => h.gpost z (List.mem_cons_of_mem _ hz)
  have t := take_one (a := pre ++ puts Pp) (c := c) (n := n) (s := s) g hn (e := q) (L := 8 * R.length) hL
  have et : tots (pre ++ puts Pp) = tots pre + tots (puts Pp) := tots_append _ _
  rw [et] at t
  refine ⟨?_, by rw [hv]; exact t⟩
  rw [tots_append, tots_cons, et] at hL
  simp only [] at hL
  omega
theorem puts_one (x : Nat) : Itm.puts (.one x) = [(x, 3)] := rfl
theorem puts_rep (r : Nat) : Itm.puts (.rep r) = [(7, 3), (r - 3, 6)] := rfl
theorem puts_cons (x : Itm) (P : List Itm) : puts (x :: P) = x.puts ++ puts P := rfl
/-- items that are told are read -/
theorem Told.rd {pre post : List (Nat × Nat)} {Pp : List Itm} {R : List Nat} {o : Option (Nat × Nat)} (h : Told pre post Pp R) (hlt : ∀ A x Z, Pp = A ++ x :: Z → sz A < 272) (hr : Rd R (tots pre + tots (puts Pp)) (sz Pp) o) :
    ∀ (Z A : List Itm), Pp = A ++ Z → Rd R (tots pre + tots (puts A)) (sz A) o
  | [], A, e => by rw [List.append_nil] at e; rw [← e]; exact hr
  | x :: Z, A, e => by
    have ih := Told.rd h hlt hr Z (A ++ [x]) (by rw [e]; simp)
    have hA := hlt A x Z e
    have hx : StOk x := h.ok x (by rw [e]; simp)
    have hZ : ∀ z ∈ Z, StOk z := fun z hz => h.ok z (by rw [e]; simp [hz])
    have ep : puts Pp = puts A ++ x.puts ++ puts Z := by rw [e, puts_append, puts_cons, List.append_assoc]
    rw [puts_append, tots_append, sz_append] at ih
    have ez : tots ([] : List (Nat × Nat)) = 0 := rfl
    cases x with
    | one y =>
      have hy6 : y ≤ 6 := hx
      obtain ⟨b1, b2⟩ := h.at (A := A) (x := []) (n := y) (s := 3) (y := []) (Z := Z) (by rw [ep, puts_one]; simp) (fun _ h => by simp at h) hZ (by show y < 2 ^ 3; omega)
      simp only [ez, Nat.add_zero] at b1 b2
      have e3 : tots (puts [Itm.one y]) = 3 := rfl
      have e1 : sz [Itm.one y] = 1 := rfl
      rw [e3, e1, ← Nat.add_assoc] at ih
      exact .one hA b1 (by rw [b2]; omega) ih
    | rep r =>
      obtain ⟨r1, r2⟩ : 3 ≤ r ∧ r ≤ 66 := hx
      obtain ⟨b1, b2⟩ := h.at (A := A) (x := []) (n := 7) (s := 3) (y := [(r - 3, 6)]) (Z := Z) (by rw [ep, puts_rep]; simp) (fun z h => by simp at h; rw [h]; show r - 3 < 2 ^ 6; omega) hZ (by decide)
      obtain ⟨b3, b4⟩ := h.at (A := A) (x := [(7, 3)]) (n := r - 3) (s := 6) (y := []) (Z := Z) (by rw [ep, puts_rep]; simp) (fun _ h => by simp at h) hZ (by show r - 3 < 2 ^ 6; omega)
      have ez3 : tots ([(7, 3)] : List (Nat × Nat)) = 3 := rfl
      simp only [ez, Nat.add_zero] at b1 b2
      simp only [ez3, ← Nat.add_assoc] at b3 b4
      have e3 : tots (puts [Itm.rep r]) = 3 + 6 := rfl
      have e1 : sz [Itm.rep r] = r := rfl
      rw [e3, e1, ← Nat.add_assoc, ← Nat.add_assoc] at ih
      refine .rep hA b3 b2 ?_
      rw [b4, show r - 3 + 3 = r by omega]
      exact ih
theorem Told.rd0 {pre post : List (Nat × Nat)} {Pp : List Itm} {R : List Nat} {o : Option (Nat × Nat)} (h : Told pre post Pp R) (hlt : ∀ A x Z, Pp = A ++ x :: Z → sz A < 272) (hr : Rd R (tots pre + tots (puts Pp)) (sz Pp) o) : Rd R (tots pre) 0 o :=
  h.rd hlt hr Pp [] rfl
end W12

set_option Elab.async false
set_option linter.all false
set_option maxRecDepth 100000
set_option maxHeartbeats 4000000
namespace K12
open PySem L2 QQ W13 W12
seal PE PA PS PSs PT PW PG PI
/-! ### the text by places -/
def top (i : Nat) : Stmt := PySem.Challenge.pw_balepress_k12_tables_refused.main.body.getD i (.Pass ⟨0, 0, 0, 0⟩)
abbrev sIsNumb : Stmt := top 23
abbrev sWhole : Stmt := top 24
abbrev sAreWhole : Stmt := top 25
abbrev sIsRow : Stmt := top 26
abbrev sNeedRow : Stmt := top 27
abbrev sNeedTable : Stmt := top 34
abbrev sAgain : Stmt := top 35
abbrev sPutTable : Stmt := top 36
abbrev sItems : Stmt := top 37
abbrev sTakeTable : Stmt := top 38
abbrev sNeedSize : Stmt := top 41
abbrev sOnes : Stmt := top 42
abbrev sBitsAt : Stmt := top 43
abbrev sCellAt : Stmt := top 47
abbrev sMixed : Stmt := top 48
abbrev sTable : Stmt := top 49
abbrev sLaw : Stmt := top 59
abbrev sBInit : Stmt := inClass (top 44) 0
abbrev sPut : Stmt := inClass (top 44) 1
abbrev sMove : Stmt := inClass (top 44) 2
abbrev sMany : Stmt := inClass (top 44) 3
abbrev sRowOut : Stmt := inClass (top 44) 4
abbrev sRInit : Stmt := inClass (top 45) 0
abbrev sTake : Stmt := inClass (top 45) 1
abbrev sLeft : Stmt := inClass (top 45) 2
abbrev sPlace : Stmt := inClass (top 45) 3
abbrev sGo : Stmt := inClass (top 45) 4
abbrev sWord : Stmt := top 50
abbrev sLPut : Stmt := top 51
abbrev sLTaken : Stmt := top 52
abbrev sOdd : Stmt := top 53
abbrev sPutRight : Stmt := top 54
abbrev sTooMany : Stmt := top 55
abbrev sEnded : Stmt := top 56
abbrev sTakingRight : Stmt := top 57
abbrev sCut : Stmt := top 58
abbrev vN (n : Nat) : V := .int ((n : Nat) : Int)
/-- what the names of the text's top stand for -/
structure Txt (K : PySem.W.Frag) (mg : Str → Option Value) : Prop where
  isi : mg "isinstance" = none
  bool : mg "bool" = none
  int : mg "int" = none
  list : mg "list" = none
  len : mg "len" = none
  range : mg "range" = none
  min : mg "min" = none
  max : mg "max" = none
  sum : mg "sum" = none
  tuple : mg "tuple" = none
  repr : mg "repr" = none
  verr : mg "ValueError" = none
  great : ∃ t, mg "GREATEST" = some (.int 255 t)
  most : ∃ t, mg "MOST_SIZE" = some (.int 24 t)
  bits : ∃ t, mg "MOST_BITS" = some (.int 6 t)
  many : ∃ t, mg "MANY" = some (.int 272 t)
  again : ∃ t, mg "AGAIN" = some (.int 7 t)
  least : ∃ t, mg "LEAST_AGAIN" = some (.int 3 t)
  mostA : ∃ t, mg "MOST_AGAIN" = some (.int 66 t)
  isnumb : ∃ (f : Addr) (fd : FuncData), Fun K "is_number" "is_number" sIsNumb f fd ∧ mg "is_number" = some (.ref f) ∧ Binds K fd ["thing"] []
/-- the other error classes, in the order in which they are asked -/
def names1 : List Str := ["BadBits", "BadBody", "BadCheck", "BadCode", "BadHead", "BadLengths", "BadLetters", "BadMark", "BadPieces"]
def names2 : List Str := ["BadRow", "BadShares", "BadTail", "Behind", "Cut", "NoRange", "Over"]
/-- the error classes: the base one, those of tables and of bits, all others by their names -/
structure Ers (K : PySem.W.Frag) (mg : Str → Option Value) (cP cN cT : Addr) (cs ds : List Addr) : Prop where
  mP : mg "PressError" = some (.ref cP)
  xP : ExC K cP
  mN : mg "NoBits" = some (.ref cN)
  mT : mg "BadTable" = some (.ref cT)
  xN : ExC K cN
  xT : ExC K cT
  iN : ExI K cN
  iT : ExI K cT
  nN : cN ≠ cP
  nT : cT ≠ cP
  sN : PySem.W.mroIn K cN (.ref cP) = some true
  sT : PySem.W.mroIn K cT (.ref cP) = some true
  vN' : PySem.W.kitOne K (.ref cN) (.type "ValueError") = some true
  vT : PySem.W.kitOne K (.ref cT) (.type "ValueError") = some true
  nn : PySem.W.kitOne K (.ref cN) (.ref cN) = some true
  nt : PySem.W.kitOne K (.ref cN) (.ref cT) = some false
  tn : PySem.W.kitOne K (.ref cT) (.ref cN) = some false
  tt : PySem.W.kitOne K (.ref cT) (.ref cT) = some true
  len1 : ∃ c0 c1 c2 c3 c4 c5 c6 c7 c8 : Addr, cs = [c0, c1, c2, c3, c4, c5, c6, c7, c8]
  len2 : ∃ c0 c1 c2 c3 c4 c5 c6 : Addr, ds = [c0, c1, c2, c3, c4, c5, c6]
  m1 : ∀ (i : Nat) (x : Str) (c : Addr), names1[i]? = some x → cs[i]? = some c → mg x = some (.ref c)
  m2 : ∀ (i : Nat) (x : Str) (c : Addr), names2[i]? = some x → ds[i]? = some c → mg x = some (.ref c)
  kN : ∀ c ∈ cs ++ ds, PySem.W.kitOne K (.ref cN) (.ref c) = some false
  kT : ∀ c ∈ cs ++ ds, PySem.W.kitOne K (.ref cT) (.ref c) = some false
/-- a def of the top -/
structure Fn (K : PySem.W.Frag) (mg : Str → Option Value) (x : Str) (st : Stmt) (ps : List Str) (f : Addr) (fd : FuncData) : Prop where
  F : Fun K x x st f fd
  m : mg x = some (.ref f)
  b : Binds K fd ps []
/-- a method of the class at C -/
structure Me (K : PySem.W.Frag) (C : Addr) (x qual : Str) (st : Stmt) (ps : List Str) (f : Addr) (fd : FuncData) : Prop where
  F : Fun K x qual st f fd
  m : Meth K C x f
  b : Binds K fd ps []
section
variable (K : PySem.W.Frag)
theorem kit_ib : PySem.W.kitOne K (.type "int") (.type "bool") = some false := by
  show (if (Value.type "int" == Value.type "bool") = true then some true else if PySem.W.kitMeta "bool" = true then (fastBuiltinMro "int").map (·.contains (.type "bool")) else none) = some false
  decide +kernel
theorem kit_ii : PySem.W.kitOne K (.type "int") (.type "int") = some true := by
  show (if (Value.type "int" == Value.type "int") = true then some true else if PySem.W.kitMeta "int" = true then (fastBuiltinMro "int").map (·.contains (.type "int")) else none) = some true
  decide +kernel
theorem kit_ll : PySem.W.kitOne K (.type "list") (.type "list") = some true := by
  show (if (Value.type "list" == Value.type "list") = true then some true else if PySem.W.kitMeta "list" = true then (fastBuiltinMro "list").map (·.contains (.type "list")) else none) = some true
  decide +kernel
theorem kit_bb : PySem.W.kitOne K (.type "bool") (.type "bool") = some true := by
  show (if (Value.type "bool" == Value.type "bool") = true then some true else if PySem.W.kitMeta "bool" = true then (fastBuiltinMro "bool").map (·.contains (.type "bool")) else none) = some true
  decide +kernel
theorem kit_no {t c : String} (h : (["NoneType", "str", "list", "tuple", "dict"].contains t && ["int", "bool"].contains c) = true) : PySem.W.kitOne K (.type t) (.type c) = some false := by
  show (if (Value.type t == Value.type c) = true then some true else if PySem.W.kitMeta c = true then (fastBuiltinMro t).map (·.contains (.type c)) else none) = some false
  have ht : t = "NoneType" ∨ t = "str" ∨ t = "list" ∨ t = "tuple" ∨ t = "dict" := by
    have := (Bool.and_eq_true_iff.mp h).1
    simpa using this
  have hc : c = "int" ∨ c = "bool" := by
    have := (Bool.and_eq_true_iff.mp h).2
    simpa using this
  rcases ht with rfl | rfl | rfl | rfl | rfl <;> rcases hc with rfl | rfl <;> decide +kernel
theorem kit_nl {t : String} (h : ["NoneType", "str", "int", "bool", "tuple", "dict"].contains t = true) : PySem.W.kitOne K (.type t) (.type "list") = some false := by
  show (if (Value.type t == Value.type "list") = true then some true else if PySem.W.kitMeta "list" = true then (fastBuiltinMro t).map (·.contains (.type "list")) else none) = some false
  have ht : t = "NoneType" ∨ t = "str" ∨ t = "int" ∨ t = "bool" ∨ t = "tuple" ∨ t = "dict" := by simpa using h
  rcases ht with rfl | rfl | rfl | rfl | rfl | rfl <;> decide +kernel
theorem kit_bi : PySem.W.kitOne K (.type "bool") (.type "int") = some true := by
  show (if (Value.type "bool" == Value.type "int") = true then some true else if PySem.W.kitMeta "int" = true then (fastBuiltinMro "bool").map (·.contains (.type "int")) else none) = some true
  decide +kernel
def NoInt (H : Hp) (x : V) : Prop := ∃ t b c, TyOf K H x t ∧ PySem.W.kitOne K t (.type "int") = some c ∧ PySem.W.kitOne K t (.type "bool") = some b ∧ (c = false ∨ b = true)
/-- what is_whole tells -/
def WhV (H : Hp) (x : V) (lo hi : Int) (b : Bool) : Prop := (∃ i, x = .int i ∧ b = (decide (lo ≤ i) && decide (i ≤ hi))) ∨ (NoInt K H x ∧ b = false)
variable {K}
theorem NoInt.bl {H : Hp} (b : Bool) : NoInt K H (.bl b) := ⟨_, true, true, .bl b, kit_bi K, kit_bb K, .inr rfl⟩
theorem NoInt.of {H : Hp} {x : V} {t : String} (ty : TyOf K H x (.type t)) (h : ["NoneType", "str", "list", "tuple", "dict"].contains t = true) : NoInt K H x :=
  ⟨_, false, false, ty, kit_no K (by rw [h]; rfl), kit_no K (by rw [h]; rfl), .inl rfl⟩
theorem NoInt.non {H : Hp} : NoInt K H .non := .of .non (by decide)
theorem NoInt.str {H : Hp} (x : Str) : NoInt K H (.str x) := .of (.str x) (by decide)
end
theorem vN_inj {x y : Nat} : vN x = vN y ↔ x = y := by
  constructor
  · intro h
    injection h with h
    omega
  · rintro rfl; rfl
theorem get_vN {S : List Nat} {i : Nat} (h : i < S.length) : (S.map vN)[i]? = some (vN S[i]) := by simp [h]
theorem map_get {B : List Nat} {i : Nat} {y : V} (h : (B.map vN)[i]? = some y) : ∃ b, B[i]? = some b ∧ y = vN b := by
  rw [List.getElem?_map] at h
  cases e : B[i]? with
  | none => rw [e] at h; cases h
  | some z => rw [e] at h; exact ⟨z, rfl, (Option.some.inj h).symm⟩
theorem take_snoc {B : List Nat} {i b : Nat} (h : B[i]? = some b) : B.take (i + 1) = B.take i ++ [b] := by rw [List.take_add_one, h]; rfl
theorem sl2000 {n : Nat} (h : n ≤ 2000) : n ≤ sizeLine := Nat.le_trans h (by decide)
theorem sl2000' {n : Nat} (h : n ≤ 2000) : n < sizeLine := Nat.lt_of_le_of_lt h (by decide)
section
variable {P : Program} {w : World} {K : PySem.W.Frag} {mg : Str → Option Value} {base : Heap}
/-! ### is_whole, are_whole, is_row, need_row, need_window -/
def spWhole : Sp := fun vs H Q _ => ∃ (i lo hi : Int), vs = [.int i, .int lo, .int hi] ∧ Q (.bl (decide (lo ≤ i) && decide (i ≤ hi))) H
theorem scWhole : FnScope ["thing", "least", "most"] ["thing", "least", "most"] (defScope sWhole) := ⟨rfl, rfl, rfl, by decide +kernel, rfl, by decide +kernel, by decide +kernel⟩
def spNumb  : Sp := fun vs H Q _ => ∃ (x : V) (b : Bool), vs = [x] ∧ ((∃ i, x = .int i) ∧ b = true) ∧ Q (.bl b) H
theorem scNumb : FnScope ["thing"] ["thing"] (defScope sIsNumb) := ⟨rfl, rfl, rfl, by decide +kernel, rfl, by decide +kernel, by decide +kernel⟩
theorem ok_numb {f : Addr} {fd : FuncData} (F : Fun K "is_number" "is_number" sIsNumb f fd) (T : Txt K mg) : FnOk P w K mg base CX0 0 f fd ["thing"] spNumb := by
  refine F.ok0 scNumb (fun vs H Q E h => ?_) (fun cdv A outer s H vs Q E h => ?_)
  · obtain ⟨x, b, rfl, _⟩ := h
    rfl
  · obtain ⟨x, b, rfl, hw, k⟩ := h
    refine ⟨_, pss_one (ps_ret (pe_and (pe_callB call_isi (by rfl) T.isi PyProof.Rows.boot_isinstance (pa_cons (pv 0) (pa_cons (pe_bltn (v := .ty "int") (by rfl) T.int PyProof.Rows.boot_int rfl) pa_nil))) (pe_one (pe_not (pe_callB call_isi (by rfl) T.isi PyProof.Rows.boot_isinstance (pa_cons (pv 0) (pa_cons (pe_bltn (v := .ty "bool") (by rfl) T.bool PyProof.Rows.boot_bool rfl) pa_nil))))))), ?_⟩
    obtain ⟨⟨i, rfl⟩, rfl⟩ := hw
    refine ⟨_, rfl, _, _, _, _, rfl, .int _, kit_ii K, _, rfl, iteT ?_⟩
    exact ⟨_, rfl, _, _, _, _, rfl, .int _, kit_ib K, _, rfl, k⟩
theorem ok_whole {f : Addr} {fd : FuncData} (F : Fn K mg "is_whole" sWhole ["thing", "least", "most"] f fd) (T : Txt K mg) : FnOk P w K mg base CX0 1 f fd ["thing", "least", "most"] spWhole := by
  obtain ⟨fN, fdN, NF, Nm, Nb⟩ := T.isnumb
  have GN := ok_numb (P := P) (w := w) (base := base) NF T
  refine F.F.ok scWhole (fun vs H Q E h => ?_) (fun cdv A outer s H vs Q E hr h => ?_)
  · obtain ⟨i, lo, hi, rfl, _⟩ := h
    rfl
  · obtain ⟨i, lo, hi, rfl, k⟩ := h
    refine ⟨_, pss_one (ps_ret (pe_and (pe_call GN hr (by rfl) Nm NF.kp Nb .nil pass0 (pa_cons (pv 0) pa_nil)) (pe_one (pe_chain op_le op_le (pv 1) (pv 0) (pv 2))))), ?_⟩
    refine ⟨_, rfl, _, true, rfl, ⟨⟨i, rfl⟩, rfl⟩, _, rfl, iteT ?_⟩
    refine ⟨_, rfl, _, rfl, _, _, rfl, rfl, _, rfl, ?_⟩
    refine ite2 (fun h1 => ?_) (fun h1 => ?_)
    · refine ⟨_, rfl, _, _, rfl, rfl, ?_⟩
      rw [h1, Bool.true_and] at k
      exact k
    · have h2 : decide (lo ≤ i) = false := by simpa using h1
      rw [h2, Bool.false_and] at k
      exact k
def spAreWhole : Sp := fun vs H Q _ => ∃ (a : Addr) (B : List Nat) (lo hi : Int), vs = [.ref a, .int lo, .int hi] ∧ H a = some (.lst (B.map vN)) ∧ (∀ b ∈ B, lo ≤ ((b : Nat) : Int) ∧ ((b : Nat) : Int) ≤ hi) ∧ Q (.bl true) H
theorem scAreWhole : FnScope ["thing", "least", "most", "number"] ["thing", "least", "most"] (defScope sAreWhole) := ⟨rfl, rfl, rfl, by decide +kernel, rfl, by decide +kernel, by decide +kernel⟩
theorem ok_arewhole {f fW : Addr} {fd fdW : FuncData} (F : Fn K mg "are_whole" sAreWhole ["thing", "least", "most"] f fd) (W : Fn K mg "is_whole" sWhole ["thing", "least", "most"] fW fdW) (T : Txt K mg) : FnOk P w K mg base CX0 2 f fd ["thing", "least", "most"] spAreWhole := by
  have GW : FnOk P w K mg base CX0 1 fW fdW ["thing", "least", "most"] spWhole := ok_whole W T
  refine F.F.ok scAreWhole (fun vs H Q E h => ?_) (fun cdv A outer s H vs Q E hr h => ?_)
  · obtain ⟨a, B, lo, hi, rfl, _⟩ := h
    rfl
  · obtain ⟨a, B, lo, hi, rfl, hB, hb, k⟩ := h
    refine ⟨_, pss_cons (ps_if (pt_not (pt_val (pe_callB call_isi (by rfl) T.isi PyProof.Rows.boot_isinstance (pa_cons (pv 0) (pa_cons (pe_bltn (v := .ty "list") (by rfl) T.list PyProof.Rows.boot_list rfl) pa_nil))))) (pss_one (ps_ret pe_bl)) pss_nil)
      (pss_cons (ps_for PassesOwn.never rfl (pi_list (pv 0)) (pg_name (i := 3) scAreWhole.nd rfl (Or.inl rfl))
        (pss_one (ps_if (pt_not (pt_val (pe_call GW hr (by rfl) W.m W.F.kp W.b .nil pass0 (pa_cons (pv 3) (pa_cons (pv 1) (pa_cons (pv 2) pa_nil)))))) (pss_one (ps_ret pe_bl)) pss_nil)))
      (pss_one (ps_ret pe_bl))), ?_⟩
    refine ⟨_, rfl, _, _, _, _, rfl, .lst hB, kit_ll K, _, rfl, iteF ?_⟩
    refine ⟨_, rfl, a, rfl, ⟨_, SqL.of hB⟩, for_list (D := ⟨_, _, fun _ _ => False, fun _ _ => False⟩) (K := K) (a := a) (xs := B.map vN) (fun i σ H2 => ∃ v : Option V, σ = [some (.ref a), some (.int lo), some (.int hi), v] ∧ H2 = H)
      ⟨none, rfl, rfl⟩ (fun i σ H2 _ ⟨_, _, e⟩ => by rw [e]; exact SqL.of hB) ?_ ?_⟩
    · rintro i y σ H2 hi ⟨v, rfl, rfl⟩
      obtain ⟨b, hb1, rfl⟩ := map_get hi
      obtain ⟨h2, h3⟩ := hb b (List.mem_of_getElem? hb1)
      refine ⟨_, rfl, _, rfl, _, rfl, _, _, _, rfl, _, rfl, ?_⟩
      rw [decide_eq_true h2, decide_eq_true h3]
      exact iteF ⟨_, rfl, rfl⟩
    · rintro σ H2 ⟨v, rfl, rfl⟩
      exact k
def spIsRow : Sp := fun vs H Q _ => ∃ (a : Addr) (B : List Nat), vs = [.ref a] ∧ H a = some (.lst (B.map vN)) ∧ (∀ b ∈ B, b < 256) ∧ Q (.bl true) H
theorem scIsRow : FnScope ["thing"] ["thing"] (defScope sIsRow) := ⟨rfl, rfl, rfl, by decide +kernel, rfl, by decide +kernel, by decide +kernel⟩
/-- the defs of rows -/
structure Rows (K : PySem.W.Frag) (mg : Str → Option Value) : Prop where
  X : Txt K mg
  whole : ∃ f fd, Fn K mg "is_whole" sWhole ["thing", "least", "most"] f fd
  arewhole : ∃ f fd, Fn K mg "are_whole" sAreWhole ["thing", "least", "most"] f fd
  isrow : ∃ f fd, Fn K mg "is_row" sIsRow ["thing"] f fd
theorem ok_isrow {f : Addr} {fd : FuncData} (F : Fn K mg "is_row" sIsRow ["thing"] f fd) (Y : Rows K mg) : FnOk P w K mg base CX0 3 f fd ["thing"] spIsRow := by
  obtain ⟨T, ⟨_, _, W⟩, ⟨_, _, AW⟩, _⟩ := Y
  have GA := ok_arewhole (P := P) (w := w) (base := base) AW W T
  obtain ⟨tg, hg⟩ := T.great
  refine F.F.ok scIsRow (fun vs H Q E h => ?_) (fun cdv A outer s H vs Q E hr h => ?_)
  · obtain ⟨a, B, rfl, _⟩ := h
    rfl
  · obtain ⟨a, B, rfl, hB, hb, k⟩ := h
    refine ⟨_, pss_one (ps_ret (pe_call GA hr (by rfl) AW.m AW.F.kp AW.b .nil pass0 (pa_cons (pv 0) (pa_cons pe_int (pa_cons (pe_glob (v := .int 255) (by rfl) hg ⟨tg, rfl⟩) pa_nil))))), ?_⟩
    exact ⟨_, rfl, a, B, 0, 255, rfl, hB, fun b z => by have := hb b z; omega, k⟩
def spNeedRow : Sp := fun vs H Q _ => ∃ (a : Addr) (B : List Nat), vs = [.ref a] ∧ H a = some (.lst (B.map vN)) ∧ (∀ b ∈ B, b < 256) ∧ ∀ l, H l = none → Q (.ref l) (upd H l (.lst (B.map vN)))
theorem scNeedRow : FnScope ["thing"] ["thing"] (defScope sNeedRow) := ⟨rfl, rfl, rfl, by decide +kernel, rfl, by decide +kernel, by decide +kernel⟩
theorem ok_needrow {f : Addr} {fd : FuncData} (F : Fn K mg "need_row" sNeedRow ["thing"] f fd) (Y : Rows K mg) : FnOk P w K mg base CX0 4 f fd ["thing"] spNeedRow := by
  obtain ⟨fR, fdR, R⟩ := Y.isrow
  have GR := ok_isrow (P := P) (w := w) (base := base) R Y
  have T := Y.X
  refine F.F.ok scNeedRow (fun vs H Q E h => ?_) (fun cdv A outer s H vs Q E hr h => ?_)
  · obtain ⟨a, B, rfl, _⟩ := h
    rfl
  · obtain ⟨a, B, rfl, hB, hb, k⟩ := h
    refine ⟨_, pss_cons (ps_if (pt_not (pt_val (pe_call GR hr (by rfl) R.m R.F.kp R.b .nil pass0 (pa_cons (pv 0) pa_nil)))) (pss_one ps_never) pss_nil)
      (pss_one (ps_ret (pe_callTy call_list_of (by rfl) T.list PyProof.Rows.boot_list (pa_cons (pv 0) pa_nil)))), ?_⟩
    refine ⟨_, rfl, a, B, rfl, hB, hb, _, rfl, iteF ?_⟩
    exact ⟨_, rfl, a, _, rfl, .inl (SqL.of hB), k⟩
/-! ### need_size, ones -/
def spNeedSize : Sp := fun vs H Q _ => ∃ s : Nat, vs = [vN s] ∧ s ≤ 24 ∧ Q .non H
theorem scNeedSize : FnScope ["size"] ["size"] (defScope sNeedSize) := ⟨rfl, rfl, rfl, by decide +kernel, rfl, by decide +kernel, by decide +kernel⟩
theorem ok_needsize {f fW : Addr} {fd fdW : FuncData} (F : Fn K mg "need_size" sNeedSize ["size"] f fd) (W : Fn K mg "is_whole" sWhole ["thing", "least", "most"] fW fdW) (T : Txt K mg) : FnOk P w K mg base CX0 2 f fd ["size"] spNeedSize := by
  have GW : FnOk P w K mg base CX0 1 fW fdW ["thing", "least", "most"] spWhole := ok_whole W T
  obtain ⟨tg, hg⟩ := T.most
  refine F.F.ok scNeedSize (fun vs H Q E h => ?_) (fun cdv A outer s H vs Q E hr h => ?_)
  · obtain ⟨z, rfl, _⟩ := h
    rfl
  · obtain ⟨z, rfl, hz, k⟩ := h
    refine ⟨_, pss_one (ps_if (pt_not (pt_val (pe_call GW hr (by rfl) W.m W.F.kp W.b .nil pass0 (pa_cons (pv 0) (pa_cons pe_int (pa_cons (pe_glob (v := .int 24) (by rfl) hg ⟨tg, rfl⟩) pa_nil)))))) (pss_one ps_never) pss_nil), ?_⟩
    refine ⟨_, rfl, _, _, _, rfl, _, rfl, ?_⟩
    have e1 : (decide ((0 : Int) ≤ (z : Int)) && decide ((z : Int) ≤ 24)) = true := by
      rw [decide_eq_true (by omega), decide_eq_true (by omega)]; rfl
    rw [e1]
    exact iteF k
def spOnes : Sp := fun vs H Q _ => ∃ s : Nat, vs = [vN s] ∧ s ≤ 1000 ∧ Q (vN (2 ^ s - 1)) H
theorem scOnes : FnScope ["size"] ["size"] (defScope sOnes) := ⟨rfl, rfl, rfl, by decide +kernel, rfl, by decide +kernel, by decide +kernel⟩
theorem ok_ones {f : Addr} {fd : FuncData} (F : Fn K mg "ones" sOnes ["size"] f fd) : FnOk P w K mg base CX0 1 f fd ["size"] spOnes := by
  refine F.F.ok scOnes (fun vs H Q E h => ?_) (fun cdv A outer s H vs Q E hr h => ?_)
  · obtain ⟨z, rfl, _⟩ := h
    rfl
  · obtain ⟨z, rfl, hz, k⟩ := h
    refine ⟨_, pss_one (ps_ret (pe_op op_sub (pe_op op_shl pe_int (pv 0)) pe_int)), ?_⟩
    refine ⟨_, rfl, _, _, rfl, rfl, ⟨by omega, by omega, by decide⟩, _, _, rfl, rfl, ?_⟩
    have e1 : (1 : Int) * 2 ^ ((z : Nat) : Int).toNat - 1 = ((2 ^ z - 1 : Nat) : Int) := by
      have := BP.pow_pos2 z
      rw [Int.toNat_natCast, Int.one_mul]
      have e2 : ((2 ^ z : Nat) : Int) = (2 : Int) ^ z := by simp
      omega
    dsimp only
    rw [e1]
    exact k
end
/-! ### plain arithmetic -/
theorem nat_and_low (a b k : Nat) (h : b < 2 ^ k) : (a * 2 ^ k) &&& b = 0 := by
  have e1 : b &&& (2 ^ k - 1) = b := by rw [Nat.and_two_pow_sub_one_eq_mod, Nat.mod_eq_of_lt h]
  have e2 : (a * 2 ^ k) &&& (2 ^ k - 1) = 0 := by rw [Nat.and_two_pow_sub_one_eq_mod, Nat.mul_mod_left]
  have e3 : (a * 2 ^ k) &&& (b &&& (2 ^ k - 1)) = ((a * 2 ^ k) &&& (2 ^ k - 1)) &&& b := by rw [Nat.and_comm b, Nat.and_assoc]
  rw [e1, e2, Nat.zero_and] at e3
  exact e3
theorem cast_pow (k : Nat) : ((2 ^ k : Nat) : Int) = (2 : Int) ^ k := by simp
theorem or_low (a b k : Nat) (h : b < 2 ^ k) : Builtin.bitOr ((a : Int) * 2 ^ ((k : Nat) : Int).toNat) (b : Int) = ((a * 2 ^ k + b : Nat) : Int) := by
  have e0 : (a : Int) * 2 ^ ((k : Nat) : Int).toNat = ((a * 2 ^ k : Nat) : Int) := by rw [Int.toNat_natCast, Int.natCast_mul, cast_pow]
  rw [e0, PyProof.Rows.bitOr_and, PyProof.Rows.bitAnd_pp (by omega) (by omega), Int.toNat_natCast, Int.toNat_natCast, nat_and_low a b k h]
  omega
theorem and_mask (x k : Nat) : Builtin.bitAnd (x : Int) ((2 ^ k - 1 : Nat) : Int) = ((x % 2 ^ k : Nat) : Int) := by
  rw [PyProof.Rows.bitAnd_pp (by omega) (by omega), Int.toNat_natCast, Int.toNat_natCast, Nat.and_two_pow_sub_one_eq_mod]
theorem shr_nat (x k : Nat) : (x : Int) / 2 ^ ((k : Nat) : Int).toNat = ((x / 2 ^ k : Nat) : Int) := by
  rw [Int.toNat_natCast, ← cast_pow]
  rfl
theorem shl_nat (x k : Nat) : (x : Int) * 2 ^ ((k : Nat) : Int).toNat = ((x * 2 ^ k : Nat) : Int) := by
  rw [Int.toNat_natCast, Int.natCast_mul, cast_pow]
theorem cut_nat {B : List Nat} {m n : Nat} (hm : m ≤ n) (hn : n ≤ B.length) : cutV (B.map vN) (some (m : Int)) (some (n : Int)) = ((B.take n).drop m).map vN := by
  unfold cutV
  rw [HT.sIx_nat, HT.sIx_nat, List.length_map, Nat.min_eq_left hn, Nat.min_eq_left (Nat.le_trans hm hn), List.map_drop, List.map_take, List.drop_take]
section
variable {P : Program} {w : World} {K : PySem.W.Frag} {mg : Str → Option Value} {base : Heap}
/-! ### bits_at -/
def spBitsAt : Sp := fun vs H Q _ => ∃ (a : Addr) (B : List Nat) (p s : Nat), vs = [.ref a, vN p, vN s] ∧ H a = some (.lst (B.map vN)) ∧ (∀ b ∈ B, b < 256) ∧ p + s ≤ 8 * B.length ∧ s ≤ 24 ∧
  ∀ H', Same H H' → Q (vN (BP.val B / 2 ^ (8 * B.length - (p + s)) % 2 ^ s)) H'
theorem scBitsAt : FnScope ["row", "place", "size", "end", "bytes_to_end", "number", "byte"] ["row", "place", "size"] (defScope sBitsAt) := ⟨rfl, rfl, rfl, by decide +kernel, rfl, by decide +kernel, by decide +kernel⟩
theorem ok_bitsat {f fO : Addr} {fd fdO : FuncData} (F : Fn K mg "bits_at" sBitsAt ["row", "place", "size"] f fd) (O : Fn K mg "ones" sOnes ["size"] fO fdO) (T : Txt K mg) : FnOk P w K mg base CX0 2 f fd ["row", "place", "size"] spBitsAt := by
  have GO : FnOk P w K mg base CX0 1 fO fdO ["size"] spOnes := ok_ones O
  refine F.F.ok scBitsAt (fun vs H Q E h => ?_) (fun cdv A outer st H vs Q E hr h => ?_)
  · obtain ⟨a, B, p, s, rfl, _⟩ := h
    rfl
  · obtain ⟨a, B, p, s, rfl, hB, hb, hps, hs, k⟩ := h
    refine ⟨_, pss_cons (ps_set (i := 3) scBitsAt.nd rfl (Or.inl rfl) (pe_op op_add (pv 1) (pv 2)))
      (pss_cons (ps_set (i := 4) scBitsAt.nd rfl (Or.inl rfl) (pe_op op_fdiv (pe_op op_add (pv 3) pe_int) pe_int))
      (pss_cons (ps_set (i := 5) scBitsAt.nd rfl (Or.inl rfl) pe_int)
      (pss_cons (ps_for PassesOwn.never rfl (pi_list (pe_slice sl_list (pv 0) (po_some (pe_op op_fdiv (pv 1) pe_int)) (po_some (pv 4)))) (pg_name (i := 6) scBitsAt.nd rfl (Or.inl rfl))
        (pss_one (ps_set (i := 5) scBitsAt.nd rfl (Or.inl rfl) (pe_op op_or (pe_op op_shl (pv 5) pe_int) (pv 6)))))
      (pss_one (ps_ret (pe_op op_and (pe_op op_shr (pv 5) (pe_op op_sub (pe_op op_mul pe_int (pv 4)) (pv 3))) (pe_call GO hr (by rfl) O.m O.F.kp O.b .nil pass0 (pa_cons (pv 2) pa_nil)))))))), ?_⟩
    refine ⟨_, rfl, _, rfl, _, _, rfl, rfl, ?_⟩
    refine ⟨_, rfl, _, _, rfl, rfl, _, _, rfl, rfl, ⟨by decide, by decide⟩, ?_⟩
    have e1 : ((p : Int) + (s : Int) + 7) / 8 = (((p + s + 7) / 8 : Nat) : Int) := by omega
    have e2 : (p : Int) / 8 = ((p / 8 : Nat) : Int) := by omega
    have e3 : (p : Int) + (s : Int) = ((p + s : Nat) : Int) := by omega
    have h1 : p / 8 ≤ (p + s + 7) / 8 := by omega
    have h2 : (p + s + 7) / 8 ≤ B.length := by omega
    try dsimp only
    rw [e1, e3]
    refine ⟨_, rfl, _, rfl, _, _, rfl, rfl, ⟨by decide, by decide⟩, _, rfl, _, rfl, _, rfl, a, _, rfl, SqL.of hB, fun l hl => ?_⟩
    try dsimp only
    rw [e2, cut_nat h1 h2]
    have hc : ∀ b ∈ (B.take ((p + s + 7) / 8)).drop (p / 8), b < 256 := fun b hb' => hb b (List.mem_of_mem_take (List.mem_of_mem_drop hb'))
    have hcl : ((B.take ((p + s + 7) / 8)).drop (p / 8)).length ≤ 4 := by rw [List.length_drop, List.length_take]; omega
    have key := BP.bits_cut hb hps
    generalize (B.take ((p + s + 7) / 8)).drop (p / 8) = C at *
    have sm : Same H (upd H l (.lst (C.map vN))) := fun b o e => by rw [upd_ne (ne_of_none e hl)]; exact e
    refine ⟨l, rfl, ⟨_, SqL.of upd_same⟩, for_list (D := ⟨_, _, fun _ _ => False, fun _ _ => False⟩) (K := K) (a := l) (xs := C.map vN) (fun i σ H2 => ∃ v : Option V, σ = [some (.ref a), some (vN p), some (vN s), some (vN (p + s)), some (vN ((p + s + 7) / 8)), some (vN (BP.val (C.take i))), v] ∧ H2 = upd H l (.lst (C.map vN)))
      ⟨none, rfl, rfl⟩ (fun i σ H2 _ ⟨_, _, e⟩ => by rw [e]; exact SqL.of upd_same) ?_ ?_⟩
    · rintro i y σ H2 hi ⟨v, rfl, rfl⟩
      obtain ⟨b, hb1, rfl⟩ := map_get hi
      have hb2 : b < 256 := hc b (List.mem_of_getElem? hb1)
      have hil : i < C.length := (List.getElem?_eq_some_iff.mp hb1).1
      have hv : BP.val (C.take i) < 256 ^ (C.take i).length := BP.val_lt fun b hb' => hc b (List.mem_of_mem_take hb')
      have hv2 : BP.val (C.take i) < 256 ^ 4 := Nat.lt_of_lt_of_le hv (Nat.pow_le_pow_right (by decide) (by rw [List.length_take]; omega))
      refine ⟨_, rfl, _, _, rfl, rfl, ⟨by decide, by decide, ?_⟩, _, rfl, _, _, rfl, rfl, ?_⟩
      · have : (256 : Nat) ^ 4 < 2 ^ 64 := by decide
        omega
      · have e := or_low (BP.val (C.take i)) b 8 hb2
        have e' : BP.val (C.take i) * 2 ^ 8 + b = BP.val (C.take (i + 1)) := by rw [take_snoc hb1, BP.val_snoc]
        try dsimp only
        rw [e'] at e
        exact ⟨some (vN b), congrArg (fun z : Int => [some (V.ref a), some (vN p), some (vN s), some (vN (p + s)), some (vN ((p + s + 7) / 8)), some (V.int z), some (vN b)]) e, rfl⟩
    · rintro σ H2 ⟨v, rfl, rfl⟩
      try dsimp only
      rw [List.length_map, List.take_length]
      have e4 : (8 : Int) * (((p + s + 7) / 8 : Nat) : Int) - ((p + s : Nat) : Int) = ((8 * ((p + s + 7) / 8) - (p + s) : Nat) : Int) := by omega
      refine ⟨_, rfl, _, rfl, _, _, rfl, rfl, .inl ⟨by decide, by decide⟩, _, rfl, _, _, rfl, rfl, ?_⟩
      try dsimp only
      rw [e4]
      refine ⟨_, _, rfl, rfl, by omega, _, rfl, s, rfl, by omega, _, _, rfl, rfl, ?_⟩
      try dsimp only
      rw [shr_nat, and_mask, key]
      exact k _ sm
end
/-! ### a BitRow's attributes -/
theorem n_wr : ¬ (("whole_bytes" : Str) = "rest") := by decide +kernel
theorem n_ws : ¬ (("whole_bytes" : Str) = "rest_size") := by decide +kernel
theorem n_rs : ¬ (("rest" : Str) = "rest_size") := by decide +kernel
def fW (d : Addr) (r k : Nat) : List (Str × V) := [("whole_bytes", .ref d), ("rest", vN r), ("rest_size", vN k)]
theorem fW_mk (d : Addr) : putF "rest_size" (.int 0) (putF "rest" (.int 0) (putF "whole_bytes" (.ref d) [])) = fW d 0 0 := by
  show (putF "rest_size" (.int 0) (if ("whole_bytes" : Str) = "rest" then _ else (("whole_bytes" : Str), V.ref d) :: [("rest", V.int 0)])) = _
  rw [if_neg n_wr]
  show (if ("whole_bytes" : Str) = "rest_size" then _ else (("whole_bytes" : Str), V.ref d) :: (if ("rest" : Str) = "rest_size" then _ else (("rest" : Str), V.int 0) :: [("rest_size", V.int 0)])) = _
  rw [if_neg n_ws, if_neg n_rs]
  rfl
theorem fW_rest (d : Addr) (r k r' : Nat) : putF "rest" (vN r') (fW d r k) = fW d r' k := by
  show (if ("whole_bytes" : Str) = "rest" then _ else (("whole_bytes" : Str), V.ref d) :: (if ("rest" : Str) = "rest" then (("rest" : Str), vN r') :: [("rest_size", vN k)] else _)) = _
  rw [if_neg n_wr, if_pos rfl]
  rfl
theorem fW_size (d : Addr) (r k k' : Nat) : putF "rest_size" (vN k') (fW d r k) = fW d r k' := by
  show (if ("whole_bytes" : Str) = "rest_size" then _ else (("whole_bytes" : Str), V.ref d) :: (if ("rest" : Str) = "rest_size" then _ else (("rest" : Str), vN r) :: (if ("rest_size" : Str) = "rest_size" then [(("rest_size" : Str), vN k')] else _))) = _
  rw [if_neg n_ws, if_neg n_rs, if_pos rfl]
  rfl
theorem fW_as (d : Addr) (r k : Nat) : fW d r k = putF "rest_size" (vN k) (putF "rest" (vN r) (putF "whole_bytes" (.ref d) [])) := by
  have h := fW_mk d
  have h2 : putF "rest" (vN r) (putF "whole_bytes" (.ref d) []) = [(("whole_bytes" : Str), V.ref d), ("rest", vN r)] := by
    show (if ("whole_bytes" : Str) = "rest" then _ else (("whole_bytes" : Str), V.ref d) :: [("rest", vN r)]) = _
    rw [if_neg n_wr]
  rw [h2]
  show _ = (if ("whole_bytes" : Str) = "rest_size" then _ else (("whole_bytes" : Str), V.ref d) :: (if ("rest" : Str) = "rest_size" then _ else (("rest" : Str), vN r) :: [("rest_size", vN k)]))
  rw [if_neg n_ws, if_neg n_rs]
  rfl
theorem fW_get_w (d : Addr) (r k : Nat) : (fW d r k).lookup ("whole_bytes" : Str) = some (.ref d) := by
  rw [fW_as, lookup_putF, if_neg n_ws, lookup_putF, if_neg n_wr, lookup_putF, if_pos rfl]
theorem fW_get_r (d : Addr) (r k : Nat) : (fW d r k).lookup ("rest" : Str) = some (vN r) := by
  rw [fW_as, lookup_putF, if_neg n_rs, lookup_putF, if_pos rfl]
theorem fW_get_s (d : Addr) (r k : Nat) : (fW d r k).lookup ("rest_size" : Str) = some (vN k) := by
  rw [fW_as, lookup_putF, if_pos rfl]
theorem fW_no (d : Addr) (r k : Nat) {m : Str} (h1 : ¬ m = "rest_size") (h2 : ¬ m = "rest") (h3 : ¬ m = "whole_bytes") : (fW d r k).lookup m = none := by
  rw [fW_as, lookup_putF, if_neg h1, lookup_putF, if_neg h2, lookup_putF, if_neg h3]
  rfl
theorem fW_len (d : Addr) (r k : Nat) : (fW d r k).length < 1000 := by show 3 < 1000; decide
/-- a BitRow stands at p, its list at d: the bits N, T of them -/
def BitsAt (C : Addr) (H : Hp) (p d : Addr) (N T : Nat) : Prop := ∃ (dx : Addr) (B : List Nat) (r k : Nat), H p = some (.ins C dx (fW d r k)) ∧ H d = some (.lst (B.map vN)) ∧ BP.BR N T B r k ∧ k < 8
/-- what the walk asks of the class BitRow -/
structure CB (K : PySem.W.Frag) (mg : Str → Option Value) (C : Addr) : Prop where
  cl : Cls K C
  nW : NoAttr K C "whole_bytes"
  nR : NoAttr K C "rest"
  nS : NoAttr K C "rest_size"
section
variable {P : Program} {w : World} {K : PySem.W.Frag} {mg : Str → Option Value} {base : Heap} {C : Addr}
/-! ### BitRow.__init__ -/
def spBInit (C : Addr) : Sp := fun vs H Q _ => ∃ (p dx : Addr), vs = [.ref p] ∧ H p = some (.ins C dx []) ∧ ∀ (d : Addr) (H' : Hp), H d = none → BitsAt C H' p d 0 0 → (∀ b o, H b = some o → b ≠ p → H' b = some o) → Q .non H'
theorem scBInit : FnScope ["self"] ["self"] (defScope sBInit) := ⟨rfl, rfl, rfl, by decide +kernel, rfl, by decide +kernel, by decide +kernel⟩
theorem ok_binit {f : Addr} {fd : FuncData} (F : Fun K "__init__" "BitRow.__init__" sBInit f fd) (T : CB K mg C) : FnOk P w K mg base CX0 1 f fd ["self"] (spBInit C) := by
  refine F.ok scBInit (fun vs H Q E h => ?_) (fun cdv A outer s H vs Q E hr h => ?_)
  · obtain ⟨p, dx, rfl, _⟩ := h
    rfl
  · obtain ⟨p, dx, rfl, hp, k⟩ := h
    refine ⟨_, pss_cons (ps_fld (pv 0) (pe_lst pa_nil) rfl) (pss_cons (ps_fld (pv 0) pe_int rfl) (pss_one (ps_fld (pv 0) pe_int rfl))), ?_⟩
    refine ⟨Nat.zero_le _, fun d hd => ?_⟩
    have npd : p ≠ d := ne_of_none hp hd
    refine ⟨_, rfl, p, C, dx, [], rfl, (by rw [upd_ne npd]; exact hp), T.cl, T.nW, (by show 0 < 1000; decide), _, rfl, p, C, dx, _, rfl, upd_same, T.cl, T.nR, (by show 1 < 1000; decide), ?_⟩
    refine ⟨_, rfl, p, C, dx, _, rfl, upd_same, T.cl, T.nS, ?_, ?_⟩
    · show (if ("whole_bytes" : Str) = "rest" then _ else (("whole_bytes" : Str), V.ref d) :: [("rest", V.int 0)]).length < 1000
      try dsimp only
      rw [if_neg n_wr]
      show 2 < 1000
      decide
    refine k d _ hd ⟨dx, [], 0, 0, Eq.trans upd_same (congrArg (fun l => some (HO.ins C dx l)) (fW_mk d)), by rw [upd_ne npd.symm, upd_ne npd.symm, upd_ne npd.symm, upd_same]; rfl, BP.BR.init, by decide⟩ fun b o e hb => ?_
    rw [upd_ne hb, upd_ne hb, upd_ne hb, upd_ne (ne_of_none e hd)]
    exact e
/-! ### BitRow.move_byte -/
def spMove (C : Addr) : Sp := fun vs H Q _ => ∃ (p d dx : Addr) (B : List Nat) (r k : Nat), vs = [.ref p] ∧ H p = some (.ins C dx (fW d r (k + 8))) ∧ H d = some (.lst (B.map vN)) ∧ B.length ≤ 1000 ∧ k ≤ 100 ∧
  ∀ H', H' p = some (.ins C dx (fW d (r % 2 ^ k) k)) → H' d = some (.lst ((B ++ [r / 2 ^ k]).map vN)) → (∀ c o, H c = some o → c ≠ p → c ≠ d → H' c = some o) → Q .non H'
theorem scMove : FnScope ["self"] ["self"] (defScope sMove) := ⟨rfl, rfl, rfl, by decide +kernel, rfl, by decide +kernel, by decide +kernel⟩
theorem ok_move {f fO : Addr} {fd fdO : FuncData} (F : Fun K "move_byte" "BitRow.move_byte" sMove f fd) (O : Fn K mg "ones" sOnes ["size"] fO fdO) (T : CB K mg C) : FnOk P w K mg base CX0 2 f fd ["self"] (spMove C) := by
  have GO : FnOk P w K mg base CX0 1 fO fdO ["size"] spOnes := ok_ones O
  refine F.ok scMove (fun vs H Q E h => ?_) (fun cdv A outer s H vs Q E hr h => ?_)
  · obtain ⟨p, d, dx, B, r, k, rfl, _⟩ := h
    rfl
  · obtain ⟨p, d, dx, B, r, k, rfl, hp, hd, hB, hk, q⟩ := h
    have npd : p ≠ d := ne_of hp hd (by intro z; cases z)
    refine ⟨_, pss_cons (ps_fld (pv 0) (pe_op op_sub (pe_fld (pv 0) rfl) pe_int) rfl)
      (pss_cons (ps_expr (pe_bm PySem.F.plainAttrs_list PySem.F.slot_list_append PySem.F.type_list_append mt_append (pe_fld (pv 0) rfl) (pa_cons (pe_op op_shr (pe_fld (pv 0) rfl) (pe_fld (pv 0) rfl)) pa_nil)))
      (pss_one (ps_fld (pv 0) (pe_op op_and (pe_fld (pv 0) rfl) (pe_call GO hr (by rfl) O.m O.F.kp O.b .nil pass0 (pa_cons (pe_fld (pv 0) rfl) pa_nil))) rfl))), ?_⟩
    have e1 : (((k + 8 : Nat)) : Int) - 8 = (k : Int) := by omega
    refine ⟨_, rfl, p, C, dx, _, _, rfl, hp, T.cl, T.nS, fW_get_s _ _ _, _, _, rfl, rfl, _, rfl, p, C, dx, _, rfl, hp, T.cl, T.nS, fW_len _ _ _, ?_⟩
    try dsimp only
    rw [e1, fW_size]
    have hp1 : (upd H p (.ins C dx (fW d r k))) p = some (.ins C dx (fW d r k)) := upd_same
    have hd1 : (upd H p (.ins C dx (fW d r k))) d = some (.lst (B.map vN)) := by rw [upd_ne npd.symm]; exact hd
    refine ⟨_, rfl, p, C, dx, _, _, rfl, hp1, T.cl, T.nW, fW_get_w _ _ _, .inl ⟨rfl, _, SqL.of hd1⟩, ?_⟩
    refine ⟨_, rfl, p, C, dx, _, _, rfl, hp1, T.cl, T.nR, fW_get_r _ _ _, _, rfl, p, C, dx, _, _, rfl, hp1, T.cl, T.nS, fW_get_s _ _ _, _, _, rfl, rfl, by omega, ?_⟩
    refine ⟨d, _, _, rfl, rfl, hd1, small1000 (by rw [List.length_map]; exact hB), ?_⟩
    try dsimp only
    rw [shr_nat]
    generalize hH2 : upd (upd H p (.ins C dx (fW d r k))) d (.lst (B.map vN ++ [vN (r / 2 ^ k)])) = H2
    have hp2 : H2 p = some (.ins C dx (fW d r k)) := by rw [← hH2, upd_ne npd]; exact hp1
    have hd2 : H2 d = some (.lst ((B ++ [r / 2 ^ k]).map vN)) := by rw [← hH2, upd_same, List.map_append]; rfl
    have oth : ∀ c o, H c = some o → c ≠ p → c ≠ d → H2 c = some o := fun c o e n1 n2 => by rw [← hH2, upd_ne n2, upd_ne n1]; exact e
    refine ⟨_, rfl, p, C, dx, _, _, rfl, hp2, T.cl, T.nR, fW_get_r _ _ _, _, rfl, p, C, dx, _, _, rfl, hp2, T.cl, T.nS, fW_get_s _ _ _, k, rfl, by omega, _, _, rfl, rfl, ?_⟩
    try dsimp only
    rw [and_mask]
    refine ⟨_, rfl, p, C, dx, _, rfl, hp2, T.cl, T.nR, fW_len _ _ _, ?_⟩
    try dsimp only
    rw [fW_rest]
    refine q _ upd_same (by rw [upd_ne npd.symm]; exact hd2) fun c o e n1 n2 => ?_
    rw [upd_ne n1]
    exact oth c o e n1 n2
/-! ### BitRow.put -/
def spPut (C : Addr) : Sp := fun vs H Q _ => ∃ (p d : Addr) (N T n s : Nat), vs = [.ref p, vN n, vN s] ∧ BitsAt C H p d N T ∧ T ≤ 4000 ∧ s ≤ 24 ∧ n < 2 ^ s ∧
  ∀ H', BitsAt C H' p d (N * 2 ^ s + n) (T + s) → (∀ c o, H c = some o → c ≠ p → c ≠ d → H' c = some o) → Q .non H'
theorem scPut : FnScope ["self", "number", "size"] ["self", "number", "size"] (defScope sPut) := ⟨rfl, rfl, rfl, by decide +kernel, rfl, by decide +kernel, by decide +kernel⟩
theorem ok_put {f fO fW' fS fM : Addr} {fd fdO fdW fdS fdM : FuncData} (F : Fun K "put" "BitRow.put" sPut f fd) (S : Fn K mg "need_size" sNeedSize ["size"] fS fdS) (W : Fn K mg "is_whole" sWhole ["thing", "least", "most"] fW' fdW)
    (O : Fn K mg "ones" sOnes ["size"] fO fdO) (M : Me K C "move_byte" "BitRow.move_byte" sMove ["self"] fM fdM) (T : CB K mg C) (X : Txt K mg) : FnOk P w K mg base CX0 3 f fd ["self", "number", "size"] (spPut C) := by
  have GO : FnOk P w K mg base CX0 1 fO fdO ["size"] spOnes := ok_ones O
  have GW : FnOk P w K mg base CX0 1 fW' fdW ["thing", "least", "most"] spWhole := ok_whole W X
  have GS : FnOk P w K mg base CX0 2 fS fdS ["size"] spNeedSize := ok_needsize S W X
  have GM : FnOk P w K mg base CX0 2 fM fdM ["self"] (spMove C) := ok_move M.F O T
  refine F.ok scPut (fun vs H Q E h => ?_) (fun cdv A outer st H vs Q E hr h => ?_)
  · obtain ⟨p, d, N, T', n, s, rfl, _⟩ := h
    rfl
  · obtain ⟨p, d, N, T', n, s, rfl, ⟨dx, B, r, k, hp, hd, br, hk8⟩, hT, hs, hn, q⟩ := h
    have npd : p ≠ d := ne_of hp hd (by intro z; cases z)
    have hr1 : Room 1 _ := hr.mono (by decide)
    refine ⟨_, pss_cons (ps_expr (pe_call GS hr (by rfl) S.m S.F.kp S.b .nil pass0 (pa_cons (pv 2) pa_nil)))
      (pss_cons (ps_if (pt_not (pt_val (pe_call GW hr1 (by rfl) W.m W.F.kp W.b .nil pass0 (pa_cons (pv 1) (pa_cons pe_int (pa_cons (pe_call GO hr1 (by rfl) O.m O.F.kp O.b .nil pass0 (pa_cons (pv 2) pa_nil)) pa_nil)))))) (pss_one ps_never) pss_nil)
      (pss_cons (ps_fld (pv 0) (pe_op op_or (pe_op op_shl (pe_fld (pv 0) rfl) (pv 2)) (pv 1)) rfl)
      (pss_cons (ps_fld (pv 0) (pe_op op_add (pe_fld (pv 0) rfl) (pv 2)) rfl)
      (pss_one (ps_while PassesOwn.never (pt_cmpR op_ge (pe_fld (pv 0) rfl) pe_int (nomark _)) (pss_one (ps_expr (pe_meth0 (pv 0) T.cl M.m GM hr M.b .nil pass0)))))))), ?_⟩
    refine ⟨_, rfl, s, rfl, hs, ?_⟩
    refine ⟨_, rfl, _, rfl, s, rfl, by omega, _, _, _, rfl, _, rfl, ?_⟩
    have e1 : (decide ((0 : Int) ≤ (n : Int)) && decide ((n : Int) ≤ ((2 ^ s - 1 : Nat) : Int))) = true := by
      rw [decide_eq_true (by omega), decide_eq_true (by omega)]; rfl
    try dsimp only
    rw [e1]
    refine iteF ?_
    have hr128 : r < 128 := Nat.lt_of_lt_of_le br.low ((Nat.pow_le_pow_right (by decide) (by omega) : 2 ^ k ≤ 2 ^ 7))
    refine ⟨_, rfl, p, C, dx, _, _, rfl, hp, T.cl, T.nR, fW_get_r _ _ _, _, rfl, _, _, rfl, rfl, ⟨by omega, by omega, by omega⟩, _, rfl, _, _, rfl, rfl, ?_⟩
    try dsimp only
    rw [or_low r n s hn]
    refine ⟨_, rfl, p, C, dx, _, rfl, hp, T.cl, T.nR, fW_len _ _ _, ?_⟩
    try dsimp only
    rw [fW_rest]
    have hp1 : ∀ o, (upd H p o) p = some o := fun _ => upd_same
    refine ⟨_, rfl, p, C, dx, _, _, rfl, hp1 _, T.cl, T.nS, fW_get_s _ _ _, _, rfl, _, _, rfl, rfl, _, rfl, p, C, dx, _, rfl, hp1 _, T.cl, T.nS, fW_len _ _ _, ?_⟩
    have e2 : (k : Int) + (s : Int) = ((k + s : Nat) : Int) := by omega
    try dsimp only
    rw [e2, fW_size]
    have br1 := br.put hn
    generalize hH1 : upd (upd H p (.ins C dx (fW d (r * 2 ^ s + n) k))) p (.ins C dx (fW d (r * 2 ^ s + n) (k + s))) = H1
    have hpA : H1 p = some (.ins C dx (fW d (r * 2 ^ s + n) (k + s))) := by rw [← hH1]; exact upd_same
    have hdA : H1 d = some (.lst (B.map vN)) := by rw [← hH1, upd_ne npd.symm, upd_ne npd.symm]; exact hd
    have oth : ∀ c o, H c = some o → c ≠ p → c ≠ d → H1 c = some o := fun c o e n1 _ => by rw [← hH1, upd_ne n1, upd_ne n1]; exact e
    refine ⟨fun m σ H2 => σ = [some (.ref p), some (vN n), some (vN s)] ∧ ∃ B2 r2, H2 p = some (.ins C dx (fW d r2 m)) ∧ H2 d = some (.lst (B2.map vN)) ∧ BP.BR (N * 2 ^ s + n) (T' + s) B2 r2 m ∧ m ≤ 40 ∧ (∀ c o, H c = some o → c ≠ p → c ≠ d → H2 c = some o),
      ⟨k + s, rfl, B, _, hpA, hdA, br1, by omega, oth⟩, ?_⟩
    rintro m σ H2 ⟨rfl, B2, r2, hp2, hd2, br2, hm, oth2⟩
    refine ⟨_, rfl, p, C, dx, _, _, rfl, hp2, T.cl, T.nS, fW_get_s _ _ _, _, _, rfl, rfl, _, rfl, ?_⟩
    refine ite2 (fun h1 => ?_) (fun h1 => ?_)
    · have h8 : 8 ≤ m := by have := of_decide_eq_true h1; omega
      obtain ⟨m', rfl⟩ : ∃ m', m = m' + 8 := ⟨m - 8, by omega⟩
      have hBl : B2.length ≤ 1000 := by have := br2.tot; omega
      refine ⟨_, fun σ' H' h => h, _, rfl, p, dx, _, rfl, hp2, fW_no _ _ _ (by decide +kernel) (by decide +kernel) (by decide +kernel), p, d, dx, B2, r2, m', rfl, hp2, hd2, hBl, by omega, fun H3 hp3 hd3 oth3 => ?_⟩
      exact ⟨m', by omega, rfl, _, _, hp3, hd3, br2.move, by omega, fun c o e n1 n2 => oth3 c o (oth2 c o e n1 n2) n1 n2⟩
    · have h8 : m < 8 := by
        have h1' : decide ((8 : Int) ≤ (m : Int)) ≠ true := h1
        by_cases h : (8 : Int) ≤ (m : Int)
        · exact absurd (decide_eq_true h) h1'
        · omega
      exact q H2 ⟨dx, B2, r2, m, hp2, hd2, br2, h8⟩ oth2
/-! ### BitRow.many, BitRow.row -/
def spMany (C : Addr) : Sp := fun vs H Q _ => ∃ (p d : Addr) (N T : Nat), vs = [.ref p] ∧ BitsAt C H p d N T ∧ Q (vN T) H
theorem scMany : FnScope ["self"] ["self"] (defScope sMany) := ⟨rfl, rfl, rfl, by decide +kernel, rfl, by decide +kernel, by decide +kernel⟩
theorem ok_many {f : Addr} {fd : FuncData} (F : Fun K "many" "BitRow.many" sMany f fd) (T : CB K mg C) (X : Txt K mg) : FnOk P w K mg base CX0 1 f fd ["self"] (spMany C) := by
  refine F.ok scMany (fun vs H Q E h => ?_) (fun cdv A outer st H vs Q E hr h => ?_)
  · obtain ⟨p, d, N, T', rfl, _⟩ := h
    rfl
  · obtain ⟨p, d, N, T', rfl, ⟨dx, B, r, k, hp, hd, br, hk8⟩, q⟩ := h
    refine ⟨_, pss_one (ps_ret (pe_op op_add (pe_op op_mul pe_int (pe_callB call_len_seq (by rfl) X.len PySem.boot_len (pa_cons (pe_fld (pv 0) rfl) pa_nil))) (pe_fld (pv 0) rfl))), ?_⟩
    refine ⟨_, rfl, p, C, dx, _, _, rfl, hp, T.cl, T.nW, fW_get_w _ _ _, d, _, rfl, .inl (SqL.of hd), _, _, rfl, rfl, .inl ⟨by decide, by decide⟩, ?_⟩
    refine ⟨_, rfl, p, C, dx, _, _, rfl, hp, T.cl, T.nS, fW_get_s _ _ _, _, _, rfl, rfl, ?_⟩
    have e : (8 : Int) * ((B.map vN).length : Int) + (k : Int) = (T' : Int) := by rw [List.length_map, br.tot]; omega
    try dsimp only
    rw [e]
    exact q
def spRowOut (C : Addr) : Sp := fun vs H Q _ => ∃ (p d : Addr) (N T : Nat), vs = [.ref p] ∧ BitsAt C H p d N T ∧ T ≤ 4000 ∧ ∀ (l : Addr) (R : List Nat) (H' : Hp), H l = none → H' l = some (.lst (R.map vN)) → BP.RowOf N T R → Same H H' → Q (.ref l) H'
theorem scRowOut : FnScope ["self", "told"] ["self"] (defScope sRowOut) := ⟨rfl, rfl, rfl, by decide +kernel, rfl, by decide +kernel, by decide +kernel⟩
theorem ok_rowout {f : Addr} {fd : FuncData} (F : Fun K "row" "BitRow.row" sRowOut f fd) (T : CB K mg C) (X : Txt K mg) : FnOk P w K mg base CX0 1 f fd ["self"] (spRowOut C) := by
  refine F.ok scRowOut (fun vs H Q E h => ?_) (fun cdv A outer st H vs Q E hr h => ?_)
  · obtain ⟨p, d, N, T', rfl, _⟩ := h
    rfl
  · obtain ⟨p, d, N, T', rfl, ⟨dx, B, r, k, hp, hd, br, hk8⟩, hT, q⟩ := h
    refine ⟨_, pss_cons (ps_set (i := 1) scRowOut.nd rfl (Or.inl rfl) (pe_callTy call_list_of (by rfl) X.list PyProof.Rows.boot_list (pa_cons (pe_fld (pv 0) rfl) pa_nil)))
      (pss_cons (ps_if (pt_cmpR op_gt (pe_fld (pv 0) rfl) pe_int (nomark _))
        (pss_one (ps_expr (pe_bm PySem.F.plainAttrs_list PySem.F.slot_list_append PySem.F.type_list_append mt_append (pv 1) (pa_cons (pe_op op_shl (pe_fld (pv 0) rfl) (pe_op op_sub pe_int (pe_fld (pv 0) rfl))) pa_nil)))) pss_nil)
      (pss_one (ps_ret (pv 1)))), ?_⟩
    refine ⟨_, rfl, p, C, dx, _, _, rfl, hp, T.cl, T.nW, fW_get_w _ _ _, d, _, rfl, .inl (SqL.of hd), fun l hl => ?_⟩
    have npl : p ≠ l := ne_of_none hp hl
    have hp1 : (upd H l (.lst (B.map vN))) p = some (.ins C dx (fW d r k)) := by rw [upd_ne npl]; exact hp
    refine ⟨_, rfl, p, C, dx, _, _, rfl, hp1, T.cl, T.nS, fW_get_s _ _ _, _, _, rfl, rfl, _, rfl, ?_⟩
    refine ite2 (fun h1 => ?_) (fun h1 => ?_)
    · have h0 : 0 < k := by have := of_decide_eq_true h1; omega
      have hr128 : r < 128 := Nat.lt_of_lt_of_le br.low ((Nat.pow_le_pow_right (by decide) (by omega) : 2 ^ k ≤ 2 ^ 7))
      have hBl : B.length ≤ 1000 := by have := br.tot; omega
      have e1 : (8 : Int) - (k : Int) = ((8 - k : Nat) : Int) := by omega
      refine ⟨_, rfl, .inl ⟨rfl, _, SqL.of upd_same⟩, _, rfl, p, C, dx, _, _, rfl, hp1, T.cl, T.nR, fW_get_r _ _ _, _, rfl, p, C, dx, _, _, rfl, hp1, T.cl, T.nS, fW_get_s _ _ _, _, _, rfl, rfl, ?_⟩
      try dsimp only
      rw [e1]
      refine ⟨_, _, rfl, rfl, ⟨by omega, by omega, by omega⟩, l, _, _, rfl, rfl, upd_same, small1000 (by rw [List.length_map]; exact hBl), _, rfl, ?_⟩
      try dsimp only
      rw [shl_nat]
      refine q l (B ++ [r * 2 ^ (8 - k)]) _ hl (by rw [upd_same, List.map_append]; rfl) (br.row1 h0 hk8) fun b o e => ?_
      rw [upd_ne (ne_of_none e hl), upd_ne (ne_of_none e hl)]
      exact e
    · have h0 : k = 0 := by
        have h1' : decide ((0 : Int) < (k : Int)) ≠ true := h1
        by_cases h : (0 : Int) < (k : Int)
        · exact absurd (decide_eq_true h) h1'
        · omega
      subst h0
      refine ⟨_, rfl, ?_⟩
      refine q l B _ hl upd_same br.row0 fun b o e => ?_
      rw [upd_ne (ne_of_none e hl)]
      exact e
end
/-! ### a BitReader's attributes -/
theorem n_ht : ¬ (("held" : Str) = "taken") := by decide +kernel
def fR (d : Addr) (t : Nat) : List (Str × V) := [("held", .ref d), ("taken", vN t)]
theorem fR_as (d : Addr) (t : Nat) : putF "taken" (vN t) (putF "held" (.ref d) []) = fR d t := by
  show (if ("held" : Str) = "taken" then _ else (("held" : Str), V.ref d) :: [("taken", vN t)]) = _
  rw [if_neg n_ht]
  rfl
theorem fR_put (d : Addr) (t t' : Nat) : putF "taken" (vN t') (fR d t) = fR d t' := by
  show (if ("held" : Str) = "taken" then _ else (("held" : Str), V.ref d) :: (if ("taken" : Str) = "taken" then [(("taken" : Str), vN t')] else _)) = _
  rw [if_neg n_ht, if_pos rfl]
  rfl
theorem fR_get_h (d : Addr) (t : Nat) : (fR d t).lookup ("held" : Str) = some (.ref d) := by
  rw [← fR_as, lookup_putF, if_neg n_ht, lookup_putF, if_pos rfl]
theorem fR_get_t (d : Addr) (t : Nat) : (fR d t).lookup ("taken" : Str) = some (vN t) := by
  rw [← fR_as, lookup_putF, if_pos rfl]
theorem fR_no (d : Addr) (t : Nat) {m : Str} (h1 : ¬ m = "taken") (h2 : ¬ m = "held") : (fR d t).lookup m = none := by
  rw [← fR_as, lookup_putF, if_neg h1, lookup_putF, if_neg h2]
  rfl
theorem fR_len (d : Addr) (t : Nat) : (fR d t).length < 1000 := by show 2 < 1000; decide
/-- a BitReader of the row R stands at p, its list at d, t bits taken -/
structure ReadAt (C : Addr) (H : Hp) (p d : Addr) (R : List Nat) (t : Nat) : Prop where
  ob : ∃ dx, H p = some (.ins C dx (fR d t))
  ls : H d = some (.lst (R.map vN))
  by' : ∀ b ∈ R, b < 256
  le : t ≤ 8 * R.length
structure CRd (K : PySem.W.Frag) (mg : Str → Option Value) (C : Addr) : Prop where
  cl : Cls K C
  nH : NoAttr K C "held"
  nT : NoAttr K C "taken"
section
variable {P : Program} {w : World} {K : PySem.W.Frag} {mg : Str → Option Value} {base : Heap} {C : Addr}
/-! ### BitReader.__init__ -/
def spRInit (C : Addr) : Sp := fun vs H Q _ => ∃ (p dx a : Addr) (R : List Nat), vs = [.ref p, .ref a] ∧ H p = some (.ins C dx []) ∧ H a = some (.lst (R.map vN)) ∧ (∀ b ∈ R, b < 256) ∧
  ∀ (d : Addr) (H' : Hp), H d = none → ReadAt C H' p d R 0 → (∀ b o, H b = some o → b ≠ p → H' b = some o) → Q .non H'
theorem scRInit : FnScope ["self", "row"] ["self", "row"] (defScope sRInit) := ⟨rfl, rfl, rfl, by decide +kernel, rfl, by decide +kernel, by decide +kernel⟩
theorem ok_rinit {f fN : Addr} {fd fdN : FuncData} (F : Fun K "__init__" "BitReader.__init__" sRInit f fd) (N : Fn K mg "need_row" sNeedRow ["thing"] fN fdN) (Y : Rows K mg) (T : CRd K mg C) : FnOk P w K mg base CX0 5 f fd ["self", "row"] (spRInit C) := by
  have GN : FnOk P w K mg base CX0 4 fN fdN ["thing"] spNeedRow := ok_needrow N Y
  refine F.ok scRInit (fun vs H Q E h => ?_) (fun cdv A outer st H vs Q E hr h => ?_)
  · obtain ⟨p, dx, a, R', rfl, _⟩ := h
    rfl
  · obtain ⟨p, dx, a, R', rfl, hp, ha, hb, k⟩ := h
    refine ⟨_, pss_cons (ps_fld (pv 0) (pe_call GN hr (by rfl) N.m N.F.kp N.b .nil pass0 (pa_cons (pv 1) pa_nil)) rfl) (pss_one (ps_fld (pv 0) pe_int rfl)), ?_⟩
    refine ⟨_, rfl, a, R', rfl, ha, hb, fun d hd => ?_⟩
    have npd : p ≠ d := ne_of_none hp hd
    refine ⟨_, rfl, p, C, dx, [], rfl, (by rw [upd_ne npd]; exact hp), T.cl, T.nH, (by show 0 < 1000; decide), _, rfl, p, C, dx, _, rfl, upd_same, T.cl, T.nT, (by show 1 < 1000; decide), ?_⟩
    refine k d _ hd ⟨⟨dx, Eq.trans upd_same (congrArg (fun l => some (HO.ins C dx l)) (fR_as d 0))⟩, by rw [upd_ne npd.symm, upd_ne npd.symm, upd_same], hb, Nat.zero_le _⟩ fun b o e hb => ?_
    rw [upd_ne hb, upd_ne hb, upd_ne (ne_of_none e hd)]
    exact e
/-! ### BitReader.left -/
def spLeft (C : Addr) : Sp := fun vs H Q _ => ∃ (p d : Addr) (R : List Nat) (t : Nat), vs = [.ref p] ∧ ReadAt C H p d R t ∧ Q (vN (8 * R.length - t)) H
theorem scLeft : FnScope ["self"] ["self"] (defScope sLeft) := ⟨rfl, rfl, rfl, by decide +kernel, rfl, by decide +kernel, by decide +kernel⟩
theorem ok_left {f : Addr} {fd : FuncData} (F : Fun K "left" "BitReader.left" sLeft f fd) (T : CRd K mg C) (X : Txt K mg) : FnOk P w K mg base CX0 1 f fd ["self"] (spLeft C) := by
  refine F.ok scLeft (fun vs H Q E h => ?_) (fun cdv A outer st H vs Q E hr h => ?_)
  · obtain ⟨p, d, R, t, rfl, _⟩ := h
    rfl
  · obtain ⟨p, d, R, t, rfl, ⟨⟨dx, hp⟩, hd, hb, ht⟩, q⟩ := h
    refine ⟨_, pss_one (ps_ret (pe_op op_sub (pe_op op_mul pe_int (pe_callB call_len_seq (by rfl) X.len PySem.boot_len (pa_cons (pe_fld (pv 0) rfl) pa_nil))) (pe_fld (pv 0) rfl))), ?_⟩
    refine ⟨_, rfl, p, C, dx, _, _, rfl, hp, T.cl, T.nH, fR_get_h _ _, d, _, rfl, .inl (SqL.of hd), _, _, rfl, rfl, .inl ⟨by decide, by decide⟩, ?_⟩
    refine ⟨_, rfl, p, C, dx, _, _, rfl, hp, T.cl, T.nT, fR_get_t _ _, _, _, rfl, rfl, ?_⟩
    have e : (8 : Int) * ((R.map vN).length : Int) - (t : Int) = ((8 * R.length - t : Nat) : Int) := by rw [List.length_map]; omega
    try dsimp only
    rw [e]
    exact q
/-! ### BitReader.take -/
def spTake (C cN : Addr) : Sp := fun vs H Q E => ∃ (p d : Addr) (R : List Nat) (t s : Nat), vs = [.ref p, vN s] ∧ ReadAt C H p d R t ∧ s ≤ 24 ∧
  (t + s ≤ 8 * R.length → ∀ H', ReadAt C H' p d R (t + s) → (∀ c o, H c = some o → c ≠ p → H' c = some o) → Q (vN (bt R t s)) H') ∧ (8 * R.length < t + s → E (.ref cN) none H)
theorem scTake : FnScope ["self", "size", "number"] ["self", "size"] (defScope sTake) := ⟨rfl, rfl, rfl, by decide +kernel, rfl, by decide +kernel, by decide +kernel⟩
theorem ok_take {f fS fW' fB fO fL : Addr} {fd fdS fdW fdB fdO fdL : FuncData} (F : Fun K "take" "BitReader.take" sTake f fd) (S : Fn K mg "need_size" sNeedSize ["size"] fS fdS) (W : Fn K mg "is_whole" sWhole ["thing", "least", "most"] fW' fdW)
    (B : Fn K mg "bits_at" sBitsAt ["row", "place", "size"] fB fdB) (O : Fn K mg "ones" sOnes ["size"] fO fdO) (L : Me K C "left" "BitReader.left" sLeft ["self"] fL fdL) (T : CRd K mg C) (X : Txt K mg) {cP cN cT : Addr} {cs ds : List Addr} (Z : Ers K mg cP cN cT cs ds) :
    FnOk P w K mg base (CX1 P w) 31 f fd ["self", "size"] (spTake C cN) := by
  have GS : FnOk P w K mg base CX0 2 fS fdS ["size"] spNeedSize := ok_needsize S W X
  have GB : FnOk P w K mg base CX0 2 fB fdB ["row", "place", "size"] spBitsAt := ok_bitsat B O X
  have GL : FnOk P w K mg base CX0 1 fL fdL ["self"] (spLeft C) := ok_left L.F T X
  refine F.okE scTake (fun vs H Q E h => ?_) (fun cdv A outer st H vs Q E hr h => ?_)
  · obtain ⟨p, d, R, t, s, rfl, _⟩ := h
    rfl
  · obtain ⟨p, d, R, t, s, rfl, S0, hs, q, qE⟩ := h
    obtain ⟨⟨dx, hp⟩, hd, hb, ht⟩ := id S0
    have npd : p ≠ d := ne_of hp hd (by intro z; cases z)
    have hr1 : Room 1 _ := hr.mono (by decide)
    have hr2 : Room 2 _ := hr.mono (by decide)
    refine ⟨_, pss_cons (ps_expr (pe_call GS hr2 (by rfl) S.m S.F.kp S.b .nil pass0 (pa_cons (pv 1) pa_nil)))
      (pss_cons (ps_if (pt_cmpR op_gt (pv 1) (pe_meth0 (pv 0) T.cl L.m GL hr1 L.b .nil pass0) (nomark _)) (pss_one (ps_raise passE (hr.hd (by decide)) (by rfl) Z.mN Z.xN pe_str)) pss_nil)
      (pss_cons (ps_set (i := 2) scTake.nd rfl (Or.inl rfl) (pe_call GB hr2 (by rfl) B.m B.F.kp B.b .nil pass0 (pa_cons (pe_fld (pv 0) rfl) (pa_cons (pe_fld (pv 0) rfl) (pa_cons (pv 1) pa_nil)))))
      (pss_cons (ps_fld (pv 0) (pe_op op_add (pe_fld (pv 0) rfl) (pv 1)) rfl)
      (pss_one (ps_ret (pv 2)))))), ?_⟩
    refine ⟨_, rfl, s, rfl, hs, ?_⟩
    refine ⟨_, rfl, _, rfl, p, dx, _, rfl, hp, fR_no _ _ (by decide +kernel) (by decide +kernel), p, d, R, t, rfl, S0, _, _, rfl, rfl, _, rfl, ite2 (fun h0 => ?_) (fun h0 => ?_)⟩
    · have := of_decide_eq_true h0
      exact qE (by omega)
    have hts : t + s ≤ 8 * R.length := by
      have : ¬ (((8 * R.length - t : Nat) : Int) < (s : Int)) := fun z => h0 (decide_eq_true z)
      omega
    have q := q hts
    refine ⟨_, rfl, p, C, dx, _, _, rfl, hp, T.cl, T.nH, fR_get_h _ _, _, rfl, p, C, dx, _, _, rfl, hp, T.cl, T.nT, fR_get_t _ _, _, rfl, d, R, t, s, rfl, hd, hb, hts, hs, fun H1 sm => ?_⟩
    have hp1 := sm _ _ hp
    refine ⟨_, rfl, p, C, dx, _, _, rfl, hp1, T.cl, T.nT, fR_get_t _ _, _, rfl, _, _, rfl, rfl, _, rfl, p, C, dx, _, rfl, hp1, T.cl, T.nT, fR_len _ _, ?_⟩
    have e1 : (t : Int) + (s : Int) = ((t + s : Nat) : Int) := by omega
    try dsimp only
    rw [e1, fR_put]
    refine ⟨_, rfl, ?_⟩
    refine q _ ⟨⟨dx, upd_same⟩, by rw [upd_ne npd.symm]; exact sm _ _ hd, hb, hts⟩ fun c o e n1 => ?_
    rw [upd_ne n1]
    exact sm c o e
end
section
variable {P : Program} {w : World} {K : PySem.W.Frag} {mg : Str → Option Value} {base : Heap} {C : Addr}
/-! ### BitReader.place -/
def spPlace (C : Addr) : Sp := fun vs H Q _ => ∃ (p d : Addr) (R : List Nat) (t : Nat), vs = [.ref p] ∧ ReadAt C H p d R t ∧ Q (vN t) H
theorem scPlace : FnScope ["self"] ["self"] (defScope sPlace) := ⟨rfl, rfl, rfl, by decide +kernel, rfl, by decide +kernel, by decide +kernel⟩
theorem ok_place {f : Addr} {fd : FuncData} (F : Fun K "place" "BitReader.place" sPlace f fd) (T : CRd K mg C) : FnOk P w K mg base CX0 1 f fd ["self"] (spPlace C) := by
  refine F.ok scPlace (fun vs H Q E h => ?_) (fun cdv A outer st H vs Q E hr h => ?_)
  · obtain ⟨p, d, R, t, rfl, _⟩ := h
    rfl
  · obtain ⟨p, d, R, t, rfl, ⟨⟨dx, hp⟩, hd, hb, ht⟩, q⟩ := h
    refine ⟨_, pss_one (ps_ret (pe_fld (pv 0) rfl)), ?_⟩
    exact ⟨_, rfl, p, C, dx, _, _, rfl, hp, T.cl, T.nT, fR_get_t _ _, q⟩
/-! ### BitReader.go -/
def spGo (C : Addr) : Sp := fun vs H Q _ => ∃ (p d : Addr) (R : List Nat) (t u : Nat), vs = [.ref p, vN u] ∧ ReadAt C H p d R t ∧ u ≤ 8 * R.length ∧ ∀ H', ReadAt C H' p d R u → (∀ c o, H c = some o → c ≠ p → H' c = some o) → Q .non H'
theorem scGo : FnScope ["self", "place"] ["self", "place"] (defScope sGo) := ⟨rfl, rfl, rfl, by decide +kernel, rfl, by decide +kernel, by decide +kernel⟩
theorem ok_go {f fW' : Addr} {fd fdW : FuncData} (F : Fun K "go" "BitReader.go" sGo f fd) (W : Fn K mg "is_whole" sWhole ["thing", "least", "most"] fW' fdW) (T : CRd K mg C) (X : Txt K mg) : FnOk P w K mg base CX0 2 f fd ["self", "place"] (spGo C) := by
  have GW : FnOk P w K mg base CX0 1 fW' fdW ["thing", "least", "most"] spWhole := ok_whole W X
  refine F.ok scGo (fun vs H Q E h => ?_) (fun cdv A outer st H vs Q E hr h => ?_)
  · obtain ⟨p, d, R, t, u, rfl, _⟩ := h
    rfl
  · obtain ⟨p, d, R, t, u, rfl, ⟨⟨dx, hp⟩, hd, hb, ht⟩, hu, q⟩ := h
    have npd : p ≠ d := ne_of hp hd (by intro z; cases z)
    refine ⟨_, pss_cons (ps_if (pt_not (pt_val (pe_call GW hr (by rfl) W.m W.F.kp W.b .nil pass0 (pa_cons (pv 1) (pa_cons pe_int (pa_cons (pe_op op_mul pe_int (pe_callB call_len_seq (by rfl) X.len PySem.boot_len (pa_cons (pe_fld (pv 0) rfl) pa_nil))) pa_nil)))))) (pss_one ps_never) pss_nil)
      (pss_one (ps_fld (pv 0) (pv 1) rfl)), ?_⟩
    refine ⟨_, rfl, _, rfl, p, C, dx, _, _, rfl, hp, T.cl, T.nH, fR_get_h _ _, d, _, rfl, .inl (SqL.of hd), _, _, rfl, rfl, .inl ⟨by decide, by decide⟩, _, _, _, rfl, _, rfl, ?_⟩
    have e1 : (decide ((0 : Int) ≤ (u : Int)) && decide ((u : Int) ≤ 8 * ((R.map vN).length : Int))) = true := by
      rw [decide_eq_true (by omega), decide_eq_true (by rw [List.length_map]; omega)]; rfl
    try dsimp only
    rw [e1]
    refine iteF ?_
    refine ⟨_, rfl, _, rfl, p, C, dx, _, rfl, hp, T.cl, T.nT, fR_len _ _, ?_⟩
    rw [fR_put]
    refine q _ ⟨⟨dx, upd_same⟩, by rw [upd_ne npd.symm]; exact hd, hb, hu⟩ fun c o e n1 => ?_
    rw [upd_ne n1]
    exact e
end
end K12

set_option Elab.async false
set_option linter.all false
set_option maxRecDepth 100000
set_option maxHeartbeats 4000000
namespace K12
open PySem L2 QQ W13 W12 BP
seal PE PA PS PSs PT PW PG PI
section
variable {P : Program} {w : World} {K : PySem.W.Frag} {mg : Str → Option Value} {base : Heap} {C : Addr}
/-! ### any thing -/
def spWholeV (K : PySem.W.Frag) : Sp := fun vs H Q _ => ∃ (x : V) (lo hi : Int) (b : Bool), vs = [x, .int lo, .int hi] ∧ WhV K H x lo hi b ∧ Q (.bl b) H
def spNumbV (K : PySem.W.Frag) : Sp := fun vs H Q _ => ∃ (x : V) (b : Bool), vs = [x] ∧ ((∃ i, x = .int i ∧ b = true) ∨ (NoInt K H x ∧ b = false)) ∧ Q (.bl b) H
theorem ok_numbV {f : Addr} {fd : FuncData} (F : Fun K "is_number" "is_number" sIsNumb f fd) (T : Txt K mg) : FnOk P w K mg base CX0 0 f fd ["thing"] (spNumbV K) := by
  refine F.ok0 scNumb (fun vs H Q E h => ?_) (fun cdv A outer s H vs Q E h => ?_)
  · obtain ⟨x, b, rfl, _⟩ := h
    rfl
  · obtain ⟨x, b, rfl, hw, k⟩ := h
    refine ⟨_, pss_one (ps_ret (pe_and (pe_callB call_isi (by rfl) T.isi PyProof.Rows.boot_isinstance (pa_cons (pv 0) (pa_cons (pe_bltn (v := .ty "int") (by rfl) T.int PyProof.Rows.boot_int rfl) pa_nil))) (pe_one (pe_not (pe_callB call_isi (by rfl) T.isi PyProof.Rows.boot_isinstance (pa_cons (pv 0) (pa_cons (pe_bltn (v := .ty "bool") (by rfl) T.bool PyProof.Rows.boot_bool rfl) pa_nil))))))), ?_⟩
    rcases hw with ⟨i, rfl, rfl⟩ | ⟨⟨t, b', c, ty, k1, k2, k3⟩, rfl⟩
    · refine ⟨_, rfl, _, _, _, _, rfl, .int _, kit_ii K, _, rfl, iteT ?_⟩
      exact ⟨_, rfl, _, _, _, _, rfl, .int _, kit_ib K, _, rfl, k⟩
    · refine ⟨_, rfl, _, _, _, _, rfl, ty, k1, _, rfl, ?_⟩
      cases c with
      | false => exact iteF k
      | true =>
        rcases k3 with k3 | k3
        · cases k3
        · subst k3
          exact iteT ⟨_, rfl, _, _, _, _, rfl, ty, k2, _, rfl, k⟩
theorem ok_wholeV {f : Addr} {fd : FuncData} (F : Fn K mg "is_whole" sWhole ["thing", "least", "most"] f fd) (T : Txt K mg) : FnOk P w K mg base CX0 1 f fd ["thing", "least", "most"] (spWholeV K) := by
  obtain ⟨fN, fdN, NF, Nm, Nb⟩ := T.isnumb
  have GN := ok_numbV (P := P) (w := w) (base := base) NF T
  refine F.F.ok scWhole (fun vs H Q E h => ?_) (fun cdv A outer s H vs Q E hr h => ?_)
  · obtain ⟨x, lo, hi, b, rfl, _⟩ := h
    rfl
  · obtain ⟨x, lo, hi, b, rfl, hw, k⟩ := h
    refine ⟨_, pss_one (ps_ret (pe_and (pe_call GN hr (by rfl) Nm NF.kp Nb .nil pass0 (pa_cons (pv 0) pa_nil)) (pe_one (pe_chain op_le op_le (pv 1) (pv 0) (pv 2))))), ?_⟩
    rcases hw with ⟨i, rfl, rfl⟩ | ⟨hN, rfl⟩
    · refine ⟨_, rfl, _, true, rfl, .inl ⟨i, rfl, rfl⟩, _, rfl, iteT ?_⟩
      refine ⟨_, rfl, _, rfl, _, _, rfl, rfl, _, rfl, ?_⟩
      refine ite2 (fun h1 => ?_) (fun h1 => ?_)
      · refine ⟨_, rfl, _, _, rfl, rfl, ?_⟩
        rw [h1, Bool.true_and] at k
        exact k
      · have h2 : decide (lo ≤ i) = false := by simpa using h1
        rw [h2, Bool.false_and] at k
        exact k
    · exact ⟨_, rfl, _, false, rfl, .inr ⟨hN, rfl⟩, _, rfl, iteF k⟩
/-- no table: no list, one of another size, or one with something that is no length behind good ones -/
def NoTab (K : PySem.W.Frag) (H : Hp) (x : V) : Prop := (∃ t, TyOf K H x t ∧ PySem.W.kitOne K t (.type "list") = some false) ∨
  (∃ (a : Addr) (L : List Nat), x = .ref a ∧ H a = some (.lst (L.map vN)) ∧ (∀ b ∈ L, b ≤ 6) ∧ L.length ≠ 272) ∨
  ∃ (a : Addr) (xs : List V) (j : Nat) (y : V), x = .ref a ∧ H a = some (.lst xs) ∧ (∀ i : Nat, i < j → ∃ n : Nat, n ≤ 6 ∧ xs[i]? = some (vN n)) ∧ xs[j]? = some y ∧ WhV K H y 0 6 false
def spAreWhole6 (K : PySem.W.Frag) : Sp := fun vs H Q _ => ∃ x : V, vs = [x, .int 0, .int 6] ∧ ((∃ (a : Addr) (L : List Nat), x = .ref a ∧ H a = some (.lst (L.map vN)) ∧ (∀ b ∈ L, b ≤ 6) ∧ Q (.bl true) H) ∨
  (((∃ t, TyOf K H x t ∧ PySem.W.kitOne K t (.type "list") = some false) ∨ ∃ (a : Addr) (xs : List V) (j : Nat) (y : V), x = .ref a ∧ H a = some (.lst xs) ∧ (∀ i : Nat, i < j → ∃ n : Nat, n ≤ 6 ∧ xs[i]? = some (vN n)) ∧ xs[j]? = some y ∧ WhV K H y 0 6 false) ∧ Q (.bl false) H))
theorem six_ok (b : Nat) (h : b ≤ 6) : (decide ((0 : Int) ≤ (b : Int)) && decide ((b : Int) ≤ 6)) = true := by
  rw [decide_eq_true (by omega), decide_eq_true (by omega)]; rfl
theorem ok_arewhole6 {f fW : Addr} {fd fdW : FuncData} (F : Fn K mg "are_whole" sAreWhole ["thing", "least", "most"] f fd) (W : Fn K mg "is_whole" sWhole ["thing", "least", "most"] fW fdW) (T : Txt K mg) : FnOk P w K mg base CX0 2 f fd ["thing", "least", "most"] (spAreWhole6 K) := by
  have GW : FnOk P w K mg base CX0 1 fW fdW ["thing", "least", "most"] (spWholeV K) := ok_wholeV W T
  refine F.F.ok scAreWhole (fun vs H Q E h => ?_) (fun cdv A outer s H vs Q E hr h => ?_)
  · obtain ⟨x, rfl, _⟩ := h
    rfl
  · obtain ⟨x, rfl, h⟩ := h
    refine ⟨_, pss_cons (ps_if (pt_not (pt_val (pe_callB call_isi (by rfl) T.isi PyProof.Rows.boot_isinstance (pa_cons (pv 0) (pa_cons (pe_bltn (v := .ty "list") (by rfl) T.list PyProof.Rows.boot_list rfl) pa_nil))))) (pss_one (ps_ret pe_bl)) pss_nil)
      (pss_cons (ps_for PassesOwn.never rfl (pi_list (pv 0)) (pg_name (i := 3) scAreWhole.nd rfl (Or.inl rfl))
        (pss_one (ps_if (pt_not (pt_val (pe_call GW hr (by rfl) W.m W.F.kp W.b .nil pass0 (pa_cons (pv 3) (pa_cons (pv 1) (pa_cons (pv 2) pa_nil)))))) (pss_one (ps_ret pe_bl)) pss_nil)))
      (pss_one (ps_ret pe_bl))), ?_⟩
    rcases h with ⟨a, B, rfl, hB, hb, k⟩ | ⟨⟨t, ty, kl⟩ | ⟨a, xs, j, y, rfl, hL, hg1, hj, hy⟩, k⟩
    · refine ⟨_, rfl, _, _, _, _, rfl, .lst hB, kit_ll K, _, rfl, iteF ?_⟩
      refine ⟨_, rfl, a, rfl, ⟨_, SqL.of hB⟩, for_list (K := K) (a := a) (xs := B.map vN) (fun i σ H2 => ∃ v : Option V, σ = [some (.ref a), some (.int 0), some (.int 6), v] ∧ H2 = H)
        ⟨none, rfl, rfl⟩ (fun i σ H2 _ ⟨_, _, e⟩ => by rw [e]; exact SqL.of hB) ?_ ?_⟩
      · rintro i y σ H2 hi ⟨v, rfl, rfl⟩
        obtain ⟨b, hb1, rfl⟩ : ∃ b, b ∈ B ∧ y = vN b := by
          rw [List.getElem?_map] at hi
          cases e : B[i]? with
          | none => rw [e] at hi; cases hi
          | some z => rw [e] at hi; exact ⟨z, List.mem_of_getElem? e, (Option.some.inj hi).symm⟩
        refine ⟨_, rfl, _, rfl, _, rfl, _, _, _, _, rfl, .inl ⟨_, rfl, rfl⟩, _, rfl, ?_⟩
        rw [six_ok b (hb b hb1)]
        exact iteF ⟨_, rfl, rfl⟩
      · rintro σ H2 ⟨v, rfl, rfl⟩
        exact k
    · exact ⟨_, rfl, _, _, _, _, rfl, ty, kl, _, rfl, iteT k⟩
    · refine ⟨_, rfl, _, _, _, _, rfl, .lst hL, kit_ll K, _, rfl, iteF ?_⟩
      refine ⟨_, rfl, a, rfl, ⟨_, SqL.of hL⟩, for_list (K := K) (a := a) (xs := xs) (fun i σ H2 => i ≤ j ∧ ∃ v : Option V, σ = [some (.ref a), some (.int 0), some (.int 6), v] ∧ H2 = H)
        ⟨Nat.zero_le _, none, rfl, rfl⟩ (fun i σ H2 _ ⟨_, _, _, e⟩ => by rw [e]; exact SqL.of hL) ?_ ?_⟩
      · rintro i z σ H2 hi ⟨hij, v, rfl, rfl⟩
        by_cases e : i = j
        · subst e
          rw [hj] at hi
          cases hi
          exact ⟨_, rfl, _, rfl, _, rfl, _, _, _, _, rfl, hy, _, rfl, iteT k⟩
        · obtain ⟨n, hn, e2⟩ := hg1 i (by omega)
          rw [e2] at hi
          cases hi
          refine ⟨_, rfl, _, rfl, _, rfl, _, _, _, _, rfl, .inl ⟨_, rfl, rfl⟩, _, rfl, ?_⟩
          rw [six_ok n hn]
          exact iteF ⟨by omega, _, rfl, rfl⟩
      · rintro σ H2 ⟨hij, v, rfl, rfl⟩
        have := (List.getElem?_eq_some_iff.mp hj).1
        omega
/-! ### need_table, again_from -/
def spNeedTable (K : PySem.W.Frag) (cT : Addr) : Sp := fun vs H Q E => ∃ x : V, vs = [x] ∧ ((∃ (a : Addr) (L : List Nat), x = .ref a ∧ H a = some (.lst (L.map vN)) ∧ L.length = 272 ∧ (∀ b ∈ L, b ≤ 6) ∧ Q .non H) ∨ (NoTab K H x ∧ E (.ref cT) none H))
theorem scNeedTable : FnScope ["lengths"] ["lengths"] (defScope sNeedTable) := ⟨rfl, rfl, rfl, by decide +kernel, rfl, by decide +kernel, by decide +kernel⟩
theorem ok_needtable {f : Addr} {fd : FuncData} (F : Fn K mg "need_table" sNeedTable ["lengths"] f fd) (Y : Rows K mg) {cP cN cT : Addr} {cs ds : List Addr} (Z : Ers K mg cP cN cT cs ds) : FnOk P w K mg base (CXE P w) 31 f fd ["lengths"] (spNeedTable K cT) := by
  obtain ⟨T, ⟨_, _, W⟩, ⟨_, _, AW⟩, _⟩ := Y
  have GA := ok_arewhole6 (P := P) (w := w) (base := base) AW W T
  obtain ⟨tb, hb⟩ := T.bits
  obtain ⟨tm, hm⟩ := T.many
  refine F.F.okE scNeedTable (fun vs H Q E h => ?_) (fun cdv A outer s H vs Q E hr h => ?_)
  · obtain ⟨x, rfl, _⟩ := h
    rfl
  · obtain ⟨x, rfl, h⟩ := h
    have hr2 : Room 2 _ := hr.mono (by decide)
    refine ⟨_, pss_one (ps_if (PW.pt (pw_or (pt_not (pt_val (pe_call GA hr2 (by rfl) AW.m AW.F.kp AW.b .nil pass0 (pa_cons (pv 0) (pa_cons pe_int (pa_cons (pe_glob (v := .int 6) (by rfl) hb ⟨tb, rfl⟩) pa_nil))))))
      (pw_or1 (pt_cmpR op_ne (pe_callB call_len_seq (by rfl) T.len PySem.boot_len (pa_cons (pv 0) pa_nil)) (pe_glob (v := .int 272) (by rfl) hm ⟨tm, rfl⟩) (nomark _))))) (pss_one (ps_raise passE (hr.hd (by decide)) (by rfl) Z.mT Z.xT pe_str)) pss_nil), ?_⟩
    rcases h with ⟨a, L, rfl, hL, hl, h6, k⟩ | ⟨hN | ⟨a, L, rfl, hL, h6, hl⟩ | hN, k⟩
    · refine ⟨_, rfl, _, rfl, .inl ⟨a, L, rfl, hL, h6, _, rfl, iteF ?_⟩⟩
      refine ⟨_, rfl, a, _, rfl, .inl (SqL.of hL), rfl, _, rfl, iteNS ?_ k⟩
      rw [List.length_map, hl]
      rfl
    · exact ⟨_, rfl, _, rfl, .inr ⟨.inl hN, _, rfl, iteT k⟩⟩
    · refine ⟨_, rfl, _, rfl, .inl ⟨a, L, rfl, hL, h6, _, rfl, iteF ?_⟩⟩
      refine ⟨_, rfl, a, _, rfl, .inl (SqL.of hL), rfl, _, rfl, ite2 (fun _ => k) (fun z => absurd ?_ z)⟩
      show (!decide (V.int ((L.map vN).length : Int) = V.int 272)) = true
      rw [List.length_map, decide_eq_false (fun z => by injection z with z; omega)]
      rfl
    · exact ⟨_, rfl, _, rfl, .inr ⟨.inr hN, _, rfl, iteT k⟩⟩
def spAgain : Sp := fun vs H Q _ => ∃ (a : Addr) (L : List Nat) (p ah : Nat), vs = [.ref a, vN p, vN ah] ∧ H a = some (.lst (L.map vN)) ∧ L.length = 272 ∧ p ≤ 272 ∧ Q (vN (min 66 (run ah (L.drop p)))) H
theorem scAgain : FnScope ["lengths", "place", "ahead", "most", "again"] ["lengths", "place", "ahead"] (defScope sAgain) := ⟨rfl, rfl, rfl, by decide +kernel, rfl, by decide +kernel, by decide +kernel⟩
theorem ok_again {f : Addr} {fd : FuncData} (F : Fn K mg "again_from" sAgain ["lengths", "place", "ahead"] f fd) (T : Txt K mg) : FnOk P w K mg base CX0 31 f fd ["lengths", "place", "ahead"] spAgain := by
  obtain ⟨tm, hm⟩ := T.many
  obtain ⟨ta, hma⟩ := T.mostA
  refine F.F.ok scAgain (fun vs H Q E h => ?_) (fun cdv A outer st H vs Q E hr h => ?_)
  · obtain ⟨a, L, p, ah, rfl, _⟩ := h
    rfl
  · obtain ⟨a, L, p, ah, rfl, hL, hl, hp, k⟩ := h
    have hn := hr.hd (by decide)
    refine ⟨_, pss_cons (ps_set (i := 3) scAgain.nd rfl (Or.inl rfl) (pe_callB (call_min2 hn) (by rfl) T.min PyProof.Rows.boot_min (pa_cons (pe_glob (v := .int 66) (by rfl) hma ⟨ta, rfl⟩) (pa_cons (pe_op op_sub (pe_glob (v := .int 272) (by rfl) hm ⟨tm, rfl⟩) (pv 1)) pa_nil))))
      (pss_cons (ps_set (i := 4) scAgain.nd rfl (Or.inl rfl) pe_int)
      (pss_cons (ps_while PassesOwn.never (PW.pt (pw_and (pt_cmpR op_lt (pv 4) (pv 3) (nomark _)) (pw_and1 (pt_cmpR op_eq (pe_ix ix_list (pv 0) (pe_op op_add (pv 1) (pv 4)) (fun _ _ => rfl)) (pv 2) (nomark _)))))
        (pss_one (ps_set (i := 4) scAgain.nd rfl (Or.inl rfl) (pe_op op_add (pv 4) pe_int))))
      (pss_one (ps_ret (pv 4))))), ?_⟩
    refine seq_g fun R1 g1 => ?_
    refine ⟨_, rfl, _, _, rfl, rfl, _, _, rfl, g1 _ _ ?_⟩
    clear g1
    obtain ⟨m, em, hm1⟩ : ∃ m : Nat, (if (272 : Int) - ((p : Nat) : Int) < 66 then (272 : Int) - ((p : Nat) : Int) else 66) = ((m : Nat) : Int) ∧ m = min 66 (272 - p) := ⟨min 66 (272 - p), by split <;> omega, rfl⟩
    try dsimp only
    rw [em]
    refine seq_g fun R1 g1 => g1 _ _ ?_
    clear g1
    refine seq_g fun R1 g1 => ?_
    have hrl := run_le ah (L.drop p)
    rw [List.length_drop] at hrl
    refine ⟨fun n σ H2 => ∃ i : Nat, n = m - i ∧ σ = [some (.ref a), some (vN p), some (vN ah), some (vN m), some (vN i)] ∧ H2 = H ∧ i ≤ m ∧ ∀ j < i, (L.drop p)[j]? = some ah, ⟨m, 0, rfl, rfl, rfl, Nat.zero_le _, fun j hj => absurd hj (Nat.not_lt_zero _)⟩, ?_⟩
    rintro n σ H2 ⟨i, rfl, rfl, rfl, hi, hall⟩
    refine ⟨_, rfl, _, rfl, _, _, rfl, rfl, _, rfl, ite2 (fun h1 => ?_) (fun h1 => ?_)⟩
    · have h2 : i < m := by have := of_decide_eq_true h1; omega
      have e1 : ((p : Nat) : Int) + ((i : Nat) : Int) = ((p + i : Nat) : Int) := by omega
      have l1 : p + i < L.length := by omega
      refine ⟨_, rfl, _, rfl, _, rfl, _, _, rfl, rfl, ?_⟩
      try dsimp only
      rw [e1]
      have hgd : (L.drop p)[i]? = some L[p + i] := by rw [List.getElem?_drop, List.getElem?_eq_getElem l1]
      refine ⟨a, _, _, _, rfl, rfl, SqL.of hL, atI_nat (get_vN l1), _, rfl, rfl, _, rfl, ite2 (fun h3 => ?_) (fun h3 => ?_)⟩
      · have h4 : L[p + i] = ah := vN_inj.mp (of_decide_eq_true h3)
        refine ⟨fun σ' H' => σ' = [some (.ref a), some (vN p), some (vN ah), some (vN m), some (vN (i + 1))] ∧ H' = H2, fun σ' H' z => ⟨m - (i + 1), by omega, i + 1, rfl, z.1, z.2, by omega, fun j hj => ?_⟩, ?_⟩
        · by_cases e : j = i
          · subst e
            rw [hgd, h4]
          · exact hall j (by omega)
        · exact ⟨_, rfl, _, _, rfl, rfl, rfl, rfl⟩
      · refine g1 _ _ ⟨_, rfl, ?_⟩
        have h4 : (L.drop p)[i]? ≠ some ah := by
          rw [hgd]
          intro z
          exact h3 (decide_eq_true (vN_inj.mpr (Option.some.inj z)))
        rw [run_eq hall h4, Nat.min_eq_right (by omega)] at k
        exact k
    · refine iteF (g1 _ _ ⟨_, rfl, ?_⟩)
      have h2 : i = m := by
        have h1' : ¬ (decide ((i : Int) < (m : Int)) = true) := h1
        have : ¬ ((i : Int) < (m : Int)) := fun z => h1' (decide_eq_true z)
        omega
      subst h2
      have h5 := run_of hall
      have e : min 66 (run ah (L.drop p)) = i := by omega
      rw [e] at k
      exact k
/-! ### put_table -/
theorem cost_le : ∀ P : List Itm, tots (puts P) ≤ 9 * P.length := by
  intro P
  have e : tots (puts P) = (P.map Itm.cost).sum := puts_cost P
  rw [e]
  clear e
  induction P with
  | nil => simp
  | cons x P ih =>
    have : x.cost ≤ 9 := by cases x <;> simp [Itm.cost]
    simp
    omega
def spPutTable (K : PySem.W.Frag) (C cT : Addr) : Sp := fun vs H Q E => ∃ (p d : Addr) (x : V) (N0 T0 : Nat), vs = [.ref p, x] ∧ BitsAt C H p d N0 T0 ∧ T0 ≤ 1000 ∧ ((∃ (a : Addr) (L : List Nat), x = .ref a ∧ H a = some (.lst (L.map vN)) ∧ L.length = 272 ∧ (∀ b ∈ L, b ≤ 6) ∧ a ≠ d ∧
  ∀ (Pp : List Itm) (b : Nat) (H' : Hp), Walk L 0 0 Pp 272 b → BitsAt C H' p d (nums (puts Pp) N0) (T0 + tots (puts Pp)) → (∀ c o, H c = some o → c ≠ p → c ≠ d → H' c = some o) → Q .non H') ∨ (NoTab K H x ∧ E (.ref cT) none H))
theorem scPutTable : FnScope ["bits", "lengths", "place", "ahead", "again"] ["bits", "lengths"] (defScope sPutTable) := ⟨rfl, rfl, rfl, by decide +kernel, rfl, by decide +kernel, by decide +kernel⟩
/-- what the walk asks of the class BitRow, its methods, and of what they reach -/
structure Bts (K : PySem.W.Frag) (mg : Str → Option Value) (C : Addr) : Prop where
  R : Rows K mg
  T : CB K mg C
  m : mg "BitRow" = some (.ref C)
  needsize : ∃ f fd, Fn K mg "need_size" sNeedSize ["size"] f fd
  ones : ∃ f fd, Fn K mg "ones" sOnes ["size"] f fd
  init : ∃ f fd, Fun K "__init__" "BitRow.__init__" sBInit f fd ∧ Binds K fd ["self"] [] ∧ Mk K C f
  put : ∃ f fd, Me K C "put" "BitRow.put" sPut ["self", "number", "size"] f fd
  move : ∃ f fd, Me K C "move_byte" "BitRow.move_byte" sMove ["self"] f fd
  many : ∃ f fd, Me K C "many" "BitRow.many" sMany ["self"] f fd
  row : ∃ f fd, Me K C "row" "BitRow.row" sRowOut ["self"] f fd
theorem ok_puttable {f fN fA : Addr} {fd fdN fdA : FuncData} (F : Fn K mg "put_table" sPutTable ["bits", "lengths"] f fd) (NT : Fn K mg "need_table" sNeedTable ["lengths"] fN fdN) (AF : Fn K mg "again_from" sAgain ["lengths", "place", "ahead"] fA fdA) (B : Bts K mg C) {cP cN cT : Addr} {cs ds : List Addr} (Z : Ers K mg cP cN cT cs ds) : FnOk P w K mg base (CXE P w) 32 f fd ["bits", "lengths"] (spPutTable K C cT) := by
  have GN := ok_needtable (P := P) (w := w) (base := base) NT B.R Z
  have X := B.R.X
  have GA := ok_again (P := P) (w := w) (base := base) AF X
  obtain ⟨_, _, W⟩ := B.R.whole
  obtain ⟨_, _, S⟩ := B.needsize
  obtain ⟨_, _, O⟩ := B.ones
  obtain ⟨_, _, Pu⟩ := B.put
  obtain ⟨_, _, M⟩ := B.move
  have T := B.T
  have GP := ok_put (P := P) (w := w) (base := base) Pu.F S W O M T X
  obtain ⟨tm, hm⟩ := X.many
  obtain ⟨ta, hag⟩ := X.again
  obtain ⟨tl, hle⟩ := X.least
  refine F.F.okE scPutTable (fun vs H Q E h => ?_) (fun cdv A outer st H vs Q E hr h => ?_)
  · obtain ⟨p, d, x, N0, T0, rfl, _⟩ := h
    rfl
  · obtain ⟨p, d, x, N0, T0, rfl, hB, hT0, h⟩ := h
    have hr3 : Room 3 _ := hr.mono (by decide)
    refine ⟨_, pss_cons (ps_expr (pe_call GN hr (by rfl) NT.m NT.F.kp NT.b .nil passE (pa_cons (pv 1) pa_nil)))
      (pss_cons (ps_set (i := 2) scPutTable.nd rfl (Or.inl rfl) pe_int)
      (pss_cons (ps_set (i := 3) scPutTable.nd rfl (Or.inl rfl) pe_int)
      (pss_one (ps_while PassesOwn.leaving (pt_cmpR op_lt (pv 2) (pe_glob (v := .int 272) (by rfl) hm ⟨tm, rfl⟩) (nomark _))
        (pss_cons (ps_set (i := 4) scPutTable.nd rfl (Or.inl rfl) (pe_call GA hr (by rfl) AF.m AF.F.kp AF.b .nil pass0 (pa_cons (pv 1) (pa_cons (pv 2) (pa_cons (pv 3) pa_nil)))))
        (pss_one (ps_if (pt_cmpR op_ge (pv 4) (pe_glob (v := .int 3) (by rfl) hle ⟨tl, rfl⟩) (nomark _))
          (pss_cons (ps_expr (pe_meth (pv 0) T.cl Pu.m GP hr3 Pu.b .nil pass0 (pa_cons (pe_glob (v := .int 7) (by rfl) hag ⟨ta, rfl⟩) (pa_cons pe_int pa_nil))))
          (pss_cons (ps_expr (pe_meth (pv 0) T.cl Pu.m GP hr3 Pu.b .nil pass0 (pa_cons (pe_op op_sub (pv 4) (pe_glob (v := .int 3) (by rfl) hle ⟨tl, rfl⟩)) (pa_cons pe_int pa_nil))))
          (pss_one (ps_set (i := 2) scPutTable.nd rfl (Or.inl rfl) (pe_op op_add (pv 2) (pv 4))))))
          (pss_cons (ps_set (i := 3) scPutTable.nd rfl (Or.inl rfl) (pe_ix ix_list (pv 1) (pv 2) (fun _ _ => rfl)))
          (pss_cons (ps_expr (pe_meth (pv 0) T.cl Pu.m GP hr3 Pu.b .nil pass0 (pa_cons (pv 3) (pa_cons pe_int pa_nil))))
          (pss_one (ps_set (i := 2) scPutTable.nd rfl (Or.inl rfl) (pe_op op_add (pv 2) pe_int)))))))))))), ?_⟩
    rcases h with ⟨a, L, rfl, ha, hl, h6, nad, k⟩ | ⟨hN, k⟩
    rotate_left
    · exact ⟨_, rfl, _, rfl, .inr ⟨hN, k⟩⟩
    have nap : a ≠ p := by
      obtain ⟨dx, _, _, _, hp, _⟩ := hB
      exact ne_of ha hp (by intro z; cases z)
    refine seq_g fun R1 g1 => ?_
    refine ⟨_, rfl, _, rfl, .inl ⟨a, L, rfl, ha, hl, h6, g1 _ _ ?_⟩⟩
    clear g1
    refine seq_g fun R1 g1 => g1 _ _ ?_
    clear g1
    refine seq_g fun R1 g1 => g1 _ _ ?_
    clear g1
    refine ⟨fun n σ H2 => ∃ (q ah : Nat) (Pp : List Itm) (v4 : Option V), n = 272 - q ∧ σ = [some (.ref p), some (.ref a), some (vN q), some (vN ah), v4] ∧ q ≤ 272 ∧ Walk L 0 0 Pp q ah ∧ BitsAt C H2 p d (nums (puts Pp) N0) (T0 + tots (puts Pp)) ∧ (∀ c o, H c = some o → c ≠ p → c ≠ d → H2 c = some o),
      ⟨272, 0, 0, [], none, rfl, rfl, by decide, ⟨rfl, rfl⟩, hB, fun c o e _ _ => e⟩, ?_⟩
    rintro n σ H2 ⟨q, ah, Pp, v4, rfl, rfl, hq, hw, hB2, kp⟩
    refine ⟨_, rfl, _, _, rfl, rfl, _, rfl, ite2 (fun hc => ?_) (fun hc => ?_)⟩
    · have hq2 : q < 272 := by have := of_decide_eq_true hc; omega
      have hqL : q < L.length := by omega
      refine ⟨fun σ' H' => ∃ (q' ah : Nat) (Pp : List Itm) (v4 : Option V), q < q' ∧ σ' = [some (.ref p), some (.ref a), some (vN q'), some (vN ah), v4] ∧ q' ≤ 272 ∧ Walk L 0 0 Pp q' ah ∧ BitsAt C H' p d (nums (puts Pp) N0) (T0 + tots (puts Pp)) ∧ (∀ c o, H c = some o → c ≠ p → c ≠ d → H' c = some o),
        fun σ' H' ⟨q', ah, Pp, v4, hlt, z1, z2, z⟩ => ⟨272 - q', by omega, q', ah, Pp, v4, rfl, z1, z2, z⟩, ?_⟩
      have hwl := walk_len hw
      have hcl := cost_le Pp
      have ha2 := kp _ _ ha nap nad
      have hws := walk_snoc hw hqL
      have hsz := stAt_size (a := ah) hqL
      refine seq_g fun R2 g2 => ?_
      refine ⟨_, rfl, _, rfl, _, rfl, a, L, q, ah, rfl, ha2, hl, by omega, g2 _ _ ?_⟩
      clear g2
      obtain ⟨dx, B2, r2, k2, hp2, hd2, br2, hk2⟩ := id hB2
      have no : ∀ r k, (fW d r k).lookup ("put" : Str) = none := fun r k => fW_no _ _ _ (by decide +kernel) (by decide +kernel) (by decide +kernel)
      refine ⟨_, rfl, _, _, rfl, rfl, _, rfl, ite2 (fun h3 => ?_) (fun h3 => ?_)⟩
      · have h4 : 3 ≤ min 66 (run ah (L.drop q)) := by have := of_decide_eq_true h3; omega
        have est : stAt L q ah = .rep (min 66 (run ah (L.drop q))) := by unfold stAt; rw [if_pos h4]
        rw [est] at hws hsz
        have hr66 : min 66 (run ah (L.drop q)) ≤ 66 := by omega
        generalize min 66 (run ah (L.drop q)) = r at *
        refine ⟨_, rfl, p, dx, _, rfl, hp2, no _ _, p, d, _, _, 7, 3, rfl, hB2, by omega, by decide, by decide, fun H3 hB3 kp3 => ?_⟩
        obtain ⟨dx3, B3, r3, k3, hp3, hd3, br3, hk3⟩ := id hB3
        have er : ((r : Nat) : Int) - 3 = ((r - 3 : Nat) : Int) := by omega
        refine ⟨_, rfl, p, dx3, _, rfl, hp3, no _ _, _, rfl, _, _, rfl, rfl, ?_⟩
        try dsimp only
        rw [er]
        refine ⟨p, d, _, _, r - 3, 6, rfl, hB3, by omega, by decide, (by show r - 3 < 2 ^ 6; omega), fun H4 hB4 kp4 => ?_⟩
        refine ⟨_, rfl, _, rfl, _, _, rfl, rfl, q + r, ah, Pp ++ [.rep r], some (vN r), by omega, ?_, by have := hsz.2; show q + r ≤ 272; have e : (Itm.rep r).size = r := rfl; omega, hws, ?_, fun c o e n1 n2 => kp4 _ _ (kp3 _ _ (kp _ _ e n1 n2) n1 n2) n1 n2⟩
        · have e2 : ((q : Nat) : Int) + ((r : Nat) : Int) = ((q + r : Nat) : Int) := by omega
          try dsimp only
          rw [e2]
          rfl
        · rw [puts_append, nums_append, tots_append]
          have e5 : T0 + (tots (puts Pp) + tots (puts [Itm.rep r])) = T0 + tots (puts Pp) + 3 + 6 := by
            have : tots (puts [Itm.rep r]) = 9 := rfl
            omega
          rw [e5]
          exact hB4
      · have h4 : ¬ 3 ≤ min 66 (run ah (L.drop q)) := fun z => h3 (decide_eq_true (by omega))
        have est : stAt L q ah = .one L[q] := by unfold stAt; rw [if_neg h4]; simp [List.getD, hqL]
        rw [est] at hws
        have hx6 : L[q] ≤ 6 := h6 _ (List.getElem_mem hqL)
        refine ⟨_, rfl, _, rfl, a, _, _, _, rfl, rfl, SqL.of ha2, atI_nat (get_vN hqL), ?_⟩
        refine ⟨_, rfl, p, dx, _, rfl, hp2, no _ _, _, rfl, p, d, _, _, L[q], 3, rfl, hB2, by omega, by decide, (by show L[q] < 2 ^ 3; omega), fun H3 hB3 kp3 => ?_⟩
        refine ⟨_, rfl, _, _, rfl, rfl, q + 1, L[q], Pp ++ [.one L[q]], _, by omega, rfl, by omega, hws, ?_, fun c o e n1 n2 => kp3 _ _ (kp _ _ e n1 n2) n1 n2⟩
        rw [puts_append, nums_append, tots_append]
        have e5 : T0 + (tots (puts Pp) + tots (puts [Itm.one L[q]])) = T0 + tots (puts Pp) + 3 := by
          have : tots (puts [Itm.one L[q]]) = 3 := rfl
          omega
        rw [e5]
        exact hB3
    · have hq2 : q = 272 := by
        have h1 : ¬ (decide (((q : Nat) : Int) < 272) = true) := hc
        have : ¬ (((q : Nat) : Int) < 272) := fun z => h1 (decide_eq_true z)
        omega
      subst hq2
      exact k Pp ah H2 hw hB2 kp
end
end K12

set_option Elab.async false
set_option linter.all false
set_option maxRecDepth 100000
set_option maxHeartbeats 4000000
namespace K12
open PySem L2 QQ W13 W12 BP
seal PE PA PS PSs PT PW PG PI
theorem flat_one (r a : Nat) : (List.replicate r [vN a]).flatten = (List.replicate r a).map vN := by
  induction r with
  | zero => rfl
  | succ r ih => rw [List.replicate_succ, List.flatten_cons, ih]; rfl
section
variable {P : Program} {w : World} {K : PySem.W.Frag} {mg : Str → Option Value} {base : Heap} {C : Addr}
/-! ### lengths_in_items -/
/-- what the walk asks of the class BitReader, its methods, and of what they reach -/
structure Rdr (K : PySem.W.Frag) (mg : Str → Option Value) (C : Addr) : Prop where
  R : Rows K mg
  T : CRd K mg C
  m : mg "BitReader" = some (.ref C)
  needrow : ∃ f fd, Fn K mg "need_row" sNeedRow ["thing"] f fd
  needsize : ∃ f fd, Fn K mg "need_size" sNeedSize ["size"] f fd
  ones : ∃ f fd, Fn K mg "ones" sOnes ["size"] f fd
  bitsat : ∃ f fd, Fn K mg "bits_at" sBitsAt ["row", "place", "size"] f fd
  init : ∃ f fd, Fun K "__init__" "BitReader.__init__" sRInit f fd ∧ Binds K fd ["self", "row"] [] ∧ Mk K C f
  take : ∃ f fd, Me K C "take" "BitReader.take" sTake ["self", "size"] f fd
  left : ∃ f fd, Me K C "left" "BitReader.left" sLeft ["self"] f fd
  go : ∃ f fd, Me K C "go" "BitReader.go" sGo ["self", "place"] f fd
  place : ∃ f fd, Me K C "place" "BitReader.place" sPlace ["self"] f fd
def spItems (C cN : Addr) : Sp := fun vs H Q E => ∃ (p d : Addr) (R : List Nat) (t : Nat) (o : Option (Nat × Nat)), vs = [.ref p] ∧ ReadAt C H p d R t ∧ Rd R t 0 o ∧
  (∀ (c t' : Nat) (l : Addr) (L : List Nat) (H' : Hp), o = some (c, t') → L.length = c → H l = none → H' l = some (.lst (L.map vN)) → ReadAt C H' p d R t' → (∀ c o, H c = some o → c ≠ p → H' c = some o) → Q (.ref l) H') ∧
  (∀ (t' : Nat) (H' : Hp), o = none → ReadAt C H' p d R t' → (∀ c o, H c = some o → c ≠ p → H' c = some o) → E (.ref cN) none H')
theorem scItems : FnScope ["reader", "lengths", "ahead", "told"] ["reader"] (defScope sItems) := ⟨rfl, rfl, rfl, by decide +kernel, rfl, by decide +kernel, by decide +kernel⟩
theorem ok_items {f : Addr} {fd : FuncData} (F : Fn K mg "lengths_in_items" sItems ["reader"] f fd) (D : Rdr K mg C) {cP cN cT : Addr} {cs ds : List Addr} (Z : Ers K mg cP cN cT cs ds) : FnOk P w K mg base (CX1 P w) 32 f fd ["reader"] (spItems C cN) := by
  have X := D.R.X
  obtain ⟨_, _, W⟩ := D.R.whole
  obtain ⟨_, _, S⟩ := D.needsize
  obtain ⟨_, _, O⟩ := D.ones
  obtain ⟨_, _, BA⟩ := D.bitsat
  obtain ⟨_, _, Tk⟩ := D.take
  obtain ⟨_, _, Le⟩ := D.left
  have T := D.T
  have GT := ok_take (P := P) (w := w) (base := base) Tk.F S W BA O Le T X Z
  obtain ⟨tm, hm⟩ := X.many
  obtain ⟨ta, hag⟩ := X.again
  obtain ⟨tl, hle⟩ := X.least
  refine F.F.okE scItems (fun vs H Q E h => ?_) (fun cdv A outer st H vs Q E hr h => ?_)
  · obtain ⟨p, d, R, t, o, rfl, _⟩ := h
    rfl
  · obtain ⟨p, d, R, t0, o, rfl, hR, hRd, kQ, kE⟩ := h
    refine ⟨_, pss_cons (ps_set (i := 1) scItems.nd rfl (Or.inl rfl) (pe_lst pa_nil))
      (pss_cons (ps_set (i := 2) scItems.nd rfl (Or.inl rfl) pe_int)
      (pss_cons (ps_while PassesOwn.leaving (pt_cmpR op_lt (pe_callB call_len_seq (by rfl) X.len PySem.boot_len (pa_cons (pv 1) pa_nil)) (pe_glob (v := .int 272) (by rfl) hm ⟨tm, rfl⟩) (nomark _))
        (pss_cons (ps_set (i := 3) scItems.nd rfl (Or.inl rfl) (pe_meth (pv 0) T.cl Tk.m GT hr Tk.b .nil passE (pa_cons pe_int pa_nil)))
        (pss_one (ps_if (pt_cmpR op_eq (pv 3) (pe_glob (v := .int 7) (by rfl) hag ⟨ta, rfl⟩) (nomark _))
          (pss_one (ps_expr (pe_bm PySem.F.plainAttrs_list PySem.F.slot_list_extend PySem.F.type_list_extend mt_extend (pv 1) (pa_cons (pe_op op_rep (pe_lst (pa_cons (pv 2) pa_nil)) (pe_op op_add (pe_meth (pv 0) T.cl Tk.m GT hr Tk.b .nil passE (pa_cons pe_int pa_nil)) (pe_glob (v := .int 3) (by rfl) hle ⟨tl, rfl⟩))) pa_nil))))
          (pss_cons (ps_set (i := 2) scItems.nd rfl (Or.inl rfl) (pv 3))
          (pss_one (ps_expr (pe_bm PySem.F.plainAttrs_list PySem.F.slot_list_append PySem.F.type_list_append mt_append (pv 1) (pa_cons (pv 2) pa_nil)))))))))
      (pss_one (ps_ret (pv 1))))), ?_⟩
    refine seq_g fun R1 g1 => ?_
    refine ⟨by decide, fun l nl => g1 _ _ ?_⟩
    clear g1
    have s0 := same_new (o := .lst []) nl
    refine seq_g fun R1 g1 => g1 _ _ ?_
    clear g1
    refine seq_g fun R1 g1 => ?_
    have npl : p ≠ l := by obtain ⟨⟨dx, hp⟩, _⟩ := hR; exact ne_of_none hp nl
    have ndl : d ≠ l := ne_of_none hR.ls nl
    refine ⟨fun n σ H2 => ∃ (t ah : Nat) (L : List Nat) (v3 : Option V), n = 8 * R.length - t ∧ L.length ≤ 400 ∧ σ = [some (.ref p), some (.ref l), some (vN ah), v3] ∧ H2 l = some (.lst (L.map vN)) ∧ ReadAt C H2 p d R t ∧ Rd R t L.length o ∧ (∀ c o, H c = some o → c ≠ p → H2 c = some o),
      ⟨8 * R.length - t0, t0, 0, [], none, rfl, by decide, rfl, upd_same, ⟨hR.ob.elim fun dx hp => ⟨dx, s0 _ _ hp⟩, s0 _ _ hR.ls, hR.by', hR.le⟩, hRd, fun c o e _ => s0 _ _ e⟩, ?_⟩
    rintro n σ H2 ⟨t, ah, L, v3, rfl, hL4, rfl, h2l, hR2, hRd2, kp⟩
    have htl := hR2.le
    refine ⟨_, rfl, l, _, rfl, .inl (SqL.of h2l), _, _, rfl, rfl, _, rfl, ite2 (fun hc => ?_) (fun hc => ?_)⟩
    · clear g1
      have hlt : L.length < 272 := by have := of_decide_eq_true hc; rw [List.length_map] at this; omega
      refine ⟨fun σ' H' => ∃ (t' ah : Nat) (L : List Nat) (v3 : Option V), t < t' ∧ L.length ≤ 400 ∧ σ' = [some (.ref p), some (.ref l), some (vN ah), v3] ∧ H' l = some (.lst (L.map vN)) ∧ ReadAt C H' p d R t' ∧ Rd R t' L.length o ∧ (∀ c o, H c = some o → c ≠ p → H' c = some o),
        fun σ' H' ⟨t', ah, L, v3, hlt, h4, z1, z2, z3, z⟩ => ⟨8 * R.length - t', by have := z3.le; omega, t', ah, L, v3, rfl, h4, z1, z2, z3, z⟩, ?_⟩
      have no : ∀ t, (fR d t).lookup ("take" : Str) = none := fun t => fR_no _ _ (by decide +kernel) (by decide +kernel)
      obtain ⟨dx, hp2⟩ := hR2.ob
      refine seq_g fun R2 g2 => ?_
      refine ⟨_, rfl, p, dx, _, rfl, hp2, no _, p, d, R, t, 3, rfl, hR2, by decide, fun h3 H3 hR3 kp3 => g2 _ _ ?_, fun h3 => ?_⟩
      rotate_left
      · clear g2
        cases hRd2 with
        | done hc => omega
        | end3 _ _ => exact kE t H2 rfl hR2 kp
        | one _ h _ _ => omega
        | end6 _ h _ _ => omega
        | rep _ h _ _ => omega
      clear g2
      have h3l := kp3 _ _ h2l npl.symm
      have kp3' : ∀ c o, H c = some o → c ≠ p → H3 c = some o := fun c o e n1 => kp3 _ _ (kp _ _ e n1) n1
      refine ⟨_, rfl, rfl, _, rfl, ite2 (fun h7 => ?_) (fun h7 => ?_)⟩
      · have h7 : bt R t 3 = 7 := vN_inj.mp (of_decide_eq_true h7)
        refine ⟨_, rfl, .inl ⟨rfl, _, SqL.of h3l⟩, _, rfl, (by show 1 ≤ sizeLine; decide), fun l4 n4 => ?_⟩
        have s4 := same_new (o := .lst [vN ah]) n4
        obtain ⟨⟨dx3, hp3⟩, hd3, hb3, ht3⟩ := id hR3
        have hR4 : ReadAt C (upd H3 l4 (.lst [vN ah])) p d R (t + 3) := ⟨⟨dx3, s4 _ _ hp3⟩, s4 _ _ hd3, hb3, ht3⟩
        have h4l := s4 _ _ h3l
        have h44 : (upd H3 l4 (.lst [vN ah])) l4 = some (.lst [vN ah]) := upd_same
        have np4 : p ≠ l4 := ne_of_none hp3 n4
        have nl4 : l ≠ l4 := ne_of_none h3l n4
        have hp4 := s4 _ _ hp3
        have kp4 : ∀ c o, H c = some o → c ≠ p → (upd H3 l4 (.lst [vN ah])) c = some o := fun c o e n1 => s4 _ _ (kp3' _ _ e n1)
        generalize upd H3 l4 (.lst [vN ah]) = H4 at *
        refine ⟨_, rfl, p, dx3, _, rfl, hp4, no _, p, d, R, _, 6, rfl, hR4, by decide, fun h6 H5 hR5 kp5 => ?_, fun h6 => ?_⟩
        rotate_left
        · cases hRd2 with
          | done hc => omega
          | end3 _ h => omega
          | one _ _ h _ => exact absurd h7 h
          | end6 _ _ _ _ => exact kE _ H4 rfl hR4 kp4
          | rep _ h _ _ => omega
        have h54 := kp5 _ _ h44 np4.symm
        have h5l := kp5 _ _ h4l npl.symm
        have kp5' : ∀ c o, H c = some o → c ≠ p → H5 c = some o := fun c o e n1 => kp5 _ _ (kp4 _ _ e n1) n1
        have hb6 : bt R (t + 3) 6 < 64 := bt_lt R (t + 3) 6
        have hRd3 : Rd R (t + 3 + 6) (L.length + (bt R (t + 3) 6 + 3)) o := by
          cases hRd2 with
          | done hc => omega
          | end3 _ h => omega
          | one _ _ h _ => exact absurd h7 h
          | end6 _ _ _ h => omega
          | rep _ _ _ h => exact h
        generalize bt R (t + 3) 6 = r at *
        refine ⟨_, _, rfl, rfl, l4, _, _, rfl, rfl, h54, by omega, by omega, sl2000 (by show 1 * _ ≤ 2000; omega), fun l6 n6 => ?_⟩
        have e1 : (((r : Nat) : Int) + 3).toNat = r + 3 := by omega
        try dsimp only
        rw [e1, flat_one]
        have s6 := same_new (o := .lst ((List.replicate (r + 3) ah).map vN)) n6
        have h66 : (upd H5 l6 (.lst ((List.replicate (r + 3) ah).map vN))) l6 = some (.lst ((List.replicate (r + 3) ah).map vN)) := upd_same
        have h6l := s6 _ _ h5l
        obtain ⟨⟨dx5, hp5⟩, hd5, hb5, ht5⟩ := id hR5
        refine ⟨l, l6, _, _, rfl, rfl, h6l, h66, sl2000 (by rw [List.length_map, List.length_map, List.length_replicate]; omega), _, ah, L ++ List.replicate (r + 3) ah, _, by omega, by rw [List.length_append, List.length_replicate]; omega, rfl, by rw [upd_same, List.map_append], ⟨⟨dx5, by rw [upd_ne npl]; exact s6 _ _ hp5⟩, by rw [upd_ne ndl]; exact s6 _ _ hd5, hb5, ht5⟩, by rw [List.length_append, List.length_replicate]; exact hRd3, fun c o e n1 => ?_⟩
        rw [upd_ne (ne_of_none e nl)]
        exact s6 _ _ (kp5' _ _ e n1)
      · have h7 : bt R t 3 ≠ 7 := fun z => h7 (decide_eq_true (vN_inj.mpr z))
        have hRd3 : Rd R (t + 3) (L.length + 1) o := by
          cases hRd2 with
          | done hc => omega
          | end3 _ h => omega
          | one _ _ _ h => exact h
          | end6 _ _ h _ => exact absurd h h7
          | rep _ _ h _ => exact absurd h h7
        generalize bt R t 3 = y at *
        refine ⟨_, rfl, _, rfl, .inl ⟨rfl, _, SqL.of h3l⟩, _, rfl, l, _, _, rfl, rfl, h3l, sl2000' (by rw [List.length_map]; omega), t + 3, y, L ++ [y], _, by omega, by rw [List.length_append]; show L.length + 1 ≤ 400; omega, rfl, ?_, ?_, ?_, fun c o e n1 => ?_⟩
        · rw [upd_same, List.map_append]; rfl
        · obtain ⟨⟨dx3, hp3⟩, hd3, hb3, ht3⟩ := hR3
          exact ⟨⟨dx3, by rw [upd_ne npl]; exact hp3⟩, by rw [upd_ne ndl]; exact hd3, hb3, ht3⟩
        · rw [List.length_append]; exact hRd3
        · rw [upd_ne (ne_of_none e nl)]
          exact kp3' _ _ e n1
    · have hge : 272 ≤ L.length := by
        have h1 : ¬ (decide (((L.map vN).length : Int) < 272) = true) := hc
        rw [List.length_map] at h1
        have : ¬ (((L.length : Nat) : Int) < 272) := fun z => h1 (decide_eq_true z)
        omega
      refine g1 _ _ ⟨_, rfl, ?_⟩
      cases hRd2 with
      | done _ => exact kQ _ _ l L H2 rfl rfl nl h2l hR2 kp
      | end3 h _ => omega
      | one h _ _ _ => omega
      | end6 h _ _ _ => omega
      | rep h _ _ _ => omega
/-! ### take_table, where it refuses -/
def spTakeTable (C cN cT : Addr) : Sp := fun vs H Q E => ∃ (p d : Addr) (R : List Nat) (t : Nat) (o : Option (Nat × Nat)), vs = [.ref p] ∧ ReadAt C H p d R t ∧ Rd R t 0 o ∧ (∀ c t', o = some (c, t') → 272 < c) ∧
  ∀ H', ReadAt C H' p d R t → (∀ c o, H c = some o → c ≠ p → H' c = some o) → E (.ref (if o = none then cN else cT)) none H'
theorem scTakeTable : FnScope ["reader", "begin", "lengths"] ["reader"] (defScope sTakeTable) := ⟨rfl, rfl, rfl, by decide +kernel, rfl, by decide +kernel, by decide +kernel⟩
theorem ok_taketable {f fI : Addr} {fd fdI : FuncData} (F : Fn K mg "take_table" sTakeTable ["reader"] f fd) (It : Fn K mg "lengths_in_items" sItems ["reader"] fI fdI) (D : Rdr K mg C) {cP cN cT : Addr} {cs ds : List Addr} (Z : Ers K mg cP cN cT cs ds) : FnOk P w K mg base (CXE P w) 33 f fd ["reader"] (spTakeTable C cN cT) := by
  have GI := ok_items (P := P) (w := w) (base := base) It D Z
  have X := D.R.X
  obtain ⟨_, _, Pl⟩ := D.place
  obtain ⟨_, _, Go⟩ := D.go
  obtain ⟨_, _, W⟩ := D.R.whole
  have T := D.T
  have GP := ok_place (P := P) (w := w) (base := base) (mg := mg) Pl.F T
  have GG := ok_go (P := P) (w := w) (base := base) (mg := mg) Go.F W T X
  obtain ⟨tm, hm⟩ := X.many
  refine F.F.okE scTakeTable (fun vs H Q E h => ?_) (fun cdv A outer st H vs Q E hr h => ?_)
  · obtain ⟨p, d, R, t, o, rfl, _⟩ := h
    rfl
  · obtain ⟨p, d, R, t, o, rfl, hR, hRd, h272, k⟩ := h
    have hr1 : Room 1 _ := hr.mono (by decide)
    have hr2 : Room 2 _ := hr.mono (by decide)
    refine ⟨_, pss_cons (ps_set (i := 1) scTakeTable.nd rfl (Or.inl rfl) (pe_meth0 (pv 0) T.cl Pl.m GP hr1 Pl.b .nil pass0))
      (pss_cons (ps_tryR rfl (by rfl) Z.mN Z.xN (fun pn σ0 E' => pss_one (ps_set (i := 2) scTakeTable.nd rfl (Or.inl rfl) (pe_callX GI hr (by rfl) It.m It.F.kp It.b .nil (passT rfl) (pa_cons (pv 0) pa_nil))))
        (fun e G o us h1 h2 h3 => pss_cons (ps_expr (pe_meth (pv 0) T.cl Go.m GG (hr.hand (by decide) (by decide)) Go.b .nil pass0 (pa_cons (pv 1) pa_nil))) (pss_one (ps_raiseN rfl h1 h2 h3 (by rfl) Z.mN Z.xN pe_str))))
      (pss_cons (ps_if (pt_cmpR op_gt (pe_callB call_len_seq (by rfl) X.len PySem.boot_len (pa_cons (pv 2) pa_nil)) (pe_glob (v := .int 272) (by rfl) hm ⟨tm, rfl⟩) (nomark _)) (pss_cons (ps_expr (pe_meth (pv 0) T.cl Go.m GG hr2 Go.b .nil pass0 (pa_cons (pv 1) pa_nil))) (pss_one (ps_raise passE (hr.hd (by decide)) (by rfl) Z.mT Z.xT pe_str))) pss_nil)
      (pss_one (ps_ret (pv 2))))), ?_⟩
    obtain ⟨dx, hp⟩ := hR.ob
    have no : ∀ {m : Str} t, ¬ m = "taken" → ¬ m = "held" → (fR d t).lookup m = none := fun t h1 h2 => fR_no _ _ h1 h2
    refine ⟨_, rfl, p, dx, _, rfl, hp, no _ (by decide +kernel) (by decide +kernel), p, d, R, _, rfl, hR, ?_⟩
    refine ⟨rfl, _, rfl, p, d, R, t, o, rfl, hR, hRd, fun c t' l L H2 eo hl nl h2l hR2 kp => ?_, fun t' H2 eo hR2 kp => ?_⟩
    · subst eo
      have hc := h272 _ _ rfl
      obtain ⟨dx2, hp2⟩ := hR2.ob
      refine ⟨_, rfl, l, _, rfl, .inl (SqL.of h2l), _, _, rfl, rfl, _, rfl, ite2 (fun _ => ?_) (fun h => absurd (decide_eq_true (by rw [List.length_map]; omega)) h)⟩
      refine ⟨_, rfl, p, dx2, _, rfl, hp2, no _ (by decide +kernel) (by decide +kernel), _, rfl, p, d, R, t', t, rfl, hR2, hR.le, fun H3 hR3 kp3 => ?_⟩
      exact k H3 hR3 fun c o e n1 => kp3 _ _ (kp _ _ e n1) n1
    · subst eo
      refine ⟨rfl, fun e vs he => ?_⟩
      have s2 := same_new (o := .frz (exO (.ref cN) vs) (.own e)) he
      obtain ⟨dx2, hp2⟩ := hR2.ob
      have hR2' : ReadAt C (upd H2 e (.frz (exO (.ref cN) vs) (.own e))) p d R t' := ⟨⟨dx2, s2 _ _ hp2⟩, s2 _ _ hR2.ls, hR2.by', hR2.le⟩
      refine ⟨_, rfl, p, dx2, _, rfl, s2 _ _ hp2, no _ (by decide +kernel) (by decide +kernel), _, rfl, p, d, R, t', t, rfl, hR2', hR.le, fun H3 hR3 kp3 => ?_⟩
      exact k H3 hR3 fun c o e n1 => kp3 _ _ (s2 _ _ (kp _ _ e n1)) n1
end
end K12

set_option Elab.async false
set_option linter.all false
set_option maxRecDepth 100000
set_option maxHeartbeats 4000000
namespace K12
open PySem L2 QQ W13 W12 BP
seal PE PA PS PSs PT PW PG PI
theorem eight_at {a b c d : Nat} (ha : a < 9) (hb : b < 64) (hc : c < 12) (hd : d < 8) (m : Int) : ∃ v : Nat, 1 ≤ v ∧ v ≤ 136 ∧ atI [V.int 1, V.int 1, V.int 2, V.int 3, vN (4 + a), vN (1 + b), vN (64 + c), vN (129 + d)] (m % 8) = some (vN v) := by
  obtain ⟨z, hz, ez⟩ : ∃ z : Nat, z < 8 ∧ m % 8 = (z : Int) := ⟨(m % 8).toNat, by omega, by omega⟩
  rw [ez]
  match z, hz with
  | 0, _ => exact ⟨1, by decide, by decide, atI_nat rfl⟩
  | 1, _ => exact ⟨1, by decide, by decide, atI_nat rfl⟩
  | 2, _ => exact ⟨2, by decide, by decide, atI_nat rfl⟩
  | 3, _ => exact ⟨3, by decide, by decide, atI_nat rfl⟩
  | 4, _ => exact ⟨4 + a, by omega, by omega, atI_nat rfl⟩
  | 5, _ => exact ⟨1 + b, by omega, by omega, atI_nat rfl⟩
  | 6, _ => exact ⟨64 + c, by omega, by omega, atI_nat rfl⟩
  | 7, _ => exact ⟨129 + d, by omega, by omega, atI_nat rfl⟩
theorem four_at {a : Nat} (ha : a < 7) (m : Int) : ∃ v : Nat, v ≤ 6 ∧ atI [V.int 0, vN a, vN a, V.int 6] (m % 4) = some (vN v) := by
  obtain ⟨z, hz, ez⟩ : ∃ z : Nat, z < 4 ∧ m % 4 = (z : Int) := ⟨(m % 4).toNat, by omega, by omega⟩
  rw [ez]
  match z, hz with
  | 0, _ => exact ⟨0, by decide, atI_nat rfl⟩
  | 1, _ => exact ⟨a, by omega, atI_nat rfl⟩
  | 2, _ => exact ⟨a, by omega, atI_nat rfl⟩
  | 3, _ => exact ⟨6, by decide, atI_nat rfl⟩
section
variable {P : Program} {w : World} {K : PySem.W.Frag} {mg : Str → Option Value} {base : Heap} {C : Addr}
/-! ### the law's own small defs -/
def spCell (K : PySem.W.Frag) : Sp := fun vs H Q _ => ∃ (a : Addr) (ns : List Int) (k : Nat), vs = [.ref a, vN k] ∧ SqL K H a (ns.map V.int) ∧ Q (.int (ns.getD k 0)) H
theorem scCell : FnScope ["_law_script", "_law_k"] ["_law_script", "_law_k"] (defScope sCellAt) := ⟨rfl, rfl, rfl, by decide +kernel, rfl, by decide +kernel, by decide +kernel⟩
theorem ok_cell {f : Addr} {fd : FuncData} (F : Fn K mg "_law_cell_at" sCellAt ["_law_script", "_law_k"] f fd) (X : Txt K mg) : FnOk P w K mg base CX0 1 f fd ["_law_script", "_law_k"] (spCell K) := by
  refine F.F.ok scCell (fun vs H Q E h => ?_) (fun cdv A outer st H vs Q E hr h => ?_)
  · obtain ⟨a, ns, k, rfl, _⟩ := h
    rfl
  · obtain ⟨a, ns, k, rfl, hS, q⟩ := h
    refine ⟨_, pss_cons (ps_if (pt_cmpR op_lt (pv 1) (pe_callB call_len_seq (by rfl) X.len PySem.boot_len (pa_cons (pv 0) pa_nil)) (nomark _)) (pss_one (ps_ret (pe_ix ix_list (pv 0) (pv 1) (fun _ _ => rfl)))) pss_nil)
      (pss_one (ps_ret pe_int)), ?_⟩
    refine ⟨_, rfl, _, rfl, a, _, rfl, .inl hS, _, _, rfl, rfl, _, rfl, ?_⟩
    refine ite2 (fun h1 => ?_) (fun h1 => ?_)
    · have h2 : k < ns.length := by have := of_decide_eq_true h1; rw [List.length_map] at this; omega
      refine ⟨_, rfl, _, rfl, a, _, _, V.int (ns.getD k 0), rfl, rfl, hS, atI_nat ?_, q⟩
      rw [List.getElem?_map, List.getElem?_eq_getElem h2, List.getD_eq_getElem?_getD, List.getElem?_eq_getElem h2]
      rfl
    · have h1' : decide ((k : Int) < ((ns.map V.int).length : Int)) ≠ true := h1
      have h2 : ns.length ≤ k := by
        rw [List.length_map] at h1'
        by_cases h : (k : Int) < (ns.length : Int)
        · exact absurd (decide_eq_true h) h1'
        · omega
      try dsimp only
      rw [List.getD_eq_getElem?_getD, List.getElem?_eq_none h2] at q
      exact q
def mixI (c k : Int) : Int := ((c + 101 * k * k + 7) * 48271) % 2147483647 * 69621 % 2147483629
def mixN (c k : Int) : Nat := (mixI c k).toNat
theorem mixN_eq (c k : Int) : ((mixN c k : Nat) : Int) = mixI c k := Int.toNat_of_nonneg (Int.emod_nonneg _ (by decide))
def spMixed : Sp := fun vs H Q _ => ∃ (c k : Int), vs = [.int c, .int k] ∧ 0 ≤ k ∧ k ≤ 1000 ∧ Q (vN (mixN c k)) H
theorem scMixed : FnScope ["_law_cell", "_law_k"] ["_law_cell", "_law_k"] (defScope sMixed) := ⟨rfl, rfl, rfl, by decide +kernel, rfl, by decide +kernel, by decide +kernel⟩
theorem ok_mixed {f : Addr} {fd : FuncData} (F : Fn K mg "_law_mixed" sMixed ["_law_cell", "_law_k"] f fd) : FnOk P w K mg base CX0 1 f fd ["_law_cell", "_law_k"] spMixed := by
  refine F.F.ok scMixed (fun vs H Q E h => ?_) (fun cdv A outer st H vs Q E hr h => ?_)
  · obtain ⟨c, k, rfl, _⟩ := h
    rfl
  · obtain ⟨c, k, rfl, h0, h1, q⟩ := h
    refine ⟨_, pss_one (ps_ret (pe_op op_mod (pe_op op_mul (pe_op op_mod (pe_op op_mul (pe_op op_add (pe_op op_add (pv 0) (pe_op op_mul (pe_op op_mul pe_int (pv 1)) (pv 1))) pe_int) pe_int) pe_int) pe_int) pe_int)), ?_⟩
    refine ⟨_, rfl, _, rfl, _, _, rfl, rfl, .inl ⟨by decide, by decide⟩, _, rfl, _, _, rfl, rfl, .inr ⟨by omega, by omega⟩, _, _, rfl, rfl, _, _, rfl, rfl, ?_⟩
    refine ⟨_, _, rfl, rfl, .inr ⟨by decide, by decide⟩, _, _, rfl, rfl, (by show (0 : Int) < 2147483647; decide), _, _, rfl, rfl, .inr ⟨by decide, by decide⟩, _, _, rfl, rfl, (by show (0 : Int) < 2147483629; decide), ?_⟩
    try dsimp only
    rw [show (vN (mixN c k) : V) = V.int (mixI c k) from congrArg V.int (mixN_eq c k)] at q
    exact q
/-! ### _law_table -/
def spTable (K : PySem.W.Frag) : Sp := fun vs H Q _ => ∃ (a : Addr) (ns : List Int) (f : Nat), vs = [.ref a, vN f] ∧ SqL K H a (ns.map V.int) ∧ f ≤ 100 ∧ ∀ (l : Addr) (L : List Nat) (H' : Hp), Same H H' → H l = none → H' l = some (.lst (L.map vN)) → L.length = 272 → (∀ b ∈ L, b ≤ 6) → Q (.ref l) H'
abbrev nTable : List Str := ["_law_script", "_law_first", "_law_found", "_law_k", "_law_number", "_law_more", "_law_size", "_law_length"]
theorem scTable : FnScope nTable ["_law_script", "_law_first"] (defScope sTable) := ⟨rfl, rfl, rfl, by decide +kernel, rfl, by decide +kernel, by decide +kernel⟩
theorem ok_table {f fC fM : Addr} {fd fdC fdM : FuncData} (F : Fn K mg "_law_table" sTable ["_law_script", "_law_first"] f fd) (Ce : Fn K mg "_law_cell_at" sCellAt ["_law_script", "_law_k"] fC fdC) (Mi : Fn K mg "_law_mixed" sMixed ["_law_cell", "_law_k"] fM fdM) (T : Txt K mg) :
    FnOk P w K mg base CX0 2 f fd ["_law_script", "_law_first"] (spTable K) := by
  have GC := ok_cell (P := P) (w := w) (base := base) Ce T
  have GM := ok_mixed (P := P) (w := w) (base := base) Mi
  refine F.F.ok scTable (fun vs H Q E h => ?_) (fun cdv A outer st H vs Q E hr h => ?_)
  · obtain ⟨a, ns, f, rfl, _⟩ := h
    rfl
  · obtain ⟨a, ns, f, rfl, hS, hf, q⟩ := h
    refine ⟨_, pss_cons (ps_set (i := 2) scTable.nd rfl (Or.inl rfl) (pe_lst pa_nil))
      (pss_cons (ps_set (i := 3) scTable.nd rfl (Or.inl rfl) pe_int)
      (pss_cons (ps_while PassesOwn.never (pt_cmpR op_lt (pe_callB call_len_seq (by rfl) T.len PySem.boot_len (pa_cons (pv 2) pa_nil)) pe_int (nomark _))
        (pss_cons (ps_set (i := 4) scTable.nd rfl (Or.inl rfl) (pe_call GM hr (by rfl) Mi.m Mi.F.kp Mi.b .nil pass0 (pa_cons (pe_call GC hr (by rfl) Ce.m Ce.F.kp Ce.b .nil pass0 (pa_cons (pv 0) (pa_cons (pe_op op_add (pv 1) (pe_op op_mod (pv 3) pe_int)) pa_nil))) (pa_cons (pv 3) pa_nil))))
        (pss_cons (ps_set (i := 5) scTable.nd rfl (Or.inl rfl) (pe_op op_fdiv (pv 4) pe_int))
        (pss_cons (ps_set (i := 6) scTable.nd rfl (Or.inl rfl) (pe_ix ix_list (pe_lst (pa_cons pe_int (pa_cons pe_int (pa_cons pe_int (pa_cons pe_int (pa_cons (pe_op op_add pe_int (pe_op op_mod (pv 5) pe_int)) (pa_cons (pe_op op_add pe_int (pe_op op_mod (pv 5) pe_int)) (pa_cons (pe_op op_add pe_int (pe_op op_mod (pv 5) pe_int)) (pa_cons (pe_op op_add pe_int (pe_op op_mod (pv 5) pe_int)) pa_nil))))))))) (pe_op op_mod (pv 4) pe_int) (fun _ _ => rfl)))
        (pss_cons (ps_set (i := 7) scTable.nd rfl (Or.inl rfl) (pe_ix ix_list (pe_lst (pa_cons pe_int (pa_cons (pe_op op_mod (pe_op op_fdiv (pv 4) pe_int) pe_int) (pa_cons (pe_op op_mod (pe_op op_fdiv (pv 4) pe_int) pe_int) (pa_cons pe_int pa_nil))))) (pe_op op_mod (pe_op op_fdiv (pv 4) pe_int) pe_int) (fun _ _ => rfl)))
        (pss_cons (ps_aug (i := 2) scTable.nd rfl (Or.inl rfl) (pe_op op_rep (pe_lst (pa_cons (pv 7) pa_nil)) (pv 6)) ip_lcat)
        (pss_one (ps_aug (i := 3) scTable.nd rfl (Or.inl rfl) pe_int ip_add))))))))
      (pss_one (ps_ret (pe_slice sl_list (pv 2) po_none (po_some pe_int)))))), ?_⟩
    refine seq_g fun R1 g1 => ?_
    refine ⟨by decide, fun l nl => g1 _ _ ?_⟩
    clear g1
    have s0 := same_new (o := .lst []) nl
    refine seq_g fun R1 g1 => g1 _ _ ?_
    clear g1
    refine seq_g fun R1 g1 => ?_
    refine ⟨fun n σ H2 => ∃ (k : Nat) (S : List Nat) (v4 v5 v6 v7 : Option V), n = 272 - S.length ∧ σ = [some (.ref a), some (vN f), some (.ref l), some (vN k), v4, v5, v6, v7] ∧ k ≤ S.length ∧ S.length ≤ 408 ∧ H2 l = some (.lst (S.map vN)) ∧ (∀ b ∈ S, b ≤ 6) ∧ Same H H2,
      ⟨272, 0, [], none, none, none, none, rfl, rfl, Nat.le_refl _, by decide, upd_same, fun b hb => by simp at hb, s0⟩, ?_⟩
    rintro n σ H2 ⟨k, S, v4, v5, v6, v7, rfl, rfl, hk, hSl, h2l, hb, sm⟩
    refine ⟨_, rfl, l, _, rfl, .inl (SqL.of h2l), _, _, rfl, rfl, _, rfl, ite2 (fun h1 => ?_) (fun h1 => ?_)⟩
    · have hc : S.length < 272 := by have := of_decide_eq_true h1; rw [List.length_map] at this; omega
      clear g1
      refine ⟨fun σ' H' => ∃ (k : Nat) (S' : List Nat) (v4 v5 v6 v7 : Option V), S.length < S'.length ∧ σ' = [some (.ref a), some (vN f), some (.ref l), some (vN k), v4, v5, v6, v7] ∧ k ≤ S'.length ∧ S'.length ≤ 408 ∧ H' l = some (.lst (S'.map vN)) ∧ (∀ b ∈ S', b ≤ 6) ∧ Same H H',
        fun σ' H' ⟨k, S', v4, v5, v6, v7, hlt, z⟩ => ⟨272 - S'.length, by omega, k, S', v4, v5, v6, v7, rfl, z⟩, ?_⟩
      have ek : ((f : Nat) : Int) + ((k : Nat) : Int) % 12 = ((f + k % 12 : Nat) : Int) := by omega
      refine seq_g fun R2 g2 => ?_
      refine ⟨_, rfl, _, rfl, _, rfl, _, _, rfl, rfl, (by show (0 : Int) < 12; decide), _, _, rfl, rfl, ?_⟩
      try dsimp only
      rw [ek]
      refine ⟨a, ns, f + k % 12, rfl, sm.seq hS, _, rfl, _, ((k : Nat) : Int), rfl, by omega, by omega, g2 _ _ ?_⟩
      clear g2
      generalize mixN (ns.getD (f + k % 12) 0) ((k : Nat) : Int) = m
      refine seq_g fun R2 g2 => ?_
      refine ⟨_, rfl, _, _, rfl, rfl, ⟨by decide, by decide⟩, g2 _ _ ?_⟩
      clear g2
      have em : ((m : Nat) : Int) / 8 = ((m / 8 : Nat) : Int) := by omega
      try dsimp only
      rw [em]
      generalize m / 8 = mr
      -- how many
      refine seq_g fun R2 g2 => ?_
      refine ⟨_, rfl, _, _, rfl, rfl, (by show (0 : Int) < 9; decide), _, _, rfl, rfl, ?_⟩
      refine ⟨_, rfl, _, _, rfl, rfl, (by show (0 : Int) < 64; decide), _, _, rfl, rfl, ?_⟩
      refine ⟨_, rfl, _, _, rfl, rfl, (by show (0 : Int) < 12; decide), _, _, rfl, rfl, ?_⟩
      refine ⟨_, rfl, _, _, rfl, rfl, (by show (0 : Int) < 8; decide), _, _, rfl, rfl, (by show 8 ≤ sizeLine; decide), fun l1 n1 => ?_⟩
      have e1 : (4 : Int) + ((mr : Nat) : Int) % 9 = ((4 + mr % 9 : Nat) : Int) := by omega
      have e2 : (1 : Int) + ((mr : Nat) : Int) % 64 = ((1 + mr % 64 : Nat) : Int) := by omega
      have e3 : (64 : Int) + ((mr : Nat) : Int) % 12 = ((64 + mr % 12 : Nat) : Int) := by omega
      have e4 : (129 : Int) + ((mr : Nat) : Int) % 8 = ((129 + mr % 8 : Nat) : Int) := by omega
      try dsimp only
      rw [e1, e2, e3, e4]
      obtain ⟨sz, hs1, hs2, hat⟩ := eight_at (a := mr % 9) (b := mr % 64) (c := mr % 12) (d := mr % 8) (by omega) (by omega) (by omega) (by omega) ((m : Nat) : Int)
      have s1 := same_new (o := .lst [V.int 1, V.int 1, V.int 2, V.int 3, V.int ((4 + mr % 9 : Nat) : Int), V.int ((1 + mr % 64 : Nat) : Int), V.int ((64 + mr % 12 : Nat) : Int), V.int ((129 + mr % 8 : Nat) : Int)]) n1
      refine ⟨_, rfl, _, _, rfl, rfl, (by show (0 : Int) < 8; decide), l1, _, _, _, rfl, rfl, SqL.of upd_same, hat, g2 _ _ ?_⟩
      clear g2 hat
      have h1l := s1 _ _ h2l
      have sm1 := sm.trans s1
      generalize upd H2 l1 (.lst [V.int 1, V.int 1, V.int 2, V.int 3, V.int ((4 + mr % 9 : Nat) : Int), V.int ((1 + mr % 64 : Nat) : Int), V.int ((64 + mr % 12 : Nat) : Int), V.int ((129 + mr % 8 : Nat) : Int)]) = H3 at *
      clear s1 n1
      -- the length
      refine seq_g fun R2 g2 => ?_
      refine ⟨_, rfl, _, _, rfl, rfl, ⟨by decide, by decide⟩, _, _, rfl, rfl, (by show (0 : Int) < 7; decide), ?_⟩
      refine ⟨_, rfl, _, _, rfl, rfl, ⟨by decide, by decide⟩, _, _, rfl, rfl, (by show (0 : Int) < 7; decide), (by show 4 ≤ sizeLine; decide), fun l2 n2 => ?_⟩
      have e5 : ((m : Nat) : Int) / 1024 % 7 = ((m / 1024 % 7 : Nat) : Int) := by omega
      try dsimp only
      rw [e5]
      obtain ⟨ln, hl6, hat⟩ := four_at (a := m / 1024 % 7) (by omega) (((m : Nat) : Int) / 256)
      have s2 := same_new (o := .lst [V.int 0, V.int ((m / 1024 % 7 : Nat) : Int), V.int ((m / 1024 % 7 : Nat) : Int), V.int 6]) n2
      refine ⟨_, rfl, _, _, rfl, rfl, ⟨by decide, by decide⟩, _, _, rfl, rfl, (by show (0 : Int) < 4; decide), l2, _, _, _, rfl, rfl, SqL.of upd_same, hat, g2 _ _ ?_⟩
      clear g2 hat
      have h2l' := s2 _ _ h1l
      have sm2 := sm1.trans s2
      generalize upd H3 l2 (.lst [V.int 0, V.int ((m / 1024 % 7 : Nat) : Int), V.int ((m / 1024 % 7 : Nat) : Int), V.int 6]) = H4 at *
      clear s2 n2 h1l sm1
      -- so many more
      refine seq_g fun R2 g2 => ?_
      refine ⟨_, rfl, _, rfl, (by show 1 ≤ sizeLine; decide), fun l3 n3 => ?_⟩
      have s3 := same_new (o := .lst [vN ln]) n3
      have h33 : (upd H4 l3 (.lst [vN ln])) l3 = some (.lst [vN ln]) := upd_same
      have h3l := s3 _ _ h2l'
      refine ⟨_, rfl, l3, _, _, rfl, rfl, h33, by omega, by omega, sl2000 (by rw [Int.toNat_natCast]; show 1 * sz ≤ 2000; omega), fun l4 n4 => ?_⟩
      try dsimp only
      rw [Int.toNat_natCast, flat_one]
      have s4 := same_new (o := .lst ((List.replicate sz ln).map vN)) n4
      have h44 : (upd (upd H4 l3 (.lst [vN ln])) l4 (.lst ((List.replicate sz ln).map vN))) l4 = some (.lst ((List.replicate sz ln).map vN)) := upd_same
      have h4l := s4 _ _ h3l
      have sm4 := (sm2.trans s3).trans s4
      generalize upd (upd H4 l3 (.lst [vN ln])) l4 (.lst ((List.replicate sz ln).map vN)) = H6 at *
      refine ⟨l, l4, _, _, rfl, rfl, h4l, h44, sl2000 (by rw [List.length_map, List.length_map, List.length_replicate]; omega), g2 _ _ ?_⟩
      refine ⟨_, rfl, _, _, rfl, rfl, k + 1, S ++ List.replicate sz ln, _, _, _, _, by rw [List.length_append, List.length_replicate]; omega, rfl, by rw [List.length_append, List.length_replicate]; omega, by rw [List.length_append, List.length_replicate]; omega, by rw [upd_same, List.map_append], fun b hb' => ?_, fun c o e => ?_⟩
      · rcases List.mem_append.mp hb' with h | h
        · exact hb b h
        · rw [(List.mem_replicate.mp h).2]; exact hl6
      · rw [upd_ne (ne_of_none e nl)]; exact sm4 _ _ e
    · have hcz : 272 ≤ S.length := by
        have h1' : ¬ (decide (((S.map vN).length : Int) < 272) = true) := h1
        rw [List.length_map] at h1'
        have : ¬ (((S.length : Nat) : Int) < 272) := fun y => h1' (decide_eq_true y)
        omega
      refine g1 _ _ ⟨_, rfl, _, rfl, l, _, rfl, SqL.of h2l, fun p hp => ?_⟩
      have e : cutV (S.map vN) none (some 272) = (S.take 272).map vN := by
        have := take_cut (S.map vN) 272
        rw [List.map_take]
        exact this
      try dsimp only
      rw [e]
      exact q p (S.take 272) _ (sm.trans (same_new hp)) (none_of sm hp) upd_same (by rw [List.length_take]; omega) (fun b hb' => hb b (List.mem_of_mem_take hb'))
end
end K12

set_option Elab.async false
set_option linter.all false
set_option maxRecDepth 100000
set_option maxHeartbeats 4000000
namespace L2
open PySem PySem.Spec PyProof.Rows QQ
/-! ## repr of plain things, of lists and tuples of them, of {} -/
/-- a plain thing -/
def Sh0 : V → PyData → Prop
  | .non, d => d = .none
  | .bl b, d => d = .bool b
  | .int i, d => d = .int i
  | .str x, d => d = .str x
  | _, _ => False
/-- its text is short -/
structure Sm (d : PyData) : Prop where
  sh : d.showable = true
  nd : d.hasDict = false
  le : d.shown.length ≤ 100
  dp : d.depth ≤ 1
/-- a list or a tuple whose things are told by F -/
def ShL (H : Hp) (F : V → PyData → Prop) (a : Addr) (d : PyData) : Prop := ∃ xs ds, xs.length ≤ 300 ∧ Paired F xs ds ∧ (H a = some (.lst xs) ∧ d = .list ds ∨ H a = some (.tup xs) ∧ d = .tuple ds)
def Sh1 (H : Hp) (v : V) (d : PyData) : Prop := Sm d ∧ (Sh0 v d ∨ ∃ a, v = .ref a ∧ ShL H Sh0 a d)
def Sh2 (H : Hp) (v : V) (d : PyData) : Prop := (Sh0 v d ∧ Sm d) ∨ ∃ a, v = .ref a ∧ (H a = some (.dK []) ∧ d = .dict [] ∨ ShL H (Sh1 H) a d)
theorem ShL.same {H H' : Hp} {F G : V → PyData → Prop} {a : Addr} {d : PyData} (s : ∀ b o, H b = some o → H' b = some o) (fg : ∀ v e, F v e → G v e) (h : ShL H F a d) : ShL H' G a d := by
  obtain ⟨xs, ds, l, p, h⟩ := h
  exact ⟨xs, ds, l, Paired.mapP p fg, h.imp (fun z => ⟨s _ _ z.1, z.2⟩) fun z => ⟨s _ _ z.1, z.2⟩⟩
theorem Sh1.same {H H' : Hp} {v : V} {d : PyData} (s : ∀ b o, H b = some o → H' b = some o) (h : Sh1 H v d) : Sh1 H' v d :=
  ⟨h.1, h.2.imp id fun ⟨a, e, z⟩ => ⟨a, e, z.same s fun _ _ q => q⟩⟩
theorem Sh2.same {H H' : Hp} {v : V} {d : PyData} (s : ∀ b o, H b = some o → H' b = some o) (h : Sh2 H v d) : Sh2 H' v d :=
  h.imp id fun ⟨a, e, z⟩ => ⟨a, e, z.imp (fun q => ⟨s _ _ q.1, q.2⟩) fun q => q.same s fun _ _ r => r.same s⟩
theorem sh0_reads {h : Heap} : ∀ {v : V} {d : PyData} {u : Value}, Sh0 v d → RelV v u → Reads h u d []
  | .non, _, _, e, r => by cases e; cases r; exact .none
  | .bl b, _, _, e, r => by cases e; cases r; exact .bool b
  | .int i, _, _, e, r => by cases e; obtain ⟨t, rfl⟩ := r; exact .int i t
  | .str x, _, _, e, r => by cases e; obtain ⟨t, rfl⟩ := r; exact .str x t
  | .byt _, _, _, e, _ => e.elim
  | .flt _, _, _, e, _ => e.elim
  | .ref _, _, _, e, _ => e.elim
  | .ty _, _, _, e, _ => e.elim
theorem all_reads {h : Heap} {F : V → PyData → Prop} (f : ∀ v d u, F v d → RelV v u → ∃ as, Reads h u d as) : ∀ {xs : List V} {ds : List PyData} {us : List Value}, Paired F xs ds → Vals xs us → ∃ as, ReadsAll h us ds as
  | [], [], [], .nil, .nil => ⟨_, .nil⟩
  | _ :: _, _ :: _, _ :: _, .cons p q, .cons r t => by
    obtain ⟨a1, h1⟩ := f _ _ _ p r
    obtain ⟨a2, h2⟩ := all_reads f q t
    exact ⟨_, .cons h1 h2⟩
section
variable {X : Cx} {pins : List (Addr × Obj)} {σ : St} {H : Hp} {s : Shared}
theorem shl_reads (I : Inv X pins σ H s) {F : V → PyData → Prop} (f : ∀ v d u, F v d → RelV v u → ∃ as, Reads s.heap u d as) {a : Addr} {d : PyData} (h : ShL H F a d) : ∃ as, Reads s.heap (.ref a) d as := by
  obtain ⟨xs, ds, l, p, ⟨ha, rfl⟩ | ⟨ha, rfl⟩⟩ := h
  · obtain ⟨_, its, n, r, g⟩ := I.hok a _ ha
    obtain ⟨as, q⟩ := all_reads f p r
    exact ⟨_, .list g rfl rfl (by simpa using q)⟩
  · obtain ⟨_, its, r, o, g, hc, n, hd⟩ := I.hok a _ ha
    obtain ⟨as, q⟩ := all_reads f p r
    exact ⟨_, .tuple g hc hd (by simpa using q)⟩
theorem sh1_reads (I : Inv X pins σ H s) : ∀ v d u, Sh1 H v d → RelV v u → ∃ as, Reads s.heap u d as := fun v d u h r => by
  rcases h.2 with h | ⟨a, rfl, h2⟩
  · exact ⟨_, sh0_reads h r⟩
  · cases r
    exact shl_reads I (F := Sh0) (fun v d u h r => ⟨_, sh0_reads h r⟩) h2
theorem sm_all {H : Hp} : ∀ {xs : List V} {ds : List PyData}, Paired (Sh1 H) xs ds → PyData.showableAll ds = true ∧ PyData.hasDictAll ds = false ∧ ((PyData.shownAll ds).map (·.length)).sum ≤ 100 * xs.length ∧ (PyData.shownAll ds).length = xs.length ∧ PyData.depthAll ds ≤ 1
  | [], [], .nil => ⟨by simp only [PyData.showableAll], by simp only [PyData.hasDictAll], by simp [PyData.shownAll], by simp [PyData.shownAll], by simp [PyData.depthAll]⟩
  | x :: xs, d :: ds, .cons p q => by
    obtain ⟨h1, h2, h3, h4, h5⟩ := sm_all q
    obtain ⟨g1, g2, g3, g4⟩ := p.1
    refine ⟨by simp only [PyData.showableAll, g1, h1, Bool.and_self], by simp only [PyData.hasDictAll, g2, h2, Bool.or_self], ?_, ?_, ?_⟩
    · simp only [PyData.shownAll, List.map_cons, List.sum_cons, List.length_cons]
      omega
    · simp only [PyData.shownAll, List.length_cons, h4]
    · simp only [PyData.depthAll]
      omega
theorem call_repr {k : Nat} (hr : Room k X.A) : CallR X (.builtin "repr") (fun xs H Q => ∃ v d, xs = [v] ∧ Sh2 H v d ∧ Q (.str d.shown) H) := by
  intro pins s σ H xs us Q I r h
  obtain ⟨v, d, rfl, hs, q⟩ := h
  obtain ⟨u, rfl, ru⟩ := vals1 r
  rcases hs with ⟨h0, hm⟩ | ⟨a, rfl, h2⟩
  · match v, h0, ru with
    | .non, e, ru =>
      cases e; cases ru
      exact P.repr_of_none ⟨.str (PyData.shown .none), H, I.tok _, ⟨s.toks, by simp only [PyData.shown]⟩, q⟩
    | .bl b, e, ru =>
      cases e; cases ru
      exact P.repr_of_bool ⟨.str (PyData.shown (.bool b)), H, I.tok _, ⟨s.toks, by simp only [PyData.shown]⟩, q⟩
    | .int i, e, ru =>
      cases e
      obtain ⟨t, rfl⟩ := ru
      have hi : i.natAbs.log2 < 1920 := by have := hm.sh; simpa [PyData.showable] using this
      exact P.repr_of_int hi ⟨.str (PyData.shown (.int i)), H, I.tok _, ⟨s.toks, by simp only [PyData.shown]⟩, q⟩
    | .str x, e, ru =>
      cases e
      obtain ⟨t, rfl⟩ := ru
      have hi : (reprText x).length ≤ sizeLine := by have := hm.le; simp only [PyData.shown] at this; exact Nat.le_trans this (by decide)
      exact P.repr_of_str ⟨.str (PyData.shown (.str x)), H, I.tok _, ⟨s.toks, by simp only [PyData.shown]⟩, q⟩ hi
  · cases ru
    have un := hr.un
    have fin : ∀ h' u tk, (∀ b o, s.heap.get? b = some o → h'.get? b = some o) → EP X pins σ Q (.str d.shown u) { s with heap := h', toks := tk } := fun h' u tk kp => ⟨.str d.shown, H, I.kept kp, ⟨u, rfl⟩, q⟩
    rcases h2 with ⟨ha, rfl⟩ | h2
    · obtain ⟨_, hsy, vs, kv, o, es, ep, g, ⟨hc, _⟩, hd, _, hes, _⟩ := I.hok a _ ha
      cases kv
      have e0 : es.toList = [] := by cases z : es.toList with
        | nil => rfl
        | cons e r => rw [z] at hes; cases hes
      have rd : Reads s.heap (.ref a) (.dict []) (a :: [] ++ []) := .dict (kvs := []) g hc hd (by rw [e0]; exact .nil) (by rw [e0]; exact .nil)
      refine repr_of_reads' rd (by simp [PyData.showable, PyData.showableKv]) (fun _ z => ?_) hr.gd (by simp only [PyData.depth, PyData.depthKv]; omega) (fun _ _ e => e) fin (by decide +kernel)
      have : sysModules = a := by simpa using z
      rw [this] at hsy
      simp at hsy
    · obtain ⟨as, rd⟩ := shl_reads I (sh1_reads I) h2
      obtain ⟨xs, ds, hl, p, h2⟩ := h2
      obtain ⟨m1, m2, m3, m4, m5⟩ := sm_all p
      rcases h2 with ⟨ha, rfl⟩ | ⟨ha, rfl⟩
      · refine repr_of_reads' rd (by simpa only [PyData.showable] using m1) (PyData.noDict_hsm (by simpa only [PyData.hasDict] using m2)) hr.gd (by simp only [PyData.depth]; omega) (fun _ _ e => e) fin ?_
        simp only [PyData.shown]
        refine Nat.le_trans (listText_len_le _) (Nat.le_trans (m := 40000) ?_ (by decide))
        omega
      · refine repr_of_reads' rd (by simpa only [PyData.showable] using m1) (PyData.noDict_hsm (by simpa only [PyData.hasDict] using m2)) hr.gd (by simp only [PyData.depth]; omega) (fun _ _ e => e) fin ?_
        simp only [PyData.shown]
        refine Nat.le_trans (tupleText_len_le _) (Nat.le_trans (m := 40000) ?_ (by decide))
        omega
end
end L2

set_option Elab.async false
set_option linter.all false
set_option maxRecDepth 100000
set_option maxHeartbeats 4000000
namespace K12
open PySem L2 QQ W13 W12 BP
seal PE PA PS PSs PT PW PG PI
/-- the error in hand -/
def InH (H : Hp) (a C : Addr) : Prop := ∃ vx, H a = some (.frz (exO (.ref C) vx) (.own a))
section
variable {P : Program} {w : World} {K : PySem.W.Frag} {mg : Str → Option Value} {base : Heap} {B D cP cN cT : Addr} {cs ds : List Addr}
/-! ### _law_word -/
def WdOf (cN cT C : Addr) (z : Str) : Prop := (C = cN ∧ z = Str.ofString "bits") ∨ (C = cT ∧ z = Str.ofString "table")
def spWord (cN cT : Addr) : Sp := fun vs H Q _ => ∃ a C z, vs = [.ref a] ∧ InH H a C ∧ WdOf cN cT C z ∧ ∀ l H', Same H H' → H' l = some (.lst [.str z]) → Q (.ref l) H'
theorem scWord : FnScope ["_law_e", "_law_found"] ["_law_e"] (defScope sWord) := ⟨rfl, rfl, rfl, by decide +kernel, rfl, by decide +kernel, by decide +kernel⟩
theorem ok_word {f : Addr} {fd : FuncData} (F : Fn K mg "_law_word" sWord ["_law_e"] f fd) (T : Txt K mg) (Z : Ers K mg cP cN cT cs ds) : FnOk P w K mg base CX0 5 f fd ["_law_e"] (spWord cN cT) := by
  obtain ⟨c0, c1, c2, c3, c4, c5, c6, c7, c8, ec⟩ := Z.len1
  obtain ⟨d0, d1, d2, d3, d4, d5, d6, ed⟩ := Z.len2
  refine F.F.ok scWord (fun vs H Q E h => ?_) (fun cdv A outer st0 H vs Q E hr h => ?_)
  · obtain ⟨a, C, z, rfl, _⟩ := h
    rfl
  · obtain ⟨a, C, z, rfl, ⟨vx, hE⟩, hz, k⟩ := h
    subst ec ed
    refine ⟨_, pss_cons (ps_if (pt_val (pe_callB call_isiET (by rfl) T.isi PyProof.Rows.boot_isinstance (pa_cons (pv 0) (pa_cons (pe_tup
          (pa_cons (pe_glob (v := .ref c0) (by rfl) (Z.m1 0 _ _ rfl rfl) rfl) (pa_cons (pe_glob (v := .ref c1) (by rfl) (Z.m1 1 _ _ rfl rfl) rfl) (pa_cons (pe_glob (v := .ref c2) (by rfl) (Z.m1 2 _ _ rfl rfl) rfl)
          (pa_cons (pe_glob (v := .ref c3) (by rfl) (Z.m1 3 _ _ rfl rfl) rfl) (pa_cons (pe_glob (v := .ref c4) (by rfl) (Z.m1 4 _ _ rfl rfl) rfl) (pa_cons (pe_glob (v := .ref c5) (by rfl) (Z.m1 5 _ _ rfl rfl) rfl)
          (pa_cons (pe_glob (v := .ref c6) (by rfl) (Z.m1 6 _ _ rfl rfl) rfl) (pa_cons (pe_glob (v := .ref c7) (by rfl) (Z.m1 7 _ _ rfl rfl) rfl) (pa_cons (pe_glob (v := .ref c8) (by rfl) (Z.m1 8 _ _ rfl rfl) rfl) pa_nil)))))))))) pa_nil)))) (pss_one (ps_ret (pe_lst (pa_cons pe_str pa_nil)))) pss_nil)
      (pss_cons (ps_if (pt_val (pe_callB call_isiET (by rfl) T.isi PyProof.Rows.boot_isinstance (pa_cons (pv 0) (pa_cons (pe_tup
          (pa_cons (pe_glob (v := .ref d0) (by rfl) (Z.m2 0 _ _ rfl rfl) rfl) (pa_cons (pe_glob (v := .ref d1) (by rfl) (Z.m2 1 _ _ rfl rfl) rfl) (pa_cons (pe_glob (v := .ref d2) (by rfl) (Z.m2 2 _ _ rfl rfl) rfl)
          (pa_cons (pe_glob (v := .ref d3) (by rfl) (Z.m2 3 _ _ rfl rfl) rfl) (pa_cons (pe_glob (v := .ref d4) (by rfl) (Z.m2 4 _ _ rfl rfl) rfl) (pa_cons (pe_glob (v := .ref d5) (by rfl) (Z.m2 5 _ _ rfl rfl) rfl)
          (pa_cons (pe_glob (v := .ref d6) (by rfl) (Z.m2 6 _ _ rfl rfl) rfl) pa_nil)))))))) pa_nil)))) (pss_one (ps_ret (pe_lst (pa_cons pe_str pa_nil)))) pss_nil)
      (pss_cons (ps_set (i := 1) scWord.nd rfl (Or.inl rfl) (pe_op op_cat
          (pe_op op_rep (pe_lst (pa_cons pe_str pa_nil)) (pe_callTy call_int1 (by rfl) T.int PyProof.Rows.boot_int (pa_cons (pe_callB call_isiE (by rfl) T.isi PyProof.Rows.boot_isinstance (pa_cons (pv 0) (pa_cons (pe_glob (v := .ref cT) (by rfl) Z.mT rfl) pa_nil))) pa_nil)))
          (pe_op op_rep (pe_lst (pa_cons pe_str pa_nil)) (pe_callTy call_int1 (by rfl) T.int PyProof.Rows.boot_int (pa_cons (pe_callB call_isiE (by rfl) T.isi PyProof.Rows.boot_isinstance (pa_cons (pv 0) (pa_cons (pe_glob (v := .ref cN) (by rfl) Z.mN rfl) pa_nil))) pa_nil)))))
      (pss_one (ps_ret (pe_op op_cat (pv 1) (pe_op op_rep (pe_lst (pa_cons pe_str pa_nil)) (pe_callTy call_int1 (by rfl) T.int PyProof.Rows.boot_int (pa_cons (pe_not (pe_callB call_isiE (by rfl) T.isi PyProof.Rows.boot_isinstance (pa_cons (pv 0) (pa_cons (pe_bltn (v := .ty "ValueError") (by rfl) T.verr PyProof.Rows.Boot.«ValueError» rfl) pa_nil)))) pa_nil)))))))), ?_⟩
    obtain ⟨ci, hk, hv, bb, br, kb, kr, hbz⟩ : ExI K C ∧ (∀ c ∈ [c0, c1, c2, c3, c4, c5, c6, c7, c8] ++ [d0, d1, d2, d3, d4, d5, d6], PySem.W.kitOne K (.ref C) (.ref c) = some false) ∧ PySem.W.kitOne K (.ref C) (.type "ValueError") = some true ∧ ∃ bb br, PySem.W.kitOne K (.ref C) (.ref cT) = some bb ∧ PySem.W.kitOne K (.ref C) (.ref cN) = some br ∧
        (List.replicate (if bb = true then (1 : Int) else 0).toNat [V.str (Str.ofString "table")]).flatten ++ (List.replicate (if br = true then (1 : Int) else 0).toNat [V.str (Str.ofString "bits")]).flatten = [V.str z] := by
      rcases hz with ⟨rfl, rfl⟩ | ⟨rfl, rfl⟩
      · exact ⟨Z.iN, Z.kN, Z.vN', false, true, Z.nt, Z.nn, rfl⟩
      · exact ⟨Z.iT, Z.kT, Z.vT, true, false, Z.tt, Z.tn, rfl⟩
    refine seq_g fun R1 g1 => ?_
    refine ⟨_, rfl, (by show 9 ≤ sizeLine; decide), fun t1 n1 => ?_⟩
    have s1 := same_new (o := .tup ([c0, c1, c2, c3, c4, c5, c6, c7, c8].map V.ref)) n1
    refine ⟨a, C, t1, vx, [c0, c1, c2, c3, c4, c5, c6, c7, c8], rfl, s1 _ _ hE, ci, SqT.of upd_same, fun c hc => hk c (List.mem_append_left _ hc), _, rfl, iteF (g1 _ _ ?_)⟩
    clear g1
    refine seq_g fun R1 g1 => ?_
    refine ⟨_, rfl, (by show 7 ≤ sizeLine; decide), fun t2 n2 => ?_⟩
    have s2 := same_new (o := .tup ([d0, d1, d2, d3, d4, d5, d6].map V.ref)) n2
    refine ⟨a, C, t2, vx, [d0, d1, d2, d3, d4, d5, d6], rfl, s2 _ _ (s1 _ _ hE), ci, SqT.of upd_same, fun c hc => hk c (List.mem_append_right _ hc), _, rfl, iteF (g1 _ _ ?_)⟩
    clear g1
    have s02 := s1.trans s2
    have hE2 := s02 _ _ hE
    clear s1 s2
    have gen : ∀ H2 : Hp, Same H H2 → H2 a = some (.frz (exO (.ref C) vx) (.own a)) → True := fun _ _ _ => trivial
    refine seq_g fun R1 g1 => ?_
    refine ⟨(by show 1 ≤ sizeLine; decide), fun l1 m1 => ?_⟩
    have s3 := same_new (o := .lst [.str (Str.ofString "table")]) m1
    have hE3 := s3 _ _ hE2
    refine ⟨_, rfl, a, C, vx, _, _, rfl, ⟨cT, .inl rfl⟩, hE3, ci, kb, .inr ⟨_, rfl, l1, _, _, rfl, rfl, upd_same, ?_, ?_, ?_, fun l2 m2 => ?_⟩⟩
    · cases bb <;> decide
    · cases bb <;> decide
    · cases bb <;> decide
    have s4 := same_new (o := .lst (List.replicate (if bb = true then (1 : Int) else 0).toNat [V.str (Str.ofString "table")]).flatten) m2
    refine ⟨(by show 1 ≤ sizeLine; decide), fun l3 m3 => ?_⟩
    have s5 := same_new (o := .lst [.str (Str.ofString "bits")]) m3
    refine ⟨_, rfl, a, C, vx, _, _, rfl, ⟨cN, .inl rfl⟩, s5 _ _ (s4 _ _ hE3), ci, kr, .inr ⟨_, rfl, l3, _, _, rfl, rfl, upd_same, ?_, ?_, ?_, fun l4 m4 => ?_⟩⟩
    · cases br <;> decide
    · cases br <;> decide
    · cases br <;> decide
    have s6 := same_new (o := .lst (List.replicate (if br = true then (1 : Int) else 0).toNat [V.str (Str.ofString "bits")]).flatten) m4
    refine ⟨l2, l4, _, _, rfl, rfl, s6 _ _ (s5 _ _ upd_same), upd_same, sl2000 (by cases bb <;> cases br <;> decide), fun l5 m5 => g1 _ _ ?_⟩
    clear g1
    try dsimp only
    rw [hbz]
    have s7 := same_new (o := .lst [V.str z]) m5
    have sA := s02.trans (((s3.trans s4).trans s5).trans (s6.trans s7))
    have hEA := sA _ _ hE
    refine ⟨_, rfl, (by show 1 ≤ sizeLine; decide), fun l6 m6 => ?_⟩
    have s8 := same_new (o := .lst [.str (Str.ofString "bare")]) m6
    refine ⟨_, rfl, a, C, vx, .type "ValueError", _, rfl, ⟨cN, .inr ⟨_, rfl⟩⟩, s8 _ _ hEA, ci, hv, _, rfl, .inr ⟨_, rfl, l6, _, _, rfl, rfl, upd_same, by decide, by decide, (by decide), fun l7 m7 => ?_⟩⟩
    have s9 := same_new (o := .lst []) m7
    refine ⟨l5, l7, _, _, rfl, rfl, s9 _ _ (s8 _ _ upd_same), upd_same, (by show 1 ≤ sizeLine; decide), fun l8 m8 => ?_⟩
    exact k l8 _ ((sA.trans (s8.trans s9)).trans (same_new m8)) upd_same
/-! ### _law_put, _law_taken -/
/-- all that these call -/
structure Tbs (K : PySem.W.Frag) (mg : Str → Option Value) (B D cP cN cT : Addr) (cs ds : List Addr) : Prop where
  B : Bts K mg B
  D : Rdr K mg D
  Z : Ers K mg cP cN cT cs ds
  needtable : ∃ f fd, Fn K mg "need_table" sNeedTable ["lengths"] f fd
  again : ∃ f fd, Fn K mg "again_from" sAgain ["lengths", "place", "ahead"] f fd
  puttable : ∃ f fd, Fn K mg "put_table" sPutTable ["bits", "lengths"] f fd
  items : ∃ f fd, Fn K mg "lengths_in_items" sItems ["reader"] f fd
  taketable : ∃ f fd, Fn K mg "take_table" sTakeTable ["reader"] f fd
  word : ∃ f fd, Fn K mg "_law_word" sWord ["_law_e"] f fd
def spLPut (K : PySem.W.Frag) (C : Addr) : Sp := fun vs H Q _ => ∃ (p d : Addr) (x : V) (N0 T0 : Nat), vs = [.ref p, x] ∧ BitsAt C H p d N0 T0 ∧ T0 ≤ 1000 ∧ ((∃ (a : Addr) (L : List Nat), x = .ref a ∧ H a = some (.lst (L.map vN)) ∧ L.length = 272 ∧ (∀ b ∈ L, b ≤ 6) ∧ a ≠ d ∧
  ∀ (Pp : List Itm) (b : Nat) (l : Addr) (H' : Hp), Walk L 0 0 Pp 272 b → BitsAt C H' p d (nums (puts Pp) N0) (T0 + tots (puts Pp)) → H' l = some (.lst []) → (∀ c o, H c = some o → c ≠ p → c ≠ d → H' c = some o) → Q (.ref l) H') ∨
  (NoTab K H x ∧ ∀ (l : Addr) (H' : Hp), Same H H' → H' l = some (.lst [.str (Str.ofString "table")]) → Q (.ref l) H'))
theorem scLPut : FnScope ["_law_bits", "_law_table_here", "_law_e"] ["_law_bits", "_law_table_here"] (defScope sLPut) := ⟨rfl, rfl, rfl, by decide +kernel, rfl, by decide +kernel, by decide +kernel⟩
theorem ok_lput {f : Addr} {fd : FuncData} (F : Fn K mg "_law_put" sLPut ["_law_bits", "_law_table_here"] f fd) (Y : Tbs K mg B D cP cN cT cs ds) : FnOk P w K mg base CX0 34 f fd ["_law_bits", "_law_table_here"] (spLPut K B) := by
  have Z := Y.Z
  obtain ⟨_, _, NT⟩ := Y.needtable
  obtain ⟨_, _, AF⟩ := Y.again
  obtain ⟨_, _, PT⟩ := Y.puttable
  obtain ⟨_, _, Wd⟩ := Y.word
  have GP := (ok_puttable (P := P) (w := w) (base := base) PT NT AF Y.B Z).mono (by decide : 32 ≤ 33)
  have GW := ok_word (P := P) (w := w) (base := base) Wd Y.B.R.X Z
  refine F.F.ok scLPut (fun vs H Q E h => ?_) (fun cdv A outer st0 H vs Q E hr h => ?_)
  · obtain ⟨p, d, x, N0, T0, rfl, _⟩ := h
    rfl
  · obtain ⟨p, d, x, N0, T0, rfl, hB, hT, h⟩ := h
    refine ⟨_, pss_cons (ps_try (i := 2) scLPut.nd rfl rfl (by rfl) Z.mP Z.xP rfl rfl rfl
        (fun pn σ0 E => pss_one (ps_expr (pe_callX GP hr (by rfl) PT.m PT.F.kp PT.b .nil (passT rfl) (pa_cons (pv 0) (pa_cons (pv 1) pa_nil)))))
        (fun e G => pss_one (ps_ret (pe_call GW (hr.hand (by decide) (by decide)) (by rfl) Wd.m Wd.F.kp Wd.b .nil pass0 (pa_cons (pv 2) pa_nil)))))
      (pss_one (ps_ret (pe_lst pa_nil))), ?_⟩
    refine ⟨rfl, _, rfl, _, rfl, p, d, x, N0, T0, rfl, hB, hT, ?_⟩
    rcases h with ⟨a, L, rfl, ha, hl, h6, nad, k⟩ | ⟨hN, k⟩
    · refine .inl ⟨a, L, rfl, ha, hl, h6, nad, fun Pp b H1 hw hB1 kp => ⟨by decide, fun l nl => ?_⟩⟩
      have s1 := same_new (o := .lst []) nl
      obtain ⟨dx, B1, r1, k1, hp1, hd1, br1, hk1⟩ := hB1
      exact k Pp b l _ hw ⟨dx, B1, r1, k1, s1 _ _ hp1, s1 _ _ hd1, br1, hk1⟩ upd_same fun c o e n1 n2 => s1 _ _ (kp _ _ e n1 n2)
    · refine .inr ⟨hN, cT, rfl, Z.xT, Z.nT, Z.sT, fun e vs he => ?_⟩
      refine ⟨_, rfl, e, cT, _, rfl, ⟨vs, upd_same⟩, .inr ⟨rfl, rfl⟩, fun l H1 s1 hl => ?_⟩
      exact k l H1 ((same_new he).trans s1) hl
/-- the word of a refusal of a table -/
def wd (o : Option (Nat × Nat)) : Str := if o = none then Str.ofString "bits" else Str.ofString "table"
def spLTaken (C : Addr) : Sp := fun vs H Q _ => ∃ (p d : Addr) (R : List Nat) (t : Nat) (o : Option (Nat × Nat)), vs = [.ref p] ∧ ReadAt C H p d R t ∧ Rd R t 0 o ∧ (∀ c t', o = some (c, t') → 272 < c) ∧
  ∀ (l : Addr) (H' : Hp), ReadAt C H' p d R t → H' l = some (.lst [.str (wd o)]) → (∀ c o, H c = some o → c ≠ p → H' c = some o) → Q (.ref l) H'
theorem scLTaken : FnScope ["_law_reader", "_law_e"] ["_law_reader"] (defScope sLTaken) := ⟨rfl, rfl, rfl, by decide +kernel, rfl, by decide +kernel, by decide +kernel⟩
theorem ok_ltaken {f : Addr} {fd : FuncData} (F : Fn K mg "_law_taken" sLTaken ["_law_reader"] f fd) (Y : Tbs K mg B D cP cN cT cs ds) : FnOk P w K mg base CX0 34 f fd ["_law_reader"] (spLTaken D) := by
  have Z := Y.Z
  obtain ⟨_, _, It⟩ := Y.items
  obtain ⟨_, _, TT⟩ := Y.taketable
  obtain ⟨_, _, Wd⟩ := Y.word
  have GT := ok_taketable (P := P) (w := w) (base := base) TT It Y.D Z
  have GW := ok_word (P := P) (w := w) (base := base) Wd Y.B.R.X Z
  refine F.F.ok scLTaken (fun vs H Q E h => ?_) (fun cdv A outer st0 H vs Q E hr h => ?_)
  · obtain ⟨p, d, R, t, o, rfl, _⟩ := h
    rfl
  · obtain ⟨p, d, R, t, o, rfl, hR, hRd, h272, k⟩ := h
    refine ⟨_, pss_one (ps_try (i := 1) scLTaken.nd rfl rfl (by rfl) Z.mP Z.xP rfl rfl rfl
        (fun pn σ0 E => pss_one (ps_ret (pe_callX GT hr (by rfl) TT.m TT.F.kp TT.b .nil (passT rfl) (pa_cons (pv 0) pa_nil))))
        (fun e G => pss_one (ps_ret (pe_call GW (hr.hand (by decide) (by decide)) (by rfl) Wd.m Wd.F.kp Wd.b .nil pass0 (pa_cons (pv 1) pa_nil))))), ?_⟩
    refine ⟨rfl, _, rfl, p, d, R, t, o, rfl, hR, hRd, h272, fun H1 hR1 kp => ?_⟩
    have fin : ∀ (e : Addr) (vs : Array Value) (C : Addr) (l : Addr) (H2 : Hp), H1 e = none → Same (upd H1 e (.frz (exO (.ref C) vs) (.own e))) H2 → H2 l = some (.lst [.str (wd o)]) → Q (.ref l) H2 := fun e vs C l H2 he s2 hl => by
      have s1 := same_new (o := .frz (exO (.ref C) vs) (.own e)) he
      obtain ⟨⟨dx, hp1⟩, hd1, hb1, ht1⟩ := hR1
      exact k l H2 ⟨⟨dx, s2 _ _ (s1 _ _ hp1)⟩, s2 _ _ (s1 _ _ hd1), hb1, ht1⟩ hl fun c o e n1 => s2 _ _ (s1 _ _ (kp _ _ e n1))
    cases o with
    | none => exact ⟨cN, rfl, Z.xN, Z.nN, Z.sN, fun e vs he => ⟨_, rfl, e, cN, _, rfl, ⟨vs, upd_same⟩, .inl ⟨rfl, rfl⟩, fun l H2 s2 hl => fin e vs cN l H2 he s2 hl⟩⟩
    | some z => exact ⟨cT, rfl, Z.xT, Z.nT, Z.sT, fun e vs he => ⟨_, rfl, e, cT, _, rfl, ⟨vs, upd_same⟩, .inr ⟨rfl, rfl⟩, fun l H2 s2 hl => fin e vs cT l H2 he s2 hl⟩⟩
end
end K12

set_option Elab.async false
set_option linter.all false
set_option maxRecDepth 100000
set_option maxHeartbeats 4000000
namespace L2
open PySem PySem.Spec PyProof.Rows QQ
/-! ### lists of pairs as tables -/
section
variable {κ : Type} [DecidableEq κ]
def valV (kvs : List (κ × V)) (k : κ) : Option V := (kvs.find? fun kv => decide (kv.1 = k)).map (·.2)
/-- in its place, or at the end -/
def putK (kvs : List (κ × V)) (k : κ) (v : V) : List (κ × V) :=
  if (kvs.any fun kv => decide (kv.1 = k)) = true then kvs.map (fun kv => if kv.1 = k then (kv.1, v) else kv) else kvs ++ [(k, v)]
def dropK (kvs : List (κ × V)) (k : κ) : List (κ × V) := kvs.filter fun kv => decide (kv.1 ≠ k)

theorem valV_pos {p : κ × V} {r : List (κ × V)} {k : κ} (e : p.1 = k) : valV (p :: r) k = some p.2 := by simp [valV, List.find?_cons, e]
theorem valV_neg {p : κ × V} {r : List (κ × V)} {k : κ} (e : ¬ p.1 = k) : valV (p :: r) k = valV r k := by simp [valV, List.find?_cons, e]
theorem valV_any (k : κ) : ∀ kvs : List (κ × V), (kvs.any fun kv => decide (kv.1 = k)) = (valV kvs k).isSome
  | [] => rfl
  | p :: r => by
    rw [List.any_cons]
    by_cases e : p.1 = k
    · simp only [valV_pos e, decide_eq_true e, Bool.true_or, Option.isSome_some]
    · rw [valV_neg e, decide_eq_false e, Bool.false_or]; exact valV_any k r
theorem RelO.isSome_eq {o : Option V} {u : Option Value} (r : RelO o u) : o.isSome = u.isSome := by
  cases o with
  | none => cases u with
    | none => rfl
    | some _ => exact (show False from r).elim
  | some _ => cases u with
    | none => exact (show False from r).elim
    | some _ => rfl
theorem RelO.getD {o : Option V} {u : Option Value} {d : V} {d' : Value} (r : RelO o u) (rd : RelV d d') : RelV (o.getD d) (u.getD d') := by
  cases o with
  | none => cases u with
    | none => exact rd
    | some _ => exact (show False from r).elim
  | some _ => cases u with
    | none => exact (show False from r).elim
    | some _ => exact r

/-- raw tables of the same keys -/
theorem KV.val {kvs : List (κ × V)} {vs : List (κ × Value)} (r : KV kvs vs) (k : κ) : RelO (valV kvs k) (valueAt vs k) := by
  unfold KV at r
  induction r with
  | nil => exact True.intro
  | @cons p q ps qs h t ih =>
    obtain ⟨h1, h2⟩ := h
    by_cases e : p.1 = k
    · have e' : q.1 = k := h1.symm.trans e
      have b : valueAt (q :: qs) k = some q.2 := by simp [valueAt, List.find?_cons, e']
      rw [valV_pos e, b]; exact h2
    · have e' : ¬ q.1 = k := fun z => e (h1.trans z)
      have b : valueAt (q :: qs) k = valueAt qs k := by simp [valueAt, List.find?_cons, e']
      rw [valV_neg e, b]; exact ih
theorem KV.any {kvs : List (κ × V)} {vs : List (κ × Value)} (r : KV kvs vs) (k : κ) : (kvs.any fun kv => decide (kv.1 = k)) = vs.any fun kv => decide (kv.1 = k) := by
  unfold KV at r
  induction r with
  | nil => rfl
  | cons h t ih => rw [List.any_cons, List.any_cons, ih, h.1]
theorem KV.repl {kvs : List (κ × V)} {vs : List (κ × Value)} (r : KV kvs vs) (k : κ) {y : V} {u : Value} (ry : RelV y u) :
    KV (kvs.map fun kv => if kv.1 = k then (kv.1, y) else kv) (vs.map fun kv => if kv.1 = k then (kv.1, u) else kv) := by
  unfold KV at r ⊢
  induction r with
  | nil => exact .nil
  | @cons p q ps qs h t ih =>
    rw [List.map_cons, List.map_cons]
    refine .cons ?_ ih
    obtain ⟨h1, h2⟩ := h
    by_cases e : p.1 = k
    · rw [if_pos e, if_pos (h1.symm.trans e)]; exact ⟨h1, ry⟩
    · rw [if_neg e, if_neg (fun z => e (h1.trans z))]; exact ⟨h1, h2⟩
theorem KV.put {kvs : List (κ × V)} {vs : List (κ × Value)} (r : KV kvs vs) (k : κ) {y : V} {u : Value} (ry : RelV y u) : KV (putK kvs k y) (stored vs k u) := by
  unfold putK stored
  rw [r.any k]
  by_cases e : (vs.any fun kv => decide (kv.1 = k)) = true
  · rw [if_pos e, if_pos e]; exact r.repl k ry
  · rw [if_neg e, if_neg e]; exact Paired.snoc r ⟨rfl, ry⟩
theorem KV.drop {kvs : List (κ × V)} {vs : List (κ × Value)} (r : KV kvs vs) (k : κ) : KV (dropK kvs k) (without vs k) := by
  unfold KV at r ⊢
  unfold dropK without
  induction r with
  | nil => exact .nil
  | @cons p q ps qs h t ih =>
    obtain ⟨h1, h2⟩ := h
    rw [List.filter_cons, List.filter_cons]
    by_cases e : p.1 = k
    · have a : ¬ decide (p.1 ≠ k) = true := by simp [e]
      have b : ¬ decide (q.1 ≠ k) = true := by simp [h1.symm.trans e]
      rw [if_neg a, if_neg b]; exact ih
    · have e' : ¬ q.1 = k := fun z => e (h1.trans z)
      have a : decide (p.1 ≠ k) = true := by simp [e]
      have b : decide (q.1 ≠ k) = true := by simp [e']
      rw [if_pos a, if_pos b]; exact .cons ⟨h1, h2⟩ ih
theorem KV.keys {kvs : List (κ × V)} {vs : List (κ × Value)} (r : KV kvs vs) : kvs.map (·.1) = vs.map (·.1) := by
  unfold KV at r
  induction r with
  | nil => rfl
  | cons h t ih => rw [List.map_cons, List.map_cons, ih, h.1]
theorem KV.length {kvs : List (κ × V)} {vs : List (κ × Value)} (r : KV kvs vs) : kvs.length = vs.length := Paired.length r
end


/-! ### a tracked dict, its keys ints and texts or tuples of these -/
/-- raw entries of a dict with tuple keys -/
abbrev KT (H : Hp) : List (List Key × V) → List (List Key × Addr × Value) → Prop := Paired fun p q => p.1 = q.1 ∧ H q.2.1 = some (.tup (p.1.map kV)) ∧ RelV p.2 q.2.2
theorem KT.val {H : Hp} {kvs : List (List Key × V)} {xs : List (List Key × Addr × Value)} (r : KT H kvs xs) (k : List Key) : RelO (valV kvs k) ((atKey xs k).map (·.2)) := by
  induction r with
  | nil => exact True.intro
  | @cons p q ps qs h t ih =>
    obtain ⟨h1, _, h2⟩ := h
    by_cases e : p.1 = k
    · have e' : q.1 = k := h1.symm.trans e
      have b : atKey (q :: qs) k = some q.2 := by simp [atKey, List.find?_cons, e']
      rw [valV_pos e, b]; exact h2
    · have e' : ¬ q.1 = k := fun z => e (h1.trans z)
      have b : atKey (q :: qs) k = atKey qs k := by simp [atKey, List.find?_cons, e']
      rw [valV_neg e, b]; exact ih
theorem KT.repl {H : Hp} {kvs : List (List Key × V)} {xs : List (List Key × Addr × Value)} (r : KT H kvs xs) (k : List Key) {y : V} {u : Value} (ry : RelV y u) :
    KT H (kvs.map fun kv => if kv.1 = k then (kv.1, y) else kv) (xs.map (putAt k u)) := by
  induction r with
  | nil => exact .nil
  | @cons p q ps qs h t ih =>
    rw [List.map_cons, List.map_cons]
    refine .cons ?_ ih
    obtain ⟨h1, h2, h3⟩ := h
    unfold putAt
    by_cases e : p.1 = k
    · rw [if_pos e, if_pos (h1.symm.trans e)]; exact ⟨h1, h2, ry⟩
    · rw [if_neg e, if_neg (fun z => e (h1.trans z))]; exact ⟨h1, h2, h3⟩
theorem KT.put {H : Hp} {kvs : List (List Key × V)} {xs : List (List Key × Addr × Value)} (r : KT H kvs xs) (k : List Key) {b : Addr} {y : V} {u : Value} (hb : H b = some (.tup (k.map kV))) (ry : RelV y u) :
    KT H (putK kvs k y) (storedH xs k b u) := by
  have e : (kvs.any fun kv => decide (kv.1 = k)) = (atKey xs k).isSome := by
    rw [valV_any, (r.val k).isSome_eq, Option.isSome_map]
  unfold putK storedH
  rw [e]
  by_cases q : (atKey xs k).isSome = true
  · rw [if_pos q, if_pos q]; exact r.repl k ry
  · rw [if_neg q, if_neg q]; exact Paired.snoc r ⟨rfl, hb, ry⟩
theorem KT.keeps {H H' : Hp} {kvs : List (List Key × V)} {xs : List (List Key × Addr × Value)} (r : KT H kvs xs) (ht : ∀ b ys, H b = some (.tup ys) → H' b = some (.tup ys)) : KT H' kvs xs :=
  Paired.mapP r fun _ _ z => ⟨z.1, ht _ _ z.2.1, z.2.2⟩

section
variable {P : Program} {w : World} {H : Hp} {h : Heap} {a : Addr}
end

/-- what the dict at a holds at the key y -/
def DGet (H : Hp) (a : Addr) (y : V) (r : Option V) : Prop :=
  (∃ kvs k, Rd H a (.dK kvs) ∧ y = kV k ∧ r = valV kvs k) ∨ ∃ kvs k b, Rd H a (.dT kvs) ∧ y = .ref b ∧ H b = some (.tup (k.map kV)) ∧ r = valV kvs k
/-- the heap behind a[y] = v -/
def DPut (H : Hp) (a : Addr) (y v : V) (H' : Hp) : Prop :=
  (∃ kvs k, H a = some (.dK kvs) ∧ y = kV k ∧ kvs.length < sizeLine ∧ H' = upd H a (.dK (putK kvs k v))) ∨
  ∃ kvs k b, H a = some (.dT kvs) ∧ y = .ref b ∧ H b = some (.tup (k.map kV)) ∧ kvs.length < sizeLine ∧ H' = upd H a (.dT (putK kvs k v))
theorem DGet.k {H : Hp} {a : Addr} {kvs : List (Key × V)} {k : Key} (e : H a = some (.dK kvs)) : DGet H a (kV k) (valV kvs k) := .inl ⟨kvs, k, .inl e, rfl, rfl⟩
theorem DGet.t {H : Hp} {a b : Addr} {kvs : List (List Key × V)} {k : List Key} (e : H a = some (.dT kvs)) (eb : H b = some (.tup (k.map kV))) : DGet H a (.ref b) (valV kvs k) := .inr ⟨kvs, k, b, .inl e, rfl, eb, rfl⟩
theorem DPut.k {H : Hp} {a : Addr} {kvs : List (Key × V)} {k : Key} {v : V} (e : H a = some (.dK kvs)) (hl : kvs.length < sizeLine) : DPut H a (kV k) v (upd H a (.dK (putK kvs k v))) := .inl ⟨kvs, k, e, rfl, hl, rfl⟩
theorem DPut.t {H : Hp} {a b : Addr} {kvs : List (List Key × V)} {k : List Key} {v : V} (e : H a = some (.dT kvs)) (eb : H b = some (.tup (k.map kV))) (hl : kvs.length < sizeLine) :
    DPut H a (.ref b) v (upd H a (.dT (putK kvs k v))) := .inr ⟨kvs, k, b, e, rfl, eb, hl, rfl⟩


section
variable {X : Cx} {pins : List (Addr × Obj)} {σ : St} {H : Hp} {s : Shared} {a : Addr} {y v : V} {u r : Value} {o : Option V} {A : Around} {E : Value → Shared → Prop}

theorem Inv.big (I : Inv X pins σ H s) : sysModules < s.heap.objs.size := by
  have h : mainGlobals < s.heap.objs.size := (I.mod.glob.keeps I.bk).lt
  exact Nat.lt_trans (by decide) h

end

section
variable {X : Cx} {pins : List (Addr × Obj)} {σ : St} {H : Hp} {s : Shared} {a : Addr} {kvs : List (Key × V)} {k : Key} {u : Value} {A : Around} {E : Value → Shared → Prop}
end


/-! ### readings and rules -/
section
variable {X : Cx} {o i e value : Expr} {pos pos' tpos : Pos} {td ty tv : TE}
end


/-! ### displays -/
theorem dk_empty {P : Program} {w : World} {H : Hp} (h : Heap) (hb : sysModules < h.objs.size) : ObjOk P w H (h.push { cls := .type "dict", data := .dict #[] }) h.objs.size (.dK []) :=
  ⟨Nat.zero_le _, beq_eq_false_iff_ne.mpr (Ne.symm (Nat.ne_of_lt hb)), [], .nil, Heap.DictOf.new h⟩
/-- {}, to be a dict of the kind that is wanted -/
def tDNewK : TE := fun _ H Q => ∀ p, H p = none → Q (.ref p) (upd H p (.dK []))
section
variable {X : Cx} {pos : Pos}
theorem pe_dnewK : PE X (.Dict [] [] pos) tDNewK := fun pins s σ H Q I h =>
  wpAny_Dict_empty ⟨.ref s.heap.objs.size, _, I.laid (a := s.heap.objs.size) (o := .dK []) (t' := s.toks) (fun _ _ q => Heap.get?_push_of_some _ q) (Nat.le_refl _) (dk_empty s.heap I.big), rfl, h _ (I.hok.fresh (Nat.le_refl _))⟩
end

end L2

set_option Elab.async false
set_option linter.all false
set_option maxRecDepth 100000
set_option maxHeartbeats 4000000
namespace K12
open PySem L2 QQ W13 W12 BP
seal PE PA PS PSs PT PW PG PI
section
variable {K : PySem.W.Frag}
theorem sm_int {i : Int} (h1 : i.natAbs.log2 < 1920) (h2 : (PyData.shown (.int i)).length ≤ 100) : Sm (.int i) := ⟨by simpa [PyData.showable] using h1, by simp only [PyData.hasDict], h2, by simp only [PyData.depth]; omega⟩
theorem sm_six : ∀ b : Nat, b ≤ 6 → Sm (.int (b : Int))
  | 0, _ | 1, _ | 2, _ | 3, _ | 4, _ | 5, _ | 6, _ => sm_int (by decide) (by decide +kernel)
theorem sm_bool (b : Bool) : Sm (.bool b) := ⟨by simp only [PyData.showable], by simp only [PyData.hasDict], by cases b <;> decide +kernel, by simp only [PyData.depth]; omega⟩
theorem sm_none : Sm .none := ⟨by simp only [PyData.showable], by simp only [PyData.hasDict], by decide +kernel, by simp only [PyData.depth]; omega⟩
theorem sm_str (x : Str) (h : (PyData.shown (.str x)).length ≤ 100) : Sm (.str x) := ⟨by simp only [PyData.showable], by simp only [PyData.hasDict], h, by simp only [PyData.depth]; omega⟩
/-- a thing that is no length, and its text -/
def Wr (K : PySem.W.Frag) (H : Hp) (v : V) : Prop := WhV K H v 0 6 false ∧ ∃ d, Sh1 H v d
theorem TyOf.same {H H' : Hp} {v : V} {t : Value} (s : Same H H') (ty : TyOf K H v t) : TyOf K H' v t := by
  cases ty with
  | non => exact .non
  | bl x => exact .bl x
  | int i => exact .int i
  | str x => exact .str x
  | flt x => exact .flt x
  | lst e => exact .lst (s _ _ e)
  | frz e => exact .frz (s _ _ e)
  | tup e => exact .tup (s _ _ e)
  | dK e => exact .dK (s _ _ e)
  | dT e => exact .dT (s _ _ e)
  | ins e cl ha hn htk hm => exact .ins (s _ _ e) cl ha hn htk hm
theorem WhV.same {H H' : Hp} {v : V} {lo hi : Int} {b : Bool} (s : Same H H') (h : WhV K H v lo hi b) : WhV K H' v lo hi b := by
  rcases h with h1 | ⟨⟨t, b, c, ty, k⟩, e⟩
  · exact .inl h1
  · exact .inr ⟨⟨t, b, c, TyOf.same s ty, k⟩, e⟩
theorem Wr.same {H H' : Hp} {v : V} (s : Same H H') (h : Wr K H v) : Wr K H' v :=
  ⟨WhV.same s h.1, h.2.elim fun d z => ⟨d, z.same s⟩⟩
theorem ten_at {H : Hp} {l t : Addr} (hl : H l = some (.lst [.int 0])) (ht : H t = some (.tup [.int 1])) (m : Int) :
    ∃ v, atI [V.int 7, V.int (-1), .bl true, .bl false, .non, .str (Str.ofString "0"), .ref l, .ref t, .int (10 ^ Int.toNat 20), .int (-(10 ^ Int.toNat 9))] (m % 10) = some v ∧ Wr K H v := by
  obtain ⟨z, hz, ez⟩ : ∃ z : Nat, z < 10 ∧ m % 10 = (z : Int) := ⟨(m % 10).toNat, by omega, by omega⟩
  rw [ez]
  have i0 : ∀ i : Int, (decide ((0 : Int) ≤ i) && decide (i ≤ 6)) = false → i.natAbs.log2 < 1920 → (PyData.shown (.int i)).length ≤ 100 → Wr K H (.int i) := fun i h1 h2 h3 => ⟨.inl ⟨i, rfl, h1.symm⟩, _, sm_int h2 h3, .inl rfl⟩
  match z, hz with
  | 0, _ => exact ⟨_, atI_nat rfl, i0 _ (by decide) (by decide) (by decide +kernel)⟩
  | 1, _ => exact ⟨_, atI_nat rfl, i0 _ (by decide) (by decide) (by decide +kernel)⟩
  | 2, _ => exact ⟨_, atI_nat rfl, .inr ⟨.bl _, rfl⟩, _, sm_bool true, .inl rfl⟩
  | 3, _ => exact ⟨_, atI_nat rfl, .inr ⟨.bl _, rfl⟩, _, sm_bool false, .inl rfl⟩
  | 4, _ => exact ⟨_, atI_nat rfl, .inr ⟨.non, rfl⟩, _, sm_none, .inl rfl⟩
  | 5, _ => exact ⟨_, atI_nat rfl, .inr ⟨.str _, rfl⟩, .str (Str.ofString "0"), sm_str _ (by decide +kernel), .inl rfl⟩
  | 6, _ => exact ⟨_, atI_nat rfl, .inr ⟨.of (.lst hl) (by decide), rfl⟩, .list [.int 0], ⟨by decide +kernel, by simp [PyData.hasDict, PyData.hasDictAll], by decide +kernel, by simp [PyData.depth, PyData.depthAll]⟩, .inr ⟨l, rfl, [.int 0], [.int 0], by decide, .cons rfl .nil, .inl ⟨hl, rfl⟩⟩⟩
  | 7, _ => exact ⟨_, atI_nat rfl, .inr ⟨.of (.tup ht) (by decide), rfl⟩, .tuple [.int 1], ⟨by decide +kernel, by simp [PyData.hasDict, PyData.hasDictAll], by decide +kernel, by simp [PyData.depth, PyData.depthAll]⟩, .inr ⟨t, rfl, [.int 1], [.int 1], by decide, .cons rfl .nil, .inr ⟨ht, rfl⟩⟩⟩
  | 8, _ => exact ⟨_, atI_nat rfl, i0 _ (by decide) (by decide) (by decide +kernel)⟩
  | 9, _ => exact ⟨_, atI_nat rfl, i0 _ (by decide) (by decide) (by decide +kernel)⟩
/-- good lengths, and their texts -/
theorem sh_good {H : Hp} : ∀ {L : List Nat}, (∀ b ∈ L, b ≤ 6) → Paired (Sh1 H) (L.map vN) (L.map fun b : Nat => PyData.int (b : Int))
  | [], _ => .nil
  | b :: L, h => .cons ⟨sm_six b (h b List.mem_cons_self), .inl rfl⟩ (sh_good fun c hc => h c (List.mem_cons_of_mem _ hc))
theorem Paired.app {α β : Type} {F : α → β → Prop} : ∀ {a1 a2 : List α} {b1 b2 : List β}, Paired F a1 b1 → Paired F a2 b2 → Paired F (a1 ++ a2) (b1 ++ b2)
  | _, _, _, _, .nil, q => q
  | _, _, _, _, .cons p r, q => .cons p (Paired.app r q)
/-- no table, with a text, a list or none -/
structure OddX (K : PySem.W.Frag) (H : Hp) (x : V) : Prop where
  no : NoTab K H x
  tx : ∃ d, Sh2 H x d
  ls : (∃ l xs, x = .ref l ∧ H l = some (.lst xs)) ∨ ∃ t, TyOf K H x t ∧ PySem.W.kitOne K t (.type "list") = some false
theorem OddX.same {H H' : Hp} {x : V} (s : Same H H') (h : OddX K H x) : OddX K H' x := by
  refine ⟨?_, h.tx.elim fun d z => ⟨d, z.same s⟩, ?_⟩
  · rcases h.no with ⟨t, ty, k⟩ | ⟨a, L, e, hl, r⟩ | ⟨a, xs, j, y, e, hl, r1, r2, wv⟩
    · exact .inl ⟨t, TyOf.same s ty, k⟩
    · exact .inr (.inl ⟨a, L, e, s _ _ hl, r⟩)
    · exact .inr (.inr ⟨a, xs, j, y, e, s _ _ hl, r1, r2, WhV.same s wv⟩)
  · rcases h.ls with ⟨l, xs, e, hl⟩ | ⟨t, ty, k⟩
    · exact .inl ⟨l, xs, e, s _ _ hl⟩
    · exact .inr ⟨t, TyOf.same s ty, k⟩
theorem odd_ty {H : Hp} {x : V} {t : String} {d : PyData} (ty : TyOf K H x (.type t)) (h : ["NoneType", "str", "int", "bool", "tuple", "dict"].contains t = true) (hs : Sh2 H x d) : OddX K H x :=
  have k := kit_nl K h
  ⟨.inl ⟨_, ty, k⟩, ⟨d, hs⟩, .inr ⟨_, ty, k⟩⟩
theorem odd_len {H : Hp} {l : Addr} {L : List Nat} (hl : H l = some (.lst (L.map vN))) (h6 : ∀ b ∈ L, b ≤ 6) (hn : L.length ≠ 272) (h3 : L.length ≤ 300) : OddX K H (.ref l) :=
  ⟨.inr (.inl ⟨l, L, rfl, hl, h6, hn⟩), ⟨_, .inr ⟨l, rfl, .inr ⟨_, _, by rw [List.length_map]; exact h3, sh_good h6, .inl ⟨hl, rfl⟩⟩⟩⟩, .inl ⟨l, _, rfl, hl⟩⟩
theorem nine_at {H : Hp} {l1 t l2 l3 dd : Addr} {L : List Nat} (h6 : ∀ b ∈ L, b ≤ 6) (h272 : L.length = 272) (hl1 : H l1 = some (.lst [])) (ht : H t = some (.tup (L.map vN))) (hl2 : H l2 = some (.lst ((L.take 271).map vN))) (hl3 : H l3 = some (.lst ((L ++ [0]).map vN))) (hd : H dd = some (.dK [])) (m : Int) :
    ∃ v, atI [V.non, .ref l1, .ref t, .ref l2, .ref l3, .ref dd, .str (Str.ofString "table"), .int 0, .bl true] (m % 9) = some v ∧ OddX K H v ∧ ∀ q, v = .ref q → q = l1 ∨ q = t ∨ q = l2 ∨ q = l3 ∨ q = dd := by
  obtain ⟨z, hz, ez⟩ : ∃ z : Nat, z < 9 ∧ m % 9 = (z : Int) := ⟨(m % 9).toNat, by omega, by omega⟩
  rw [ez]
  match z, hz with
  | 0, _ => exact ⟨_, atI_nat rfl, odd_ty .non (by decide) (.inl ⟨rfl, sm_none⟩), fun q e => by cases e⟩
  | 1, _ => exact ⟨_, atI_nat rfl, odd_len (L := []) hl1 (fun b hb => by simp at hb) (by decide) (by decide), fun q e => by cases e; simp⟩
  | 2, _ => exact ⟨_, atI_nat rfl, odd_ty (.tup ht) (by decide) (.inr ⟨t, rfl, .inr ⟨_, _, by rw [List.length_map]; omega, sh_good h6, .inr ⟨ht, rfl⟩⟩⟩), fun q e => by cases e; simp⟩
  | 3, _ => exact ⟨_, atI_nat rfl, odd_len hl2 (fun b hb => h6 b (List.mem_of_mem_take hb)) (by rw [List.length_take]; omega) (by rw [List.length_take]; omega), fun q e => by cases e; simp⟩
  | 4, _ => exact ⟨_, atI_nat rfl, odd_len hl3 (fun b hb => (List.mem_append.mp hb).elim (h6 b) fun z => by simp at z; omega) (by simp; omega) (by simp; omega), fun q e => by cases e; simp⟩
  | 5, _ => exact ⟨_, atI_nat rfl, odd_ty (.dK hd) (by decide) (.inr ⟨dd, rfl, .inl ⟨hd, rfl⟩⟩), fun q e => by cases e; simp⟩
  | 6, _ => exact ⟨_, atI_nat rfl, odd_ty (.str _) (by decide) (.inl ⟨rfl, sm_str _ (by decide +kernel)⟩), fun q e => by cases e⟩
  | 7, _ => exact ⟨_, atI_nat rfl, odd_ty (.int _) (by decide) (.inl ⟨rfl, sm_six 0 (by decide)⟩), fun q e => by cases e⟩
  | 8, _ => exact ⟨_, atI_nat rfl, odd_ty (.bl _) (by decide) (.inl ⟨rfl, sm_bool true⟩), fun q e => by cases e⟩
end
section
variable {P : Program} {w : World} {K : PySem.W.Frag} {mg : Str → Option Value} {base : Heap}
/-! ### _law_odd -/
def spOdd (K : PySem.W.Frag) : Sp := fun vs H Q _ => ∃ (a : Addr) (L : List Nat) (n : Nat), vs = [.ref a, vN n] ∧ H a = some (.lst (L.map vN)) ∧ L.length = 272 ∧ (∀ b ∈ L, b ≤ 6) ∧ ∀ (x : V) (H' : Hp), Same H H' → OddX K H' x → (∀ q, x = .ref q → H q = none) → Q x H'
abbrev nOdd : List Str := ["_law_table_here", "_law_number", "_law_at", "_law_wrong", "_law_some"]
theorem scOdd : FnScope nOdd ["_law_table_here", "_law_number"] (defScope sOdd) := ⟨rfl, rfl, rfl, by decide +kernel, rfl, by decide +kernel, by decide +kernel⟩
theorem ok_odd {f : Addr} {fd : FuncData} (F : Fn K mg "_law_odd" sOdd ["_law_table_here", "_law_number"] f fd) (T : Txt K mg) : FnOk P w K mg base CX0 2 f fd ["_law_table_here", "_law_number"] (spOdd K) := by
  refine F.F.ok scOdd (fun vs H Q E h => ?_) (fun cdv A outer st H vs Q E hr h => ?_)
  · obtain ⟨a, L, n, rfl, _⟩ := h
    rfl
  · obtain ⟨a, L, n, rfl, ha, h272, h6, q⟩ := h
    refine ⟨_, pss_cons (ps_set (i := 2) scOdd.nd rfl (Or.inl rfl) (pe_op op_mod (pe_op op_fdiv (pv 1) pe_int) pe_int))
      (pss_cons (ps_set (i := 3) scOdd.nd rfl (Or.inl rfl) (pe_ix ix_list (pe_lst (pa_cons pe_int (pa_cons (pe_un un_neg pe_int) (pa_cons pe_bl (pa_cons pe_bl (pa_cons pe_non (pa_cons pe_str (pa_cons (pe_lst (pa_cons pe_int pa_nil)) (pa_cons (pe_tup (pa_cons pe_int pa_nil)) (pa_cons (pe_op op_pow pe_int pe_int) (pa_cons (pe_un un_neg (pe_op op_pow pe_int pe_int)) pa_nil))))))))))) (pe_op op_mod (pe_op op_fdiv (pv 1) pe_int) pe_int) (fun _ _ => rfl)))
      (pss_cons (ps_set (i := 4) scOdd.nd rfl (Or.inl rfl) (pe_lst (pa_cons pe_non (pa_cons (pe_lst pa_nil) (pa_cons (pe_callTy call_tuple_of (by rfl) T.tuple PyProof.Rows.boot_tuple (pa_cons (pv 0) pa_nil)) (pa_cons (pe_slice sl_list (pv 0) po_none (po_some pe_int)) (pa_cons (pe_op op_cat (pv 0) (pe_lst (pa_cons pe_int pa_nil))) (pa_cons pe_dnewK (pa_cons pe_str (pa_cons pe_int (pa_cons pe_bl pa_nil)))))))))))
      (pss_cons (ps_if (pt_cmpR op_eq (pe_op op_mod (pv 1) pe_int) pe_int (nomark _)) (pss_one (ps_ret (pe_ix ix_list (pv 4) (pe_op op_mod (pe_op op_fdiv (pv 1) pe_int) pe_int) (fun _ _ => rfl)))) pss_nil)
      (pss_one (ps_ret (pe_op op_cat (pe_op op_cat (pe_slice sl_list (pv 0) po_none (po_some (pv 2))) (pe_lst (pa_cons (pv 3) pa_nil))) (pe_slice sl_list (pv 0) (po_some (pe_op op_add (pv 2) pe_int)) po_none))))))), ?_⟩
    refine seq_g fun R1 g1 => ?_
    refine ⟨_, rfl, _, _, rfl, rfl, ⟨by decide, by decide⟩, _, _, rfl, rfl, (by show (0 : Int) < 272; decide), g1 _ _ ?_⟩
    clear g1
    have e1 : ((n : Nat) : Int) / 16 % 272 = ((n / 16 % 272 : Nat) : Int) := by omega
    try dsimp only
    rw [e1]
    have hk : n / 16 % 272 < 272 := Nat.mod_lt _ (by decide)
    generalize n / 16 % 272 = k at *
    -- the wrong thing
    refine seq_g fun R1 g1 => ?_
    refine ⟨_, rfl, (by show 1 ≤ sizeLine; decide), fun l1 n1 => ?_⟩
    have s1 := same_new (o := .lst [.int 0]) n1
    have h11 : (upd H l1 (.lst [.int 0])) l1 = some (.lst [.int 0]) := upd_same
    generalize upd H l1 (.lst [.int 0]) = H1 at *
    refine ⟨(by show 1 ≤ sizeLine; decide), fun t1 n2 => ?_⟩
    have s2 := same_new (o := .tup [.int 1]) n2
    have h22 : (upd H1 t1 (.tup [.int 1])) t1 = some (.tup [.int 1]) := upd_same
    have h21 := s2 _ _ h11
    have s02 := s1.trans s2
    generalize upd H1 t1 (.tup [.int 1]) = H2 at *
    refine ⟨_, _, rfl, rfl, ⟨by decide, by decide, by decide⟩, _, _, rfl, rfl, ⟨by decide, by decide, by decide⟩, _, rfl, (by show 10 ≤ sizeLine; decide), fun l3 n3 => ?_⟩
    obtain ⟨W, hat, hW⟩ := ten_at (K := K) h21 h22 (((n : Nat) : Int) / 16)
    have s3 := same_new (o := .lst [V.int 7, V.int (-1), .bl true, .bl false, .non, .str (Str.ofString "0"), .ref l1, .ref t1, .int (10 ^ Int.toNat 20), .int (-(10 ^ Int.toNat 9))]) n3
    refine ⟨_, rfl, _, _, rfl, rfl, ⟨by decide, by decide⟩, _, _, rfl, rfl, (by show (0 : Int) < 10; decide), l3, _, _, _, rfl, rfl, SqL.of upd_same, hat, g1 _ _ ?_⟩
    clear g1 hat
    have hW3 := hW.same s3
    have s03 := s02.trans s3
    generalize upd H2 l3 (.lst [V.int 7, V.int (-1), .bl true, .bl false, .non, .str (Str.ofString "0"), .ref l1, .ref t1, .int (10 ^ Int.toNat 20), .int (-(10 ^ Int.toNat 9))]) = H3 at *
    clear s1 s2 s3 h11 h21 h22 hW s02 n1 n2 n3
    -- some things
    refine seq_g fun R1 g1 => ?_
    have ha3 := s03 _ _ ha
    refine ⟨(by show 0 ≤ sizeLine; decide), fun l4 n4 => ?_⟩
    have s4 := same_new (o := .lst []) n4
    have h44 : (upd H3 l4 (.lst [])) l4 = some (.lst []) := upd_same
    generalize upd H3 l4 (.lst []) = H4 at *
    refine ⟨_, rfl, a, _, rfl, .inl ⟨SqL.of (s4 _ _ ha3), fun t5 n5 => ?_⟩⟩
    have s5 := same_new (o := .tup (L.map vN)) n5
    have h55 : (upd H4 t5 (.tup (L.map vN))) t5 = some (.tup (L.map vN)) := upd_same
    have h54 := s5 _ _ h44
    have ha5 := s5 _ _ (s4 _ _ ha3)
    have s35 := s4.trans s5
    generalize upd H4 t5 (.tup (L.map vN)) = H5 at *
    refine ⟨_, rfl, _, rfl, a, _, rfl, SqL.of ha5, fun l6 n6 => ?_⟩
    have e6 : cutV (L.map vN) none (some 271) = (L.take 271).map vN := by
      have := take_cut (L.map vN) 271
      rw [List.map_take]
      exact this
    try dsimp only
    rw [e6]
    have s6 := same_new (o := .lst ((L.take 271).map vN)) n6
    have h66 : (upd H5 l6 (.lst ((L.take 271).map vN))) l6 = some (.lst ((L.take 271).map vN)) := upd_same
    have h65 := s6 _ _ h55
    have h64 := s6 _ _ h54
    have ha6 := s6 _ _ ha5
    have s36 := s35.trans s6
    generalize upd H5 l6 (.lst ((L.take 271).map vN)) = H6 at *
    refine ⟨_, rfl, (by show 1 ≤ sizeLine; decide), fun l7 n7 => ?_⟩
    have s7 := same_new (o := .lst [V.int 0]) n7
    have h77 : (upd H6 l7 (.lst [V.int 0])) l7 = some (.lst [V.int 0]) := upd_same
    have ha7 := s7 _ _ ha6
    have s37 := s36.trans s7
    have h76 := s7 _ _ h66
    have h75 := s7 _ _ h65
    have h74 := s7 _ _ h64
    generalize upd H6 l7 (.lst [V.int 0]) = H7 at *
    refine ⟨a, l7, _, _, rfl, rfl, ha7, h77, sl2000 (by rw [List.length_map]; show L.length + 1 ≤ 2000; omega), fun l8 n8 => ?_⟩
    have e8 : L.map vN ++ [V.int 0] = (L ++ [0]).map vN := by rw [List.map_append]; rfl
    rw [e8]
    have s8 := same_new (o := .lst ((L ++ [0]).map vN)) n8
    have h88 : (upd H7 l8 (.lst ((L ++ [0]).map vN))) l8 = some (.lst ((L ++ [0]).map vN)) := upd_same
    have s38 := s37.trans s8
    have h86 := s8 _ _ h76
    have h85 := s8 _ _ h75
    have h84 := s8 _ _ h74
    generalize upd H7 l8 (.lst ((L ++ [0]).map vN)) = H8 at *
    refine fun l9 n9 => ⟨(by show 9 ≤ sizeLine; decide), fun l10 n10 => g1 _ _ ?_⟩
    clear g1
    have s9 := same_new (o := .dK []) n9
    have h99 : (upd H8 l9 (.dK [])) l9 = some (.dK []) := upd_same
    have s39 := s38.trans s9
    have h98 := s9 _ _ h88
    have h96 := s9 _ _ h86
    have h95 := s9 _ _ h85
    have h94 := s9 _ _ h84
    generalize upd H8 l9 (.dK []) = H9 at *
    have s10 := same_new (o := .lst [V.non, .ref l4, .ref t5, .ref l6, .ref l8, .ref l9, .str (Str.ofString "table"), .int 0, .bl true]) n10
    have hAA : (upd H9 l10 (.lst [V.non, .ref l4, .ref t5, .ref l6, .ref l8, .ref l9, .str (Str.ofString "table"), .int 0, .bl true])) l10 = some (.lst [V.non, .ref l4, .ref t5, .ref l6, .ref l8, .ref l9, .str (Str.ofString "table"), .int 0, .bl true]) := upd_same
    have s310 := s39.trans s10
    have hA9 := s10 _ _ h99
    have hA8 := s10 _ _ h98
    have hA6 := s10 _ _ h96
    have hA5 := s10 _ _ h95
    have hA4 := s10 _ _ h94
    generalize upd H9 l10 (.lst [V.non, .ref l4, .ref t5, .ref l6, .ref l8, .ref l9, .str (Str.ofString "table"), .int 0, .bl true]) = HA at *
    have s0A := s03.trans s310
    refine seq_g fun R1 g1 => ?_
    refine ⟨_, rfl, _, _, rfl, rfl, (by show (0 : Int) < 3; decide), rfl, _, rfl, ite2 (fun _ => ?_) (fun _ => g1 _ _ ?_)⟩
    · obtain ⟨v, hat, hv, hq⟩ := nine_at (K := K) h6 h272 hA4 hA5 hA6 hA8 hA9 (((n : Nat) : Int) / 3)
      refine ⟨_, rfl, _, rfl, _, _, rfl, rfl, ⟨by decide, by decide⟩, _, _, rfl, rfl, (by show (0 : Int) < 9; decide), l10, _, _, _, rfl, rfl, SqL.of hAA, hat, q v HA s0A hv fun y ey => ?_⟩
      have none3 : ∀ {b : Addr} {H' : Hp}, Same H H' → H' b = none → H b = none := fun s h => none_of s h
      rcases hq y ey with rfl | rfl | rfl | rfl | rfl
      · exact none_of s03 n4
      · exact none_of (s03.trans s4) n5
      · exact none_of (s03.trans s35) n6
      · exact none_of (s03.trans s37) n8
      · exact none_of (s03.trans s38) n9
    · clear g1
      have haA := s0A _ _ ha
      have hWA := hW3.same s310
      refine ⟨_, rfl, _, rfl, _, rfl, a, _, rfl, SqL.of haA, fun p1 m1 => ?_⟩
      try dsimp only
      rw [take_cut]
      have t1' := same_new (o := .lst ((L.map vN).take k)) m1
      have b11 : (upd HA p1 (.lst ((L.map vN).take k))) p1 = some (.lst ((L.map vN).take k)) := upd_same
      generalize upd HA p1 (.lst ((L.map vN).take k)) = HB at *
      refine ⟨_, rfl, (by show 1 ≤ sizeLine; decide), fun p2 m2 => ?_⟩
      have t2' := same_new (o := .lst [W]) m2
      have b22 : (upd HB p2 (.lst [W])) p2 = some (.lst [W]) := upd_same
      have b21 := t2' _ _ b11
      have tA2 := t1'.trans t2'
      generalize upd HB p2 (.lst [W]) = HC at *
      refine ⟨p1, p2, _, _, rfl, rfl, b21, b22, sl2000 (by simp; omega), fun p3 m3 => ?_⟩
      have t3' := same_new (o := .lst ((L.map vN).take k ++ [W])) m3
      have b33 : (upd HC p3 (.lst ((L.map vN).take k ++ [W]))) p3 = some (.lst ((L.map vN).take k ++ [W])) := upd_same
      have tA3 := tA2.trans t3'
      generalize upd HC p3 (.lst ((L.map vN).take k ++ [W])) = HD at *
      have e9 : ((k : Nat) : Int) + 1 = ((k + 1 : Nat) : Int) := by omega
      refine ⟨_, rfl, _, rfl, _, _, rfl, rfl, _, rfl, a, _, rfl, SqL.of (tA3 _ _ haA), fun p4 m4 => ?_⟩
      try dsimp only
      rw [e9, drop_cut]
      have t4' := same_new (o := .lst ((L.map vN).drop (k + 1))) m4
      have b44 : (upd HD p4 (.lst ((L.map vN).drop (k + 1)))) p4 = some (.lst ((L.map vN).drop (k + 1))) := upd_same
      have b43 := t4' _ _ b33
      have tA4 := tA3.trans t4'
      generalize upd HD p4 (.lst ((L.map vN).drop (k + 1))) = HE at *
      refine ⟨p3, p4, _, _, rfl, rfl, b43, b44, sl2000 (by simp; omega), fun p5 m5 => ?_⟩
      have tA5 := tA4.trans (same_new (o := .lst ((L.map vN).take k ++ [W] ++ (L.map vN).drop (k + 1))) m5)
      refine q (.ref p5) _ (s0A.trans tA5) ?_ (fun y ey => by cases ey; exact none_of (s0A.trans tA4) m5)
      have hWE := hWA.same tA5
      have hp5 : (upd HE p5 (.lst ((L.map vN).take k ++ [W] ++ (L.map vN).drop (k + 1)))) p5 = some (.lst ((L.map vN).take k ++ [W] ++ (L.map vN).drop (k + 1))) := upd_same
      generalize upd HE p5 (.lst ((L.map vN).take k ++ [W] ++ (L.map vN).drop (k + 1))) = HF at *
      have htk : ((L.map vN).take k).length = k := by rw [List.length_take, List.length_map]; omega
      refine ⟨.inr (.inr ⟨p5, _, k, W, rfl, hp5, fun i hi => ?_, ?_, hWE.1⟩), ?_, .inl ⟨p5, _, rfl, hp5⟩⟩
      · have hiL : i < L.length := by omega
        refine ⟨L[i], h6 _ (List.getElem_mem hiL), ?_⟩
        rw [List.append_assoc, List.getElem?_append_left (by rw [htk]; exact hi), List.getElem?_take, if_pos hi]
        exact get_vN hiL
      · rw [List.append_assoc, List.getElem?_append_right (by rw [htk]; exact Nat.le_refl _), htk, Nat.sub_self]
        rfl
      · obtain ⟨dW, hdW⟩ := hWE.2
        refine ⟨_, .inr ⟨p5, rfl, .inr ⟨_, _, ?_, Paired.app (Paired.app (sh_good (L := L.take k) fun b hb => h6 b (List.mem_of_mem_take hb)) (.cons hdW .nil)) (sh_good (L := L.drop (k + 1)) fun b hb => h6 b (List.mem_of_mem_drop hb)), .inl ⟨?_, rfl⟩⟩⟩⟩
        · rw [List.length_append, List.length_append, List.length_map, List.length_map, List.length_take, List.length_drop]
          show min k L.length + 1 + (L.length - (k + 1)) ≤ 300
          omega
        · rw [hp5, List.map_take, List.map_drop]
end
end K12

set_option Elab.async false
set_option linter.all false
set_option maxRecDepth 100000
set_option maxHeartbeats 4000000
namespace L2
open PySem PySem.Spec PyProof.Rows QQ
/-! ### comprehensions over zip -/
/-! ### a list of numbers in a list of such -/
/-! ### list.insert -/
section
variable {X : Cx}
end
end L2
namespace L2
open PySem PySem.Spec PyProof.Rows QQ
end L2

set_option Elab.async false
set_option linter.all false
set_option maxRecDepth 100000
set_option maxHeartbeats 4000000
namespace L2
open PySem PySem.Spec PyProof.Rows QQ
/-! ### comprehensions over a text and over a range with a step -/
/-! ### methods of texts -/
section
variable {X : Cx}
end
end L2

set_option Elab.async false
set_option linter.all false
set_option maxRecDepth 100000
set_option maxHeartbeats 4000000
namespace L2
open PySem PySem.Spec PyProof.Rows QQ
/-! ### a dict against a list -/
open PySem.AutoSeq1 (wpAny_loadPart') in
section
variable {X : Cx}
/-! ### lists within lists and tuples -/
theorem eqAt_gs {pins : List (Addr × Obj)} {σ : St} {H : Hp} {s : Shared} (I : Inv X pins σ H s) {a b : Addr} (h : SameGs X.K H a b) {A : Around} (hu : A.units + 1 < cLine) : SeqAt.EqAt A s (.ref a) (.ref b) true := by
  by_cases e : a = b
  · subst e; exact .same _
  · refine .of_refs e ?_
    obtain ⟨its, its2, pl, pl2, hz, he⟩ := sameGs_at (A := A.in1) I h (by show A.units + 1 < _; omega)
    have R := SeqAt.RcAt.lists (A := A) (e := fun _ => true) pl pl2 hz (by omega) he
    have e2 : (List.range its.toArray.size).all (fun _ => true) = true := by simp
    rw [e2] at R
    exact R
/-! ### another thing against a list -/
end
end L2

set_option Elab.async false
set_option linter.all false
set_option maxRecDepth 100000
set_option maxHeartbeats 4000000
namespace L2
open PySem PySem.Spec PyProof.Rows QQ
section
variable {X : Cx}
/-- pairs of a list of plain things and a number, the same ones -/
def SameLi (K : PySem.W.Frag) (H : Hp) (p q : Addr) : Prop := ∃ (n : Int) (l m : Addr), SqT K H p [.ref l, .int n] ∧ SqT K H q [.ref m, .int n] ∧ SameGs K H l m
theorem sameLi_at {pins : List (Addr × Obj)} {σ : St} {H : Hp} {s : Shared} (I : Inv X pins σ H s) {p q : Addr} (h : SameLi X.K H p q) {A : Around} (hu : A.units + 1 < cLine) : ∃ its its2 : List Value, s.heap.IsTuple p its.toArray ∧ s.heap.IsTuple q its2.toArray ∧ its.toArray.size = its2.toArray.size ∧ ∀ j (h1 : j < its.toArray.size) (h2 : j < its2.toArray.size), SeqAt.EqAt A s its.toArray[j] its2.toArray[j] true := by
  obtain ⟨n, l, m, h1, h2, hs⟩ := h
  obtain ⟨its, rv, pl, hz⟩ := I.tuple h1
  obtain ⟨its2, rv2, pl2, hz2⟩ := I.tuple h2
  obtain ⟨u1, v1, rfl, r1, w1⟩ : ∃ u1 v1, its = [u1, v1] ∧ RelV (.ref l) u1 ∧ RelV (.int n) v1 := by
    cases rv with
    | cons a b => cases b with | cons c d => cases d; exact ⟨_, _, rfl, a, c⟩
  obtain ⟨u2, v2, rfl, r2, w2⟩ : ∃ u2 v2, its2 = [u2, v2] ∧ RelV (.ref m) u2 ∧ RelV (.int n) v2 := by
    cases rv2 with
    | cons a b => cases b with | cons c d => cases d; exact ⟨_, _, rfl, a, c⟩
  cases r1
  cases r2
  refine ⟨_, _, pl, pl2, rfl, fun j h1 h2 => ?_⟩
  have f : flatV (.int n) = true := rfl
  match j, h1 with
  | 0, _ => exact eqAt_gs I hs hu
  | 1, _ =>
    have R := eqAt_V (A := A) (s := s) w1 w2 f f
    rw [eqV_self _ f] at R
    exact R
def rNeLi (K : PySem.W.Frag) : R2 := fun x y H Q => ∃ (p q : Addr), x = .ref p ∧ y = .ref q ∧ SameLi K H p q ∧ Q (.bl false) H
theorem op_neLi (hu : X.A.units + 64 < cLine) : OpR X (compareOp .NotEq) (rNeLi X.K) := by
  intro pins s σ H x y v u Q I rx ry h
  obtain ⟨p, q, rfl, rfl, h, k⟩ := h
  cases rx
  cases ry
  obtain ⟨its, its2, pl, pl2, hz, he⟩ := sameLi_at (A := X.A.in1) I h (by show X.A.units + 1 + 1 < _; omega)
  refine SeqAt.RcNeAt.tuples (e := fun _ => true) pl pl2 (by omega) he _ _ _ _ ?_
  refine ⟨.bl false, H, I, ?_, k⟩
  show Value.bool _ = Value.bool _
  rw [hz]
  simp
/-- lists of the same plain things -/
theorem SameGs.flat {K : PySem.W.Frag} {H : Hp} {p q : Addr} {xs : List V} (h1 : H p = some (.lst xs)) (h2 : H q = some (.lst xs)) (f : ∀ x ∈ xs, flatV x = true) : SameGs K H p q :=
  ⟨xs, xs, SqL.of h1, SqL.of h2, rfl, fun i x y e1 e2 => by
    rw [e1] at e2
    cases e2
    exact .inl ⟨rfl, .inl (f x (List.mem_of_getElem? e1))⟩⟩
end
end L2

set_option Elab.async false
set_option linter.all false
set_option maxRecDepth 100000
set_option maxHeartbeats 4000000
namespace K12
open PySem L2 QQ W13 W12 BP
seal PE PA PS PSs PT PW PG PI
theorem BitsAt.ob {C : Addr} {H : Hp} {p d : Addr} {N T : Nat} (h : BitsAt C H p d N T) : ∃ dx r k, H p = some (.ins C dx (fW d r k)) := by
  obtain ⟨dx, B, r, k, h, _⟩ := h
  exact ⟨dx, r, k, h⟩
theorem BitsAt.keep {C : Addr} {H H' : Hp} {p d : Addr} {N T : Nat} (h : BitsAt C H p d N T) (k : ∀ c o, H c = some o → c = p ∨ c = d → H' c = some o) : BitsAt C H' p d N T := by
  obtain ⟨dx, B, r, m, h1, h2, h3⟩ := h
  exact ⟨dx, B, r, m, k _ _ h1 (.inl rfl), k _ _ h2 (.inr rfl), h3⟩
theorem BitsAt.same {C : Addr} {H H' : Hp} {p d : Addr} {N T : Nat} (h : BitsAt C H p d N T) (k : Same H H') : BitsAt C H' p d N T := h.keep fun c o e _ => k _ _ e
theorem BitsAt.hd {C : Addr} {H : Hp} {p d : Addr} {N T : Nat} (h : BitsAt C H p d N T) : ∃ B : List Nat, H d = some (.lst (B.map vN)) := by
  obtain ⟨dx, B, r, k, _, h, _⟩ := h
  exact ⟨B, h⟩
theorem flat_nat (R : List Nat) : ∀ x ∈ R.map vN, flatV x = true := fun x hx => by
  obtain ⟨b, _, rfl⟩ := List.mem_map.mp hx
  rfl
theorem walk_tot {L : List Nat} {Pp : List Itm} {b : Nat} (h : Walk L 0 0 Pp 272 b) : 0 < tots (puts Pp) := by
  cases Pp with
  | nil => obtain ⟨h, _⟩ := h; cases h
  | cons x P =>
    rw [puts_cons, tots_append]
    have : 0 < tots x.puts := by
      cases x with
      | one y => show 0 < 3; decide
      | rep r => show 0 < 9; decide
    omega
/-- all the law's own defs -/
structure All (K : PySem.W.Frag) (mg : Str → Option Value) (B D cP cN cT : Addr) (cs ds : List Addr) : Prop where
  Y : Tbs K mg B D cP cN cT cs ds
  cell : ∃ f fd, Fn K mg "_law_cell_at" sCellAt ["_law_script", "_law_k"] f fd
  mixed : ∃ f fd, Fn K mg "_law_mixed" sMixed ["_law_cell", "_law_k"] f fd
  table : ∃ f fd, Fn K mg "_law_table" sTable ["_law_script", "_law_first"] f fd
  lput : ∃ f fd, Fn K mg "_law_put" sLPut ["_law_bits", "_law_table_here"] f fd
  ltaken : ∃ f fd, Fn K mg "_law_taken" sLTaken ["_law_reader"] f fd
  odd : ∃ f fd, Fn K mg "_law_odd" sOdd ["_law_table_here", "_law_number"] f fd
  putright : ∃ f fd, Fn K mg "_law_put_right" sPutRight ["_law_table_here", "_law_number"] f fd
  toomany : ∃ f fd, Fn K mg "_law_too_many" sTooMany ["_law_number"] f fd
  ended : ∃ f fd, Fn K mg "_law_ended" sEnded ["_law_number"] f fd
  takingright : ∃ f fd, Fn K mg "_law_taking_right" sTakingRight ["_law_bits", "_law_due", "_law_lead"] f fd
  cut : ∃ f fd, Fn K mg "_law_cut" sCut ["_law_table_here", "_law_number"] f fd
section
variable {P : Program} {w : World} {K : PySem.W.Frag} {mg : Str → Option Value} {base : Heap} {B D cP cN cT : Addr} {cs ds : List Addr}
/-! ### _law_put_right -/
def spPutRight : Sp := fun vs H Q _ => ∃ (a : Addr) (L : List Nat) (n : Nat), vs = [.ref a, vN n] ∧ H a = some (.lst (L.map vN)) ∧ L.length = 272 ∧ (∀ b ∈ L, b ≤ 6) ∧ ∀ H' : Hp, Same H H' → Q (.bl true) H'
abbrev nPutRight : List Str := ["_law_table_here", "_law_number", "_law_bits", "_law_odd_here", "_law_kept", "_law_before"]
theorem scPutRight : FnScope nPutRight ["_law_table_here", "_law_number"] (defScope sPutRight) := ⟨rfl, rfl, rfl, by decide +kernel, rfl, by decide +kernel, by decide +kernel⟩
theorem ok_putright {f : Addr} {fd : FuncData} (F : Fn K mg "_law_put_right" sPutRight ["_law_table_here", "_law_number"] f fd) (A0 : All K mg B D cP cN cT cs ds) : FnOk P w K mg base CX0 35 f fd ["_law_table_here", "_law_number"] spPutRight := by
  have Y := A0.Y
  have BB := Y.B
  obtain ⟨_, _, Lp⟩ := A0.lput
  obtain ⟨_, _, Od⟩ := A0.odd
  obtain ⟨_, _, W⟩ := BB.R.whole
  obtain ⟨_, _, S⟩ := BB.needsize
  obtain ⟨_, _, O'⟩ := BB.ones
  obtain ⟨_, _, Pu⟩ := BB.put
  obtain ⟨_, _, M⟩ := BB.move
  obtain ⟨_, _, FI, bI, MI⟩ := BB.init
  obtain ⟨_, _, Ma⟩ := BB.many
  obtain ⟨_, _, Ro⟩ := BB.row
  have T := BB.R.X
  have TB := BB.T
  have GI := ok_binit (P := P) (w := w) (base := base) (mg := mg) FI TB
  have GU := ok_put (P := P) (w := w) (base := base) Pu.F S W O' M TB T
  have GM := ok_many (P := P) (w := w) (base := base) Ma.F TB T
  have GO := ok_rowout (P := P) (w := w) (base := base) Ro.F TB T
  have GL := ok_lput (P := P) (w := w) (base := base) Lp Y
  have GD := ok_odd (P := P) (w := w) (base := base) Od T
  refine F.F.ok scPutRight (fun vs H Q E h => ?_) (fun cdv A outer st H vs Q E hr h => ?_)
  · obtain ⟨a, L, n, rfl, _⟩ := h
    rfl
  · obtain ⟨a, L, n, rfl, ha, h272, h6, q⟩ := h
    have hr1 : Room 1 _ := hr.mono (by decide)
    have hr2 : Room 2 _ := hr.mono (by decide)
    have hr3 : Room 3 _ := hr.mono (by decide)
    have hu := hr.units
    refine ⟨_, pss_cons (ps_set (i := 2) scPutRight.nd rfl (Or.inl rfl) (pe_make0 MI GI hr2 (by rfl) BB.m bI .nil pass0))
      (pss_cons (ps_expr (pe_meth (pv 2) TB.cl Pu.m GU hr3 Pu.b .nil pass0 (pa_cons (pe_op op_mod (pv 1) pe_int) (pa_cons pe_int pa_nil))))
      (pss_cons (ps_set (i := 3) scPutRight.nd rfl (Or.inl rfl) (pe_call GD hr2 (by rfl) Od.m Od.F.kp Od.b .nil pass0 (pa_cons (pv 0) (pa_cons (pv 1) pa_nil))))
      (pss_cons (ps_set (i := 4) scPutRight.nd rfl (Or.inl rfl) (pe_callB (call_repr hr) (by rfl) T.repr PyProof.Rows.boot_repr (pa_cons (pv 3) pa_nil)))
      (pss_cons (ps_set (i := 5) scPutRight.nd rfl (Or.inl rfl) (pe_tup (pa_cons (pe_meth0 (pv 2) TB.cl Ro.m GO hr1 Ro.b .nil pass0) (pa_cons (pe_meth0 (pv 2) TB.cl Ma.m GM hr1 Ma.b .nil pass0) pa_nil))))
      (pss_cons (ps_if (PW.pt (pw_or (pt_cmpR (op_neGs hu) (pe_call GL hr (by rfl) Lp.m Lp.F.kp Lp.b .nil pass0 (pa_cons (pv 2) (pa_cons (pv 3) pa_nil))) (pe_lst (pa_cons pe_str pa_nil)) (nomark _)) (pw_or (pt_cmpR (op_neLi hu) (pe_tup (pa_cons (pe_meth0 (pv 2) TB.cl Ro.m GO hr1 Ro.b .nil pass0) (pa_cons (pe_meth0 (pv 2) TB.cl Ma.m GM hr1 Ma.b .nil pass0) pa_nil))) (pv 5) (nomark _)) (pw_or1 (pt_cmpR op_ne (pe_callB (call_repr hr) (by rfl) T.repr PyProof.Rows.boot_repr (pa_cons (pv 3) pa_nil)) (pv 4) (nomark _)))))) (pss_one (ps_ret pe_bl)) pss_nil)
      (pss_cons (ps_if (pt_val (pe_callB call_isi (by rfl) T.isi PyProof.Rows.boot_isinstance (pa_cons (pv 3) (pa_cons (pe_bltn (v := .ty "list") (by rfl) T.list PyProof.Rows.boot_list rfl) pa_nil)))) (pss_cons (ps_expr (pe_bm0 PySem.F.plainAttrs_list PySem.F.slot_list_clear PySem.F.type_list_clear mt_clear (pv 3)))
      (pss_cons (ps_expr (pe_bm PySem.F.plainAttrs_list PySem.F.slot_list_extend PySem.F.type_list_extend mt_extend (pv 3) (pa_cons (pv 0) pa_nil)))
      (pss_one (ps_ret (pe_and (pe_cmpR (op_eqGs hu) (pe_call GL hr (by rfl) Lp.m Lp.F.kp Lp.b .nil pass0 (pa_cons (pv 2) (pa_cons (pv 3) pa_nil))) (pe_lst pa_nil) (nomark _)) (pe_one (pe_cmpR op_gt (pe_meth0 (pv 2) TB.cl Ma.m GM hr1 Ma.b .nil pass0) pe_int (nomark _)))))))) pss_nil)
      (pss_one (ps_ret pe_bl)))))))), ?_⟩
    -- a row of bits
    refine seq_g fun R1 g1 => ?_
    intro x dx nx ndx nex
    have hx0 : (upd (upd H dx (.own x)) x (.ins B dx [])) x = some (.ins B dx []) := upd_same
    have s0 : Same H (upd (upd H dx (.own x)) x (.ins B dx [])) := fun c o e => by
      rw [upd_ne (ne_of_none e nx), upd_ne (ne_of_none e ndx)]; exact e
    refine ⟨x, dx, rfl, hx0, fun d H1 nd hB1 kp1 => ⟨rfl, g1 _ _ ?_⟩⟩
    clear g1
    have nd' : H d = none := none_of s0 nd
    have s1 : Same H H1 := fun c o e => kp1 _ _ (s0 _ _ e) (ne_of_none e nx)
    clear hx0 s0 kp1 nd
    have noM : ∀ {m : Str} {r k : Nat}, ¬ m = "rest_size" → ¬ m = "rest" → ¬ m = "whole_bytes" → (fW d r k).lookup m = none := fun h1 h2 h3 => fW_no _ _ _ h1 h2 h3
    -- three bits
    have e8 : ((n : Nat) : Int) % 8 = ((n % 8 : Nat) : Int) := by omega
    refine seq_g fun R1 g1 => ?_
    obtain ⟨dx1, r1, k1, hp1⟩ := hB1.ob
    refine ⟨_, rfl, x, dx1, _, rfl, hp1, noM (by decide +kernel) (by decide +kernel) (by decide +kernel), _, rfl, _, _, rfl, rfl, (by show (0 : Int) < 8; decide), ?_⟩
    try dsimp only
    rw [e8]
    refine ⟨x, d, 0, 0, n % 8, 3, rfl, hB1, by decide, by decide, (by show n % 8 < 2 ^ 3; omega), fun H2 hB2 kp2 => g1 _ _ ?_⟩
    clear g1
    have s2 : Same H H2 := fun c o e => kp2 _ _ (s1 _ _ e) (ne_of_none e nx) (ne_of_none e nd')
    clear hp1 hB1 kp2 s1
    -- the odd thing
    refine seq_g fun R1 g1 => ?_
    refine ⟨_, rfl, _, rfl, a, L, n, rfl, s2 _ _ ha, h272, h6, fun v H3 s23 hv fr => g1 _ _ ?_⟩
    clear g1
    have hB3 := hB2.same s23
    have s3 := s2.trans s23
    obtain ⟨dd, hdd⟩ := hv.tx
    -- its text
    refine seq_g fun R1 g1 => ?_
    refine ⟨_, rfl, v, dd, rfl, hdd, g1 _ _ ?_⟩
    clear g1
    -- what is there
    refine seq_g fun R1 g1 => ?_
    obtain ⟨dx3, r3, k3, hp3⟩ := hB3.ob
    refine ⟨_, rfl, x, dx3, _, rfl, hp3, noM (by decide +kernel) (by decide +kernel) (by decide +kernel), x, d, _, _, rfl, hB3, by decide, fun lr R H4 nlr hlr row s34 => ?_⟩
    have hB4 := hB3.same s34
    refine ⟨_, rfl, x, dx3, _, rfl, s34 _ _ hp3, noM (by decide +kernel) (by decide +kernel) (by decide +kernel), x, d, _, _, rfl, hB4, (by show 2 ≤ sizeLine; decide), fun tb ntb => g1 _ _ ?_⟩
    clear g1
    have s45 := same_new (o := .tup [.ref lr, vN (0 + 3)]) ntb
    have htb : (upd H4 tb (.tup [.ref lr, vN (0 + 3)])) tb = some (.tup [.ref lr, vN (0 + 3)]) := upd_same
    have hlr5 := s45 _ _ hlr
    have s35 := s34.trans s45
    generalize upd H4 tb (.tup [.ref lr, vN (0 + 3)]) = H5 at *
    have hB5 := hB3.same s35
    have hv5 : OddX K H5 v := hv.same s35
    have s5 := s3.trans s35
    clear hB4 s34 s45 hlr
    -- refused
    refine seq_g fun R1 g1 => ?_
    refine ⟨_, rfl, _, rfl, x, d, v, _, _, rfl, hB5, by decide, .inr ⟨hv5.no, fun l6 H6 s56 hl6 => ⟨(by show 1 ≤ sizeLine; decide), fun l7 n7 => ?_⟩⟩⟩
    have s67 := same_new (o := .lst [.str (Str.ofString "table")]) n7
    have hl7 : (upd H6 l7 (.lst [.str (Str.ofString "table")])) l7 = some (.lst [.str (Str.ofString "table")]) := upd_same
    have hl67 := s67 _ _ hl6
    have s57 := s56.trans s67
    generalize upd H6 l7 (.lst [.str (Str.ofString "table")]) = H7 at *
    refine ⟨l6, l7, rfl, rfl, SameGs.flat hl67 hl7 (fun y hy => by rw [List.mem_singleton.mp hy]; rfl), _, rfl, iteF ?_⟩
    clear hl67 hl7 hl6 s56 s67 n7
    have hB7 := hB5.same s57
    have hlr7 := s57 _ _ hlr5
    have htb7 := s57 _ _ htb
    have hv7 := hv5.same s57
    have s37 := s35.trans s57
    obtain ⟨dx7, r7, k7, hp7⟩ := hB7.ob
    refine ⟨_, rfl, x, dx7, _, rfl, hp7, noM (by decide +kernel) (by decide +kernel) (by decide +kernel), x, d, _, _, rfl, hB7, by decide, fun lr2 R2 H8 nlr2 hlr2 row2 s78 => ?_⟩
    have hB8 := hB7.same s78
    refine ⟨_, rfl, x, dx7, _, rfl, s78 _ _ hp7, noM (by decide +kernel) (by decide +kernel) (by decide +kernel), x, d, _, _, rfl, hB8, (by show 2 ≤ sizeLine; decide), fun tb2 ntb2 => ?_⟩
    have eR : R2 = R := RowOf.uniq row2 row
    subst eR
    have s89 := same_new (o := .tup [.ref lr2, vN (0 + 3)]) ntb2
    have htb2 : (upd H8 tb2 (.tup [.ref lr2, vN (0 + 3)])) tb2 = some (.tup [.ref lr2, vN (0 + 3)]) := upd_same
    have hlr29 := s89 _ _ hlr2
    have s79 := s78.trans s89
    generalize upd H8 tb2 (.tup [.ref lr2, vN (0 + 3)]) = H9 at *
    refine ⟨_, rfl, tb2, tb, rfl, rfl, ⟨((0 + 3 : Nat) : Int), lr2, lr, SqT.of htb2, SqT.of (s79 _ _ htb7), SameGs.flat hlr29 (s79 _ _ hlr7) (flat_nat _)⟩, _, rfl, iteF ?_⟩
    have s39 := s37.trans s79
    have hB9 := hB3.same s39
    have hv9 := hv.same s39
    refine ⟨_, rfl, v, dd, rfl, hdd.same s39, _, rfl, rfl, _, rfl, iteNS (by simp) (g1 _ _ ?_)⟩
    clear g1
    have s9 := s3.trans s39
    have frv : ∀ y, v = .ref y → y ≠ x ∧ y ≠ d ∧ H y = none := fun y ey => by
      have f := fr y ey
      obtain ⟨dx2, r2, k2, hp2⟩ := hB2.ob
      obtain ⟨B2, hd2⟩ := hB2.hd
      exact ⟨(ne_of_none hp2 f).symm, (ne_of_none hd2 f).symm, none_of s2 f⟩
    have ha9 := s9 _ _ ha
    clear hv hv5 hv7 hlr29 hlr2 hlr7 htb7 htb2 htb hlr5 hp7 hB8 hB7 hB5 hB3 hB2 s79 s89 s78 s37 s57 s35 s23 s3 s5 row2 row nlr nlr2 ntb ntb2 hp3 fr hdd
    refine seq_g fun R1 g1 => ?_
    rcases hv9.ls with ⟨y, ys, rfl, hy⟩ | ⟨t, ty, kt⟩
    · obtain ⟨nyx, nyd, nyH⟩ := frv y rfl
      refine ⟨_, rfl, _, _, _, _, rfl, .lst hy, kit_ll K, _, rfl, iteT ?_⟩
      clear g1
      have nya : a ≠ y := ne_of_none ha nyH
      refine ⟨_, rfl, .inl ⟨rfl, _, SqL.of hy⟩, y, _, rfl, rfl, hy, ?_⟩
      refine ⟨_, rfl, .inl ⟨rfl, _, SqL.of upd_same⟩, _, rfl, y, a, _, _, rfl, rfl, upd_same, by rw [upd_ne nya]; exact ha9, sl2000 (by simp; omega), ?_⟩
      rw [upd_upd, List.nil_append]
      have hBy : BitsAt B (upd H9 y (.lst (L.map vN))) x d (0 * 2 ^ 3 + n % 8) (0 + 3) := hB9.keep fun c o e hc => by
        rw [upd_ne (by rcases hc with rfl | rfl; exact nyx.symm; exact nyd.symm)]; exact e
      have sy : Same H (upd H9 y (.lst (L.map vN))) := fun c o e => by rw [upd_ne (ne_of_none e nyH)]; exact s9 _ _ e
      have hyy : (upd H9 y (.lst (L.map vN))) y = some (.lst (L.map vN)) := upd_same
      generalize upd H9 y (.lst (L.map vN)) = H10 at *
      refine ⟨_, rfl, _, rfl, x, d, _, _, _, rfl, hBy, by decide, .inl ⟨y, L, rfl, hyy, h272, h6, nyd, fun Pp b l11 H11 hw hB11 hl11 kp11 => ⟨(by show 0 ≤ sizeLine; decide), fun l12 n12 => ?_⟩⟩⟩
      have s12 := same_new (o := .lst []) n12
      have hl12 : (upd H11 l12 (.lst [])) l12 = some (.lst []) := upd_same
      have sH : Same H (upd H11 l12 (.lst [])) := fun c o e => s12 _ _ (kp11 _ _ (sy _ _ e) (ne_of_none e nx) (ne_of_none e nd'))
      have hB12 := hB11.same s12
      have hl112 := s12 _ _ hl11
      generalize upd H11 l12 (.lst []) = H12 at *
      refine ⟨l11, l12, rfl, rfl, SameGs.flat hl112 hl12 (fun y hy => by simp at hy), _, rfl, iteT ?_⟩
      obtain ⟨dx12, r12, k12, hp12⟩ := hB12.ob
      refine ⟨_, rfl, x, dx12, _, rfl, hp12, noM (by decide +kernel) (by decide +kernel) (by decide +kernel), x, d, _, _, rfl, hB12, _, _, rfl, rfl, ?_⟩
      have := walk_tot hw
      show Q (V.bl (decide ((3 : Int) < ((0 + 3 + tots (puts Pp) : Nat) : Int)))) H12
      rw [show decide ((3 : Int) < ((0 + 3 + tots (puts Pp) : Nat) : Int)) = true from decide_eq_true (by omega)]
      exact q H12 sH
    · exact ⟨_, rfl, _, _, _, _, rfl, ty, kt, _, rfl, iteF (g1 _ _ (q H9 s9))⟩
end
end K12

set_option Elab.async false
set_option linter.all false
set_option maxRecDepth 100000
set_option maxHeartbeats 4000000
namespace K12
open PySem L2 QQ W13 W12 BP
seal PE PA PS PSs PT PW PG PI
theorem sz_pre {L A Z : List Itm} {x y : Itm} (e : L ++ [y] = A ++ x :: Z) : sz A ≤ sz L := by
  have hl : A.length ≤ L.length := by
    have := congrArg List.length e
    simp at this
    omega
  have eA : A = L.take A.length := by
    have h1 := congrArg (List.take A.length) e
    rw [List.take_append_of_le_length hl, List.take_left] at h1
    exact h1.symm
  have eL : L = A ++ L.drop A.length := by
    conv => lhs; rw [← List.take_append_drop A.length L, ← eA]
  rw [eL, sz_append]
  omega
theorem len_sz : ∀ {Pp : List Itm}, (∀ x ∈ Pp, StOk x) → Pp.length ≤ sz Pp
  | [], _ => Nat.zero_le _
  | x :: Pp, h => by
    have h1 := len_sz fun y hy => h y (List.mem_cons_of_mem _ hy)
    have h2 : 1 ≤ x.size := by
      have hx := h x List.mem_cons_self
      cases x with
      | one y => exact Nat.le_refl _
      | rep r => obtain ⟨h1, h2⟩ : 3 ≤ r ∧ r ≤ 66 := hx; show 1 ≤ r; omega
    rw [sz_cons, List.length_cons]
    omega
section
variable {P : Program} {w : World} {K : PySem.W.Frag} {mg : Str → Option Value} {base : Heap} {B D cP cN cT : Addr} {cs ds : List Addr}
/-! ### _law_too_many -/
def spTooMany (B : Addr) : Sp := fun vs H Q _ => ∃ (n : Nat), vs = [vN n] ∧ ∀ (p d : Addr) (Pp : List Itm) (H' : Hp), H p = none → H d = none → BitsAt B H' p d (nums (puts Pp) 0) (tots (puts Pp)) → Same H H' → (∀ x ∈ Pp, StOk x) → 272 < sz Pp → (∀ A x Z, Pp = A ++ x :: Z → sz A < 272) → tots (puts Pp) ≤ 3000 → Q (.ref p) H'
abbrev nTooMany : List Str := ["_law_number", "_law_bits", "_law_room", "_law_more"]
theorem scTooMany : FnScope nTooMany ["_law_number"] (defScope sTooMany) := ⟨rfl, rfl, rfl, by decide +kernel, rfl, by decide +kernel, by decide +kernel⟩
theorem ok_toomany {f : Addr} {fd : FuncData} (F : Fn K mg "_law_too_many" sTooMany ["_law_number"] f fd) (A0 : All K mg B D cP cN cT cs ds) : FnOk P w K mg base CX0 31 f fd ["_law_number"] (spTooMany B) := by
  have Y := A0.Y
  have BB := Y.B
  obtain ⟨_, _, W⟩ := BB.R.whole
  obtain ⟨_, _, S⟩ := BB.needsize
  obtain ⟨_, _, O'⟩ := BB.ones
  obtain ⟨_, _, Pu⟩ := BB.put
  obtain ⟨_, _, M⟩ := BB.move
  obtain ⟨_, _, FI, bI, MI⟩ := BB.init
  have T := BB.R.X
  have TB := BB.T
  have GI := ok_binit (P := P) (w := w) (base := base) (mg := mg) FI TB
  have GU := ok_put (P := P) (w := w) (base := base) Pu.F S W O' M TB T
  refine F.F.ok scTooMany (fun vs H Q E h => ?_) (fun cdv A outer st H vs Q E hr h => ?_)
  · obtain ⟨n, rfl, _⟩ := h
    rfl
  · obtain ⟨n, rfl, q⟩ := h
    have hr2 : Room 2 _ := hr.mono (by decide)
    have hr3 : Room 3 _ := hr.mono (by decide)
    have hn := hr.hd (by decide)
    refine ⟨_, pss_cons (ps_set (i := 1) scTooMany.nd rfl (Or.inl rfl) (pe_make0 MI GI hr2 (by rfl) BB.m bI .nil pass0))
      (pss_cons (ps_expr (pe_meth (pv 1) TB.cl Pu.m GU hr3 Pu.b .nil pass0 (pa_cons (pe_op op_mod (pv 0) pe_int) (pa_cons pe_int pa_nil))))
      (pss_cons (ps_set (i := 2) scTooMany.nd rfl (Or.inl rfl) pe_int)
      (pss_cons (ps_while PassesOwn.never (pt_cmpR op_gt (pv 2) (pe_op op_add pe_int (pe_op op_mod (pe_op op_fdiv (pv 0) pe_int) pe_int)) (nomark _)) (pss_cons (ps_set (i := 0) scTooMany.nd rfl (Or.inl rfl) (pe_op op_mod (pe_op op_mul (pv 0) pe_int) pe_int))
      (pss_cons (ps_set (i := 3) scTooMany.nd rfl (Or.inl rfl) (pe_callB (call_min2 hn) (by rfl) T.min PyProof.Rows.boot_min (pa_cons (pe_op op_sub (pv 2) pe_int) (pa_cons (pe_op op_add pe_int (pe_op op_mod (pv 0) pe_int)) pa_nil))))
      (pss_cons (ps_expr (pe_meth (pv 1) TB.cl Pu.m GU hr3 Pu.b .nil pass0 (pa_cons pe_int (pa_cons pe_int pa_nil))))
      (pss_cons (ps_expr (pe_meth (pv 1) TB.cl Pu.m GU hr3 Pu.b .nil pass0 (pa_cons (pe_op op_sub (pv 3) pe_int) (pa_cons pe_int pa_nil))))
      (pss_one (ps_aug (i := 2) scTooMany.nd rfl (Or.inl rfl) (pv 3) ip_sub)))))))
      (pss_cons (ps_while PassesOwn.never (PW.pt (pw_or (pt_cmpR op_gt (pv 2) pe_int (nomark _)) (pw_or1 (PW.pt (pw_and (pt_cmpR op_gt (pv 2) pe_int (nomark _)) (pw_and1 (pt_cmpR op_gt (pe_op op_mod (pe_op op_fdiv (pv 0) pe_int) pe_int) pe_int (nomark _)))))))) (pss_cons (ps_expr (pe_meth (pv 1) TB.cl Pu.m GU hr3 Pu.b .nil pass0 (pa_cons (pe_op op_mod (pv 0) pe_int) (pa_cons pe_int pa_nil))))
      (pss_cons (ps_aug (i := 2) scTooMany.nd rfl (Or.inl rfl) pe_int ip_sub)
      (pss_one (ps_set (i := 0) scTooMany.nd rfl (Or.inl rfl) (pe_op op_add (pe_op op_fdiv (pv 0) pe_int) pe_int))))))
      (pss_cons (ps_expr (pe_meth (pv 1) TB.cl Pu.m GU hr3 Pu.b .nil pass0 (pa_cons pe_int (pa_cons pe_int pa_nil))))
      (pss_cons (ps_expr (pe_meth (pv 1) TB.cl Pu.m GU hr3 Pu.b .nil pass0 (pa_cons (pe_op op_add (pe_callB (call_max2 hn) (by rfl) T.max PyProof.Rows.boot_max (pa_cons (pe_op op_sub (pv 2) pe_int) (pa_cons pe_int pa_nil))) (pe_op op_mod (pe_op op_fdiv (pv 0) pe_int) (pe_op op_sub pe_int (pe_callB (call_max2 hn) (by rfl) T.max PyProof.Rows.boot_max (pa_cons (pe_op op_sub (pv 2) pe_int) (pa_cons pe_int pa_nil)))))) (pa_cons pe_int pa_nil))))
      (pss_one (ps_ret (pv 1))))))))), ?_⟩
    -- a row of bits
    refine seq_g fun R1 g1 => ?_
    intro x dx nx ndx nex
    have hx0 : (upd (upd H dx (.own x)) x (.ins B dx [])) x = some (.ins B dx []) := upd_same
    have s0 : Same H (upd (upd H dx (.own x)) x (.ins B dx [])) := fun c o e => by
      rw [upd_ne (ne_of_none e nx), upd_ne (ne_of_none e ndx)]; exact e
    refine ⟨x, dx, rfl, hx0, fun d H1 nd hB1 kp1 => ⟨rfl, g1 _ _ ?_⟩⟩
    clear g1
    have nd' : H d = none := none_of s0 nd
    have s1 : Same H H1 := fun c o e => kp1 _ _ (s0 _ _ e) (ne_of_none e nx)
    clear hx0 s0 kp1 nd
    have noM : ∀ {m : Str} {r k : Nat}, ¬ m = "rest_size" → ¬ m = "rest" → ¬ m = "whole_bytes" → (fW d r k).lookup m = none := fun h1 h2 h3 => fW_no _ _ _ h1 h2 h3
    -- the first one
    have e7 : ((n : Nat) : Int) % 7 = ((n % 7 : Nat) : Int) := by omega
    have h7 : n % 7 < 7 := Nat.mod_lt _ (by decide)
    refine seq_g fun R1 g1 => ?_
    obtain ⟨dx1, r1, k1, hp1⟩ := hB1.ob
    refine ⟨_, rfl, x, dx1, _, rfl, hp1, noM (by decide +kernel) (by decide +kernel) (by decide +kernel), _, rfl, _, _, rfl, rfl, (by show (0 : Int) < 7; decide), ?_⟩
    try dsimp only
    rw [e7]
    refine ⟨x, d, 0, 0, n % 7, 3, rfl, hB1, by decide, by decide, (by show n % 7 < 2 ^ 3; omega), fun H2 hB2 kp2 => g1 _ _ ?_⟩
    clear g1
    have s2 : Same H H2 := fun c o e => kp2 _ _ (s1 _ _ e) (ne_of_none e nx) (ne_of_none e nd')
    clear hp1 hB1 kp2 s1
    refine seq_g fun R1 g1 => g1 _ _ ?_
    clear g1
    -- long ones
    refine seq_g fun R1 g1 => ?_
    refine ⟨fun m σ H3 => ∃ (n' room : Nat) (Pp : List Itm) (v3 : Option V), room = m ∧ σ = [some (vN n'), some (.ref x), some (vN room), v3] ∧ sz Pp + room = 272 ∧ 2 ≤ room ∧ (∀ y ∈ Pp, StOk y) ∧ BitsAt B H3 x d (nums (puts Pp) 0) (tots (puts Pp)) ∧ Same H H3,
      ⟨271, n, 271, [.one (n % 7)], none, rfl, rfl, rfl, by decide, fun y hy => by rw [List.mem_singleton.mp hy]; show n % 7 ≤ 6; omega, hB2, s2⟩, ?_⟩
    clear hB2 s2
    rintro m σ H3 ⟨n', room, Pp, v3, rfl, rfl, e272, h2, ok3, hB3, s3⟩
    have hpl := len_sz ok3
    have hcl := cost_le Pp
    refine ⟨_, rfl, _, rfl, _, _, rfl, rfl, ⟨by decide, by decide⟩, _, _, rfl, rfl, (by show (0 : Int) < 60; decide), _, _, rfl, rfl, _, _, rfl, rfl, _, rfl, ite2 (fun hc => ?_) (fun hc => ?_)⟩
    · clear g1
      have h66 : 66 < room := by
        have := of_decide_eq_true hc
        omega
      clear hc
      refine ⟨fun σ' H' => ∃ (n' room' : Nat) (Pp : List Itm) (v3 : Option V), room' < room ∧ σ' = [some (vN n'), some (.ref x), some (vN room'), v3] ∧ sz Pp + room' = 272 ∧ 2 ≤ room' ∧ (∀ y ∈ Pp, StOk y) ∧ BitsAt B H' x d (nums (puts Pp) 0) (tots (puts Pp)) ∧ Same H H',
        fun σ' H' ⟨n', room', Pp, v3, hlt, z⟩ => ⟨room', hlt, n', room', Pp, v3, rfl, z⟩, ?_⟩
      refine seq_g fun R2 g2 => ?_
      refine ⟨_, rfl, _, _, rfl, rfl, .inr ⟨by decide, by decide⟩, _, _, rfl, rfl, (by show (0 : Int) < 2147483647; decide), g2 _ _ ?_⟩
      clear g2
      have em : ((n' : Nat) : Int) * 48271 % 2147483647 = ((n' * 48271 % 2147483647 : Nat) : Int) := by omega
      try dsimp only
      rw [em]
      generalize n' * 48271 % 2147483647 = m2
      refine seq_g fun R2 g2 => ?_
      refine ⟨_, rfl, _, _, rfl, rfl, _, rfl, _, _, rfl, rfl, (by show (0 : Int) < 64; decide), _, _, rfl, rfl, _, _, rfl, g2 _ _ ?_⟩
      clear g2
      obtain ⟨r, er, hr3', hr66, hrr⟩ : ∃ r : Nat, (if 3 + ((m2 : Nat) : Int) % 64 < ((room : Nat) : Int) - 3 then 3 + ((m2 : Nat) : Int) % 64 else ((room : Nat) : Int) - 3) = ((r : Nat) : Int) ∧ 3 ≤ r ∧ r ≤ 66 ∧ r + 3 ≤ room :=
        ⟨min (room - 3) (3 + m2 % 64), by split <;> omega, by omega, by omega, by omega⟩
      try dsimp only
      rw [er]
      refine seq_g fun R2 g2 => ?_
      obtain ⟨dx3, r3, k3, hp3⟩ := hB3.ob
      refine ⟨_, rfl, x, dx3, _, rfl, hp3, noM (by decide +kernel) (by decide +kernel) (by decide +kernel), x, d, _, _, 7, 3, rfl, hB3, by omega, by decide, by decide, fun H4 hB4 kp4 => g2 _ _ ?_⟩
      clear g2
      refine seq_g fun R2 g2 => ?_
      obtain ⟨dx4, r4, k4, hp4⟩ := hB4.ob
      have er3 : ((r : Nat) : Int) - 3 = ((r - 3 : Nat) : Int) := by omega
      refine ⟨_, rfl, x, dx4, _, rfl, hp4, noM (by decide +kernel) (by decide +kernel) (by decide +kernel), _, rfl, _, _, rfl, rfl, ?_⟩
      try dsimp only
      rw [er3]
      refine ⟨x, d, _, _, r - 3, 6, rfl, hB4, by omega, by decide, (by show r - 3 < 2 ^ 6; omega), fun H5 hB5 kp5 => g2 _ _ ?_⟩
      clear g2
      have err : ((room : Nat) : Int) - ((r : Nat) : Int) = ((room - r : Nat) : Int) := by omega
      refine ⟨_, rfl, _, rfl, _, _, rfl, rfl, m2, room - r, Pp ++ [.rep r], some (vN r), by omega, ?_, ?_, by omega, ?_, ?_, fun c o e => kp5 _ _ (kp4 _ _ (s3 _ _ e) (ne_of_none e nx) (ne_of_none e nd')) (ne_of_none e nx) (ne_of_none e nd')⟩
      · try dsimp only
        rw [err]
        rfl
      · rw [sz_append]
        show sz Pp + r + (room - r) = 272
        omega
      · intro y hy
        rcases List.mem_append.mp hy with hy | hy
        · exact ok3 y hy
        · rw [List.mem_singleton.mp hy]
          exact ⟨hr3', hr66⟩
      · rw [puts_append, nums_append, tots_append]
        exact hB5
    refine g1 _ _ ?_
    clear g1 hc
    -- single ones
    refine seq_g fun R1 g1 => ?_
    have kont : ∀ (n' room : Nat) (Pp : List Itm) (v3 : Option V) (H3 : Hp), room ≤ 65 → sz Pp + room = 272 → 2 ≤ room → (∀ y ∈ Pp, StOk y) → BitsAt B H3 x d (nums (puts Pp) 0) (tots (puts Pp)) → Same H H3 → R1 [some (vN n'), some (.ref x), some (vN room), v3] H3 := by
      intro n' room Pp v3 H3 h65 e272 h2 ok3 hB3 s3
      have hpl := len_sz ok3
      have hcl := cost_le Pp
      refine g1 _ _ ?_
      clear g1
      refine seq_g fun R2 g2 => ?_
      obtain ⟨dx3, r3, k3, hp3⟩ := hB3.ob
      refine ⟨_, rfl, x, dx3, _, rfl, hp3, noM (by decide +kernel) (by decide +kernel) (by decide +kernel), x, d, _, _, 7, 3, rfl, hB3, by omega, by decide, by decide, fun H4 hB4 kp4 => g2 _ _ ?_⟩
      clear g2
      refine seq_g fun R2 g2 => ?_
      obtain ⟨dx4, r4, k4, hp4⟩ := hB4.ob
      obtain ⟨u, eu⟩ : ∃ u : Nat, room = u + 2 := ⟨room - 2, by omega⟩
      have emx : (if (0 : Int) > ((room : Nat) : Int) - 2 then (0 : Int) else ((room : Nat) : Int) - 2) = ((u : Nat) : Int) := by split <;> omega
      refine ⟨_, rfl, x, dx4, _, rfl, hp4, noM (by decide +kernel) (by decide +kernel) (by decide +kernel), _, rfl, _, _, rfl, rfl, _, _, rfl, _, rfl, _, _, rfl, rfl, ⟨by decide, by decide⟩, _, rfl, _, _, rfl, rfl, _, _, rfl, _, _, rfl, rfl, _, _, rfl, rfl, ?_, _, _, rfl, rfl, ?_⟩
      · try dsimp only
        rw [emx]
        omega
      obtain ⟨v, ev, hv1, hv2⟩ : ∃ v : Nat, ((u : Nat) : Int) + ((n' : Nat) : Int) / 9 % (64 - ((u : Nat) : Int)) = ((v : Nat) : Int) ∧ u ≤ v ∧ v < 64 := by
        have h0 : (0 : Int) < 64 - ((u : Nat) : Int) := by omega
        have h1 := Int.emod_nonneg (((n' : Nat) : Int) / 9) (by omega : (64 - ((u : Nat) : Int)) ≠ 0)
        have h2 := Int.emod_lt_of_pos (((n' : Nat) : Int) / 9) h0
        exact ⟨(((u : Nat) : Int) + ((n' : Nat) : Int) / 9 % (64 - ((u : Nat) : Int))).toNat, by omega, by omega, by omega⟩
      try dsimp only
      rw [emx, ev]
      refine ⟨x, d, _, _, v, 6, rfl, hB4, by omega, by decide, hv2, fun H5 hB5 kp5 => g2 _ _ ?_⟩
      clear g2
      have ep : puts (Pp ++ [.rep (v + 3)]) = puts Pp ++ [(7, 3), (v, 6)] := by rw [puts_append]; rfl
      refine ⟨_, rfl, q x d (Pp ++ [.rep (v + 3)]) H5 nx nd' ?_ (fun c o e => kp5 _ _ (kp4 _ _ (s3 _ _ e) (ne_of_none e nx) (ne_of_none e nd')) (ne_of_none e nx) (ne_of_none e nd')) (fun y hy => ?_) ?_ (fun A' y Z e => ?_) ?_⟩
      · rw [ep, nums_append, tots_append]
        exact hB5
      · rcases List.mem_append.mp hy with hy | hy
        · exact ok3 y hy
        · rw [List.mem_singleton.mp hy]
          exact ⟨by omega, by omega⟩
      · rw [sz_append]
        show 272 < sz Pp + (v + 3)
        omega
      · have := sz_pre e
        omega
      · rw [ep, tots_append]
        show tots (puts Pp) + 9 ≤ 3000
        omega
    refine ⟨fun m σ H3 => ∃ (n' room : Nat) (Pp : List Itm) (v3 : Option V), room = m ∧ σ = [some (vN n'), some (.ref x), some (vN room), v3] ∧ sz Pp + room = 272 ∧ 2 ≤ room ∧ (∀ y ∈ Pp, StOk y) ∧ BitsAt B H3 x d (nums (puts Pp) 0) (tots (puts Pp)) ∧ Same H H3,
      ⟨room, n', room, Pp, v3, rfl, rfl, e272, h2, ok3, hB3, s3⟩, ?_⟩
    clear e272 h2 ok3 hB3 s3 hpl hcl
    rintro m σ H3 ⟨n', room, Pp, v3, rfl, rfl, e272, h2, ok3, hB3, s3⟩
    have hpl := len_sz ok3
    have hcl := cost_le Pp
    refine ⟨_, rfl, _, _, rfl, rfl, _, rfl, ite2 (fun hc => ?_) (fun hc => ?_)⟩
    · have h3 : 3 ≤ room := by
        have := of_decide_eq_true hc
        omega
      clear hc kont
      refine ⟨fun σ' H' => ∃ (n' room' : Nat) (Pp : List Itm) (v3 : Option V), room' < room ∧ σ' = [some (vN n'), some (.ref x), some (vN room'), v3] ∧ sz Pp + room' = 272 ∧ 2 ≤ room' ∧ (∀ y ∈ Pp, StOk y) ∧ BitsAt B H' x d (nums (puts Pp) 0) (tots (puts Pp)) ∧ Same H H',
        fun σ' H' ⟨n', room', Pp, v3, hlt, z⟩ => ⟨room', hlt, n', room', Pp, v3, rfl, z⟩, ?_⟩
      refine seq_g fun R2 g2 => ?_
      obtain ⟨dx3, r3, k3, hp3⟩ := hB3.ob
      refine ⟨_, rfl, x, dx3, _, rfl, hp3, noM (by decide +kernel) (by decide +kernel) (by decide +kernel), _, rfl, _, _, rfl, rfl, (by show (0 : Int) < 7; decide), ?_⟩
      have e7 : ((n' : Nat) : Int) % 7 = ((n' % 7 : Nat) : Int) := by omega
      try dsimp only
      rw [e7]
      have h7 : n' % 7 < 7 := Nat.mod_lt _ (by decide)
      refine ⟨x, d, _, _, n' % 7, 3, rfl, hB3, by omega, by decide, (by show n' % 7 < 2 ^ 3; omega), fun H4 hB4 kp4 => g2 _ _ ?_⟩
      clear g2
      refine seq_g fun R2 g2 => ?_
      refine ⟨_, rfl, _, _, rfl, rfl, g2 _ _ ?_⟩
      clear g2
      have er : ((room : Nat) : Int) - 1 = ((room - 1 : Nat) : Int) := by omega
      have en : ((n' : Nat) : Int) / 3 + 12345 = ((n' / 3 + 12345 : Nat) : Int) := by omega
      refine ⟨_, rfl, _, _, rfl, rfl, ⟨by decide, by decide⟩, _, _, rfl, rfl, n' / 3 + 12345, room - 1, Pp ++ [.one (n' % 7)], v3, by omega, ?_, ?_, by omega, ?_, ?_, fun c o e => kp4 _ _ (s3 _ _ e) (ne_of_none e nx) (ne_of_none e nd')⟩
      · try dsimp only
        rw [er, en]
        rfl
      · rw [sz_append]
        show sz Pp + 1 + (room - 1) = 272
        omega
      · intro y hy
        rcases List.mem_append.mp hy with hy | hy
        · exact ok3 y hy
        · rw [List.mem_singleton.mp hy]
          show n' % 7 ≤ 6
          omega
      · rw [puts_append, nums_append, tots_append]
        exact hB4
    · have h65 : room ≤ 65 := by
        have : ¬ ((65 : Int) < ((room : Nat) : Int)) := fun z => hc (decide_eq_true z)
        omega
      clear hc
      refine ⟨_, rfl, _, _, rfl, rfl, _, rfl, ite2 (fun hc => ?_) (fun hc => ?_)⟩
      · have h3 : 3 ≤ room := by
          have := of_decide_eq_true hc
          omega
        clear hc
        refine ⟨_, rfl, _, _, rfl, rfl, ⟨by decide, by decide⟩, _, _, rfl, rfl, (by show (0 : Int) < 3; decide), _, _, rfl, rfl, _, rfl, ite2 (fun hc => ?_) (fun hc => ?_)⟩
        · clear hc kont
          refine ⟨fun σ' H' => ∃ (n' room' : Nat) (Pp : List Itm) (v3 : Option V), room' < room ∧ σ' = [some (vN n'), some (.ref x), some (vN room'), v3] ∧ sz Pp + room' = 272 ∧ 2 ≤ room' ∧ (∀ y ∈ Pp, StOk y) ∧ BitsAt B H' x d (nums (puts Pp) 0) (tots (puts Pp)) ∧ Same H H',
            fun σ' H' ⟨n', room', Pp, v3, hlt, z⟩ => ⟨room', hlt, n', room', Pp, v3, rfl, z⟩, ?_⟩
          refine seq_g fun R2 g2 => ?_
          obtain ⟨dx3, r3, k3, hp3⟩ := hB3.ob
          refine ⟨_, rfl, x, dx3, _, rfl, hp3, noM (by decide +kernel) (by decide +kernel) (by decide +kernel), _, rfl, _, _, rfl, rfl, (by show (0 : Int) < 7; decide), ?_⟩
          have e7 : ((n' : Nat) : Int) % 7 = ((n' % 7 : Nat) : Int) := by omega
          try dsimp only
          rw [e7]
          have h7 : n' % 7 < 7 := Nat.mod_lt _ (by decide)
          refine ⟨x, d, _, _, n' % 7, 3, rfl, hB3, by omega, by decide, (by show n' % 7 < 2 ^ 3; omega), fun H4 hB4 kp4 => g2 _ _ ?_⟩
          clear g2
          refine seq_g fun R2 g2 => ?_
          refine ⟨_, rfl, _, _, rfl, rfl, g2 _ _ ?_⟩
          clear g2
          have er : ((room : Nat) : Int) - 1 = ((room - 1 : Nat) : Int) := by omega
          have en : ((n' : Nat) : Int) / 3 + 12345 = ((n' / 3 + 12345 : Nat) : Int) := by omega
          refine ⟨_, rfl, _, _, rfl, rfl, ⟨by decide, by decide⟩, _, _, rfl, rfl, n' / 3 + 12345, room - 1, Pp ++ [.one (n' % 7)], v3, by omega, ?_, ?_, by omega, ?_, ?_, fun c o e => kp4 _ _ (s3 _ _ e) (ne_of_none e nx) (ne_of_none e nd')⟩
          · try dsimp only
            rw [er, en]
            rfl
          · rw [sz_append]
            show sz Pp + 1 + (room - 1) = 272
            omega
          · intro y hy
            rcases List.mem_append.mp hy with hy | hy
            · exact ok3 y hy
            · rw [List.mem_singleton.mp hy]
              show n' % 7 ≤ 6
              omega
          · rw [puts_append, nums_append, tots_append]
            exact hB4
        · exact kont n' room Pp v3 H3 h65 e272 h2 ok3 hB3 s3
      · exact iteF (kont n' room Pp v3 H3 h65 e272 h2 ok3 hB3 s3)
end
end K12

set_option Elab.async false
set_option linter.all false
set_option maxRecDepth 100000
set_option maxHeartbeats 4000000
namespace K12
open PySem L2 QQ W13 W12 BP
seal PE PA PS PSs PT PW PG PI
theorem ReadAt.keep {C : Addr} {H H' : Hp} {p d : Addr} {R : List Nat} {t : Nat} (h : ReadAt C H p d R t) (s : ∀ c o, H c = some o → c = p ∨ c = d → H' c = some o) : ReadAt C H' p d R t := by
  obtain ⟨⟨dx, hp⟩, hd, hb, ht⟩ := h
  exact ⟨⟨dx, s _ _ hp (.inl rfl)⟩, s _ _ hd (.inr rfl), hb, ht⟩
section
variable {P : Program} {w : World} {K : PySem.W.Frag} {mg : Str → Option Value} {base : Heap} {B D cP cN cT : Addr} {cs ds : List Addr}
/-! ### _law_taking_right -/
def spTakingRight (B : Addr) : Sp := fun vs H Q _ => ∃ (p d l : Addr) (ld N T : Nat) (R : List Nat) (o : Option (Nat × Nat)), vs = [.ref p, .ref l, vN ld] ∧ BitsAt B H p d N T ∧ T ≤ 4000 ∧ RowOf N T R ∧ H l = some (.lst [.str (wd o)]) ∧ Rd R ld 0 o ∧ (∀ c t', o = some (c, t') → 272 < c) ∧ ld ≤ 24 ∧ ld ≤ 8 * R.length ∧ ∀ H' : Hp, Same H H' → Q (.bl true) H'
abbrev nTakingRight : List Str := ["_law_bits", "_law_due", "_law_lead", "_law_row", "_law_reader", "_law_first", "_law_left", "_law_turn", "_law_other", "_law_size"]
theorem scTakingRight : FnScope nTakingRight ["_law_bits", "_law_due", "_law_lead"] (defScope sTakingRight) := ⟨rfl, rfl, rfl, by decide +kernel, rfl, by decide +kernel, by decide +kernel⟩
theorem ok_takingright {f : Addr} {fd : FuncData} (F : Fn K mg "_law_taking_right" sTakingRight ["_law_bits", "_law_due", "_law_lead"] f fd) (A0 : All K mg B D cP cN cT cs ds) : FnOk P w K mg base CX0 35 f fd ["_law_bits", "_law_due", "_law_lead"] (spTakingRight B) := by
  have Y := A0.Y
  have BB := Y.B
  have RR := Y.D
  obtain ⟨_, _, Lt⟩ := A0.ltaken
  obtain ⟨_, _, W⟩ := BB.R.whole
  obtain ⟨_, _, Ro⟩ := BB.row
  obtain ⟨_, _, FR, bR, MR⟩ := RR.init
  obtain ⟨_, _, Nr⟩ := RR.needrow
  obtain ⟨_, _, S2⟩ := RR.needsize
  obtain ⟨_, _, O⟩ := RR.ones
  obtain ⟨_, _, BA⟩ := RR.bitsat
  obtain ⟨_, _, Le⟩ := RR.left
  obtain ⟨_, _, Tk⟩ := RR.take
  have T := BB.R.X
  have TB := BB.T
  have TR := RR.T
  have GO := ok_rowout (P := P) (w := w) (base := base) Ro.F TB T
  have GR := ok_rinit (P := P) (w := w) (base := base) FR Nr RR.R TR
  have GK := ok_take (P := P) (w := w) (base := base) Tk.F S2 W BA O Le TR T Y.Z
  have GL := ok_left (P := P) (w := w) (base := base) Le.F TR T
  have GT := ok_ltaken (P := P) (w := w) (base := base) Lt Y
  refine F.F.ok scTakingRight (fun vs H Q E h => ?_) (fun cdv A outer st H vs Q E hr h => ?_)
  · obtain ⟨p, d, l, ld, N, T', R, o, rfl, _⟩ := h
    rfl
  · obtain ⟨p, d, l, ld, N, T', R, o, rfl, hB, hT, hRow, hl, hRd, h272, hld, hldR, q⟩ := h
    have hr1 : Room 1 _ := hr.mono (by decide)
    have hr6 : Room 6 _ := hr.mono (by decide)
    have hr31 : Room 31 _ := hr.mono (by decide)
    have hn := hr.hd (by decide)
    have hu := hr.units
    refine ⟨_, pss_cons (ps_set (i := 3) scTakingRight.nd rfl (Or.inl rfl) (pe_meth0 (pv 0) TB.cl Ro.m GO hr1 Ro.b .nil pass0))
      (pss_cons (ps_set (i := 4) scTakingRight.nd rfl (Or.inl rfl) (pe_make MR GR hr6 (by rfl) RR.m bR .nil pass0 (pa_cons (pv 3) pa_nil)))
      (pss_cons (ps_set (i := 5) scTakingRight.nd rfl (Or.inl rfl) (pe_meth (pv 4) TR.cl Tk.m GK hr31 Tk.b .nil passF (pa_cons (pv 2) pa_nil)))
      (pss_cons (ps_set (i := 6) scTakingRight.nd rfl (Or.inl rfl) (pe_meth0 (pv 4) TR.cl Le.m GL hr1 Le.b .nil pass0))
      (pss_cons (ps_for PassesOwn.never rfl (pi_range1 (by rfl) T.range (pa_cons pe_int pa_nil)) (pg_name (i := 7) scTakingRight.nd rfl (Or.inl rfl)) (pss_one (ps_if (PW.pt (pw_or (pt_cmpR (op_neGs hu) (pe_call GT hr (by rfl) Lt.m Lt.F.kp Lt.b .nil pass0 (pa_cons (pv 4) pa_nil)) (pv 1) (nomark _)) (pw_or1 (pt_cmpR op_ne (pe_meth0 (pv 4) TR.cl Le.m GL hr1 Le.b .nil pass0) (pv 6) (nomark _))))) (pss_one (ps_ret pe_bl)) pss_nil)))
      (pss_cons (ps_set (i := 8) scTakingRight.nd rfl (Or.inl rfl) (pe_make MR GR hr6 (by rfl) RR.m bR .nil pass0 (pa_cons (pv 3) pa_nil)))
      (pss_cons (ps_if (pt_cmpR op_ne (pe_meth (pv 8) TR.cl Tk.m GK hr31 Tk.b .nil passF (pa_cons (pv 2) pa_nil)) (pv 5) (nomark _)) (pss_one (ps_ret pe_bl)) pss_nil)
      (pss_cons (ps_while PassesOwn.never (pt_cmpR op_gt (pe_meth0 (pv 8) TR.cl Le.m GL hr1 Le.b .nil pass0) pe_int (nomark _)) (pss_cons (ps_set (i := 9) scTakingRight.nd rfl (Or.inl rfl) (pe_callB (call_min2 hn) (by rfl) T.min PyProof.Rows.boot_min (pa_cons (pe_meth0 (pv 8) TR.cl Le.m GL hr1 Le.b .nil pass0) (pa_cons pe_int pa_nil))))
      (pss_one (ps_if (pt_cmpR op_ne (pe_meth (pv 4) TR.cl Tk.m GK hr31 Tk.b .nil passF (pa_cons (pv 9) pa_nil)) (pe_meth (pv 8) TR.cl Tk.m GK hr31 Tk.b .nil passF (pa_cons (pv 9) pa_nil)) (nomark _)) (pss_one (ps_ret pe_bl)) pss_nil))))
      (pss_one (ps_ret (pe_cmpR op_eq (pe_meth0 (pv 4) TR.cl Le.m GL hr1 Le.b .nil pass0) pe_int (nomark _))))))))))), ?_⟩
    -- the row
    refine seq_g fun R1 g1 => ?_
    obtain ⟨dxb, rb, kb, hpb⟩ := hB.ob
    refine ⟨_, rfl, p, dxb, _, rfl, hpb, fW_no _ _ _ (by decide +kernel) (by decide +kernel) (by decide +kernel), p, d, _, _, rfl, hB, hT, fun lr R' H1 nlr hlr row s01 => g1 _ _ ?_⟩
    clear g1
    have eR : R' = R := RowOf.uniq row hRow
    subst eR
    have hbyt := row.byt
    have hl1 := s01 _ _ hl
    clear hpb hB hRow row
    -- a reader
    refine seq_g fun R1 g1 => ?_
    refine ⟨_, rfl, ?_⟩
    intro y dy ny ndy ney
    have hy0 : (upd (upd H1 dy (.own y)) y (.ins D dy [])) y = some (.ins D dy []) := upd_same
    have s8 : Same H1 (upd (upd H1 dy (.own y)) y (.ins D dy [])) := fun c o e => by
      rw [upd_ne (ne_of_none e ny), upd_ne (ne_of_none e ndy)]; exact e
    refine ⟨y, dy, lr, R', rfl, hy0, s8 _ _ hlr, hbyt, fun d2 H2 nd2 hR2 kp2 => ⟨rfl, g1 _ _ ?_⟩⟩
    clear g1
    have s12 : Same H1 H2 := fun c o e => kp2 _ _ (s8 _ _ e) (ne_of_none e ny)
    clear kp2 hy0 s8 nd2
    have noR : ∀ {m : Str} {d n : Nat}, ¬ m = "taken" → ¬ m = "held" → (fR d n).lookup m = none := fun h1 h2 => fR_no _ _ h1 h2
    -- the bits ahead
    refine seq_g fun R1 g1 => ?_
    obtain ⟨dy2, hp2⟩ := hR2.ob
    refine ⟨_, rfl, y, dy2, _, rfl, hp2, noR (by decide +kernel) (by decide +kernel), _, rfl, y, d2, R', 0, ld, rfl, hR2, hld, fun _ H3 hR3 kp3 => g1 _ _ ?_, fun z => by omega⟩
    clear g1
    have s13 : Same H1 H3 := fun c o e => kp3 _ _ (s12 _ _ e) (ne_of_none e ny)
    clear kp3 hp2 hR2 s12
    rw [Nat.zero_add] at hR3
    refine seq_g fun R1 g1 => ?_
    obtain ⟨dy3, hp3⟩ := hR3.ob
    refine ⟨_, rfl, y, dy3, _, rfl, hp3, noR (by decide +kernel) (by decide +kernel), y, d2, R', ld, rfl, hR3, g1 _ _ ?_⟩
    clear g1 hp3
    -- twice refused
    refine seq_g fun R1 g1 => ?_
    refine ⟨2, rfl, by decide, by decide, ?_⟩
    refine for_range (D := ⟨_, _, fun _ _ => False, fun _ _ => False⟩) (lo := 0) (n := 2) (fun j σ H4 => ∃ v7 : Option V, σ = [some (.ref p), some (.ref l), some (vN ld), some (.ref lr), some (.ref y), some (vN (bt R' 0 ld)), some (vN (8 * R'.length - ld)), v7, none, none] ∧ ReadAt D H4 y d2 R' ld ∧ Same H1 H4)
      ⟨none, rfl, hR3, s13⟩ ?_ ?_
    · rintro j σ H4 hj ⟨v7, rfl, hR4, s14⟩
      refine ⟨_, rfl, y, d2, R', ld, o, rfl, hR4, hRd, h272, fun l5 H5 hR5 hl5 kp5 => ?_⟩
      have s15 : Same H1 H5 := fun c o e => kp5 _ _ (s14 _ _ e) (ne_of_none e ny)
      refine ⟨_, rfl, l5, l, rfl, rfl, SameGs.flat hl5 (s15 _ _ hl1) (fun z hz => by rw [List.mem_singleton.mp hz]; rfl), _, rfl, iteF ?_⟩
      obtain ⟨dy5, hp5⟩ := hR5.ob
      exact ⟨_, rfl, y, dy5, _, rfl, hp5, noR (by decide +kernel) (by decide +kernel), y, d2, R', ld, rfl, hR5, _, rfl, rfl, _, rfl, iteNS (by simp) ⟨_, rfl, hR5, s15⟩⟩
    rintro σ H4 ⟨v7, rfl, hR4, s14⟩
    refine g1 _ _ ?_
    clear g1 hR3 s13 hRd h272
    -- another reader
    refine seq_g fun R1 g1 => ?_
    refine ⟨_, rfl, ?_⟩
    intro z dz nz ndz nez
    have hz0 : (upd (upd H4 dz (.own z)) z (.ins D dz [])) z = some (.ins D dz []) := upd_same
    have s8 : Same H4 (upd (upd H4 dz (.own z)) z (.ins D dz [])) := fun c o e => by
      rw [upd_ne (ne_of_none e nz), upd_ne (ne_of_none e ndz)]; exact e
    refine ⟨z, dz, lr, R', rfl, hz0, s8 _ _ (s14 _ _ hlr), hbyt, fun d5 H5 nd5 hR5 kp5 => ⟨rfl, g1 _ _ ?_⟩⟩
    clear g1
    have s45 : Same H4 H5 := fun c o e => kp5 _ _ (s8 _ _ e) (ne_of_none e nz)
    have nd5' : H4 d5 = none := none_of s8 nd5
    obtain ⟨dy4, hp4⟩ := hR4.ob
    have nyz : y ≠ z := ne_of_none hp4 nz
    have nyd5 : y ≠ d5 := ne_of_none hp4 nd5'
    have nd2z : d2 ≠ z := ne_of_none hR4.ls nz
    have hRy5 := hR4.keep (H' := H5) fun c o e _ => s45 _ _ e
    clear kp5 hz0 s8 nd5 hp4 hR4
    have s15 := s14.trans s45
    refine seq_g fun R1 g1 => ?_
    obtain ⟨dz5, hp5⟩ := hR5.ob
    refine ⟨_, rfl, z, dz5, _, rfl, hp5, noR (by decide +kernel) (by decide +kernel), _, rfl, z, d5, R', 0, ld, rfl, hR5, hld, fun _ H6 hR6 kp6 => ?_, fun z => by omega⟩
    rw [Nat.zero_add] at hR6
    have nHz : H1 z = none := none_of s14 nz
    have s16 : Same H1 H6 := fun c o e => kp6 _ _ (s15 _ _ e) (ne_of_none e nHz)
    have hRy6 := hRy5.keep (H' := H6) fun c o e hc => kp6 _ _ e (by rcases hc with rfl | rfl; exact nyz; exact nd2z)
    refine ⟨_, rfl, rfl, _, rfl, iteNS (by simp) (g1 _ _ ?_)⟩
    clear g1 kp6 hp5 hR5 hRy5 s15 s45
    -- the same bits
    refine seq_g fun R1 g1 => ?_
    refine ⟨fun m σ H7 => ∃ (t : Nat) (v9 : Option V), m = 8 * R'.length - t ∧ σ = [some (.ref p), some (.ref l), some (vN ld), some (.ref lr), some (.ref y), some (vN (bt R' 0 ld)), some (vN (8 * R'.length - ld)), v7, some (.ref z), v9] ∧ ReadAt D H7 y d2 R' t ∧ ReadAt D H7 z d5 R' t ∧ Same H1 H7,
      ⟨8 * R'.length - ld, ld, none, rfl, rfl, hRy6, hR6, s16⟩, ?_⟩
    clear hRy6 hR6 s16 s14
    rintro m σ H7 ⟨t, v9, rfl, rfl, hy7, hz7, s17⟩
    obtain ⟨dz7, hp7⟩ := hz7.ob
    have htle := hz7.le
    refine ⟨_, rfl, z, dz7, _, rfl, hp7, noR (by decide +kernel) (by decide +kernel), z, d5, R', t, rfl, hz7, _, _, rfl, rfl, _, rfl, ite2 (fun hc => ?_) (fun hc => ?_)⟩
    · clear g1
      have h0 : t < 8 * R'.length := by have := of_decide_eq_true hc; omega
      clear hc
      refine ⟨fun σ' H' => ∃ (t' : Nat) (v9 : Option V), t < t' ∧ σ' = [some (.ref p), some (.ref l), some (vN ld), some (.ref lr), some (.ref y), some (vN (bt R' 0 ld)), some (vN (8 * R'.length - ld)), v7, some (.ref z), v9] ∧ ReadAt D H' y d2 R' t' ∧ ReadAt D H' z d5 R' t' ∧ Same H1 H',
        fun σ' H' ⟨t', v9, hlt, z1, z2, z3⟩ => ⟨8 * R'.length - t', by have := z2.le; omega, t', v9, rfl, z1, z2, z3⟩, ?_⟩
      refine seq_g fun R2 g2 => ?_
      refine ⟨_, rfl, z, dz7, _, rfl, hp7, noR (by decide +kernel) (by decide +kernel), z, d5, R', t, rfl, hz7, _, _, rfl, g2 _ _ ?_⟩
      clear g2
      obtain ⟨u, eu, hu1, hu2, hu3⟩ : ∃ u : Nat, (if (24 : Int) < ((8 * R'.length - t : Nat) : Int) then (24 : Int) else ((8 * R'.length - t : Nat) : Int)) = ((u : Nat) : Int) ∧ 1 ≤ u ∧ u ≤ 24 ∧ t + u ≤ 8 * R'.length :=
        ⟨min (8 * R'.length - t) 24, by split <;> omega, by omega, by omega, by omega⟩
      try dsimp only
      rw [eu]
      obtain ⟨dy7, hpy7⟩ := hy7.ob
      refine ⟨_, rfl, y, dy7, _, rfl, hpy7, noR (by decide +kernel) (by decide +kernel), _, rfl, y, d2, R', t, u, rfl, hy7, hu2, fun _ H8 hR8 kp8 => ?_, fun z => by omega⟩
      have hz8 := hz7.keep (H' := H8) fun c o e hc => kp8 _ _ e (by rcases hc with rfl | rfl; exact nyz.symm; exact nyd5.symm)
      obtain ⟨dz8, hp8⟩ := hz8.ob
      refine ⟨_, rfl, z, dz8, _, rfl, hp8, noR (by decide +kernel) (by decide +kernel), _, rfl, z, d5, R', t, u, rfl, hz8, hu2, fun _ H9 hR9 kp9 => ?_, fun z => by omega⟩
      have hy9 := hR8.keep (H' := H9) fun c o e hc => kp9 _ _ e (by rcases hc with rfl | rfl; exact nyz; exact nd2z)
      exact ⟨rfl, _, rfl, iteNS (by simp) ⟨t + u, some (vN u), by omega, rfl, hy9, hR9, fun c o e => kp9 _ _ (kp8 _ _ (s17 _ _ e) (ne_of_none e ny)) (ne_of_none e nHz)⟩⟩
    · have h0 : t = 8 * R'.length := by
        have : ¬ ((0 : Int) < ((8 * R'.length - t : Nat) : Int)) := fun z => hc (decide_eq_true z)
        omega
      refine g1 _ _ ?_
      obtain ⟨dy7, hpy7⟩ := hy7.ob
      refine ⟨_, rfl, y, dy7, _, rfl, hpy7, noR (by decide +kernel) (by decide +kernel), y, d2, R', t, rfl, hy7, rfl, ?_⟩
      have e0 : 8 * R'.length - t = 0 := by omega
      rw [e0]
      exact q H7 (s01.trans s17)
end
end K12

set_option Elab.async false
set_option linter.all false
set_option maxRecDepth 100000
set_option maxHeartbeats 4000000
namespace K12
open PySem L2 QQ W13 W12 BP
seal PE PA PS PSs PT PW PG PI
theorem walk_rd {L : List Nat} {Pp : List Itm} {b : Nat} {R : List Nat} (hl : L.length = 272) (h6 : ∀ b ∈ L, b ≤ 6) (hw : Walk L 0 0 Pp 272 b) (row : RowOf (nums (puts Pp) 0) (tots (puts Pp)) R) : Rd R 0 0 (some (272, tots (puts Pp))) ∧ (∀ x ∈ Pp, StOk x) ∧ sz Pp = 272 := by
  have ok := walk_ok h6 hw
  have hd := walk_dec hw
  have hs : sz Pp = 272 := by
    have := congrArg List.length hd
    rw [List.length_append, List.length_take, List.length_take, decL_sz] at this
    omega
  have hT : Told [] [] Pp R := ⟨by simpa using row, fun z hz => by simp at hz, ok⟩
  have h0 : tots ([] : List (Nat × Nat)) = 0 := rfl
  have r := hT.rd0 (o := some (272, tots (puts Pp))) (fun A x Z e => by
    have h1 := congrArg sz e
    rw [sz_append, sz_cons, hs] at h1
    have h2 := len_sz (Pp := [x]) fun y hy => ok y (by rw [List.mem_singleton.mp hy, e]; simp)
    rw [sz_cons] at h2
    have h3 : sz ([] : List Itm) = 0 := rfl
    have h4 : [x].length = 1 := rfl
    omega) (by rw [hs, h0, Nat.zero_add]; exact .done (Nat.le_refl _))
  exact ⟨r, ok, hs⟩
section
variable {P : Program} {w : World} {K : PySem.W.Frag} {mg : Str → Option Value} {base : Heap} {B D cP cN cT : Addr} {cs ds : List Addr}
/-! ### _law_cut -/
def spCut (B : Addr) : Sp := fun vs H Q _ => ∃ (a : Addr) (L : List Nat) (n : Nat), vs = [.ref a, vN n] ∧ H a = some (.lst (L.map vN)) ∧ L.length = 272 ∧ (∀ b ∈ L, b ≤ 6) ∧ ∀ (p d : Addr) (N T : Nat) (R : List Nat) (H' : Hp), H p = none → H d = none → BitsAt B H' p d N T → RowOf N T R → Same H H' → Rd R 0 0 none → T ≤ 4000 → Q (.ref p) H'
abbrev nCut : List Str := ["_law_table_here", "_law_number", "_law_bits", "_law_row", "_law_many", "_law_cut_here", "_law_byte"]
theorem scCut : FnScope nCut ["_law_table_here", "_law_number"] (defScope sCut) := ⟨rfl, rfl, rfl, by decide +kernel, rfl, by decide +kernel, by decide +kernel⟩
theorem ok_cut {f : Addr} {fd : FuncData} (F : Fn K mg "_law_cut" sCut ["_law_table_here", "_law_number"] f fd) (A0 : All K mg B D cP cN cT cs ds) : FnOk P w K mg base CX0 33 f fd ["_law_table_here", "_law_number"] (spCut B) := by
  have Y := A0.Y
  have BB := Y.B
  obtain ⟨_, _, W⟩ := BB.R.whole
  obtain ⟨_, _, S⟩ := BB.needsize
  obtain ⟨_, _, O'⟩ := BB.ones
  obtain ⟨_, _, Pu⟩ := BB.put
  obtain ⟨_, _, M⟩ := BB.move
  obtain ⟨_, _, FI, bI, MI⟩ := BB.init
  have T := BB.R.X
  have TB := BB.T
  have GI := ok_binit (P := P) (w := w) (base := base) (mg := mg) FI TB
  have GU := ok_put (P := P) (w := w) (base := base) Pu.F S W O' M TB T
  obtain ⟨_, _, Ro⟩ := BB.row
  obtain ⟨_, _, NT⟩ := Y.needtable
  obtain ⟨_, _, AF⟩ := Y.again
  obtain ⟨_, _, PT⟩ := Y.puttable
  have GO := ok_rowout (P := P) (w := w) (base := base) Ro.F TB T
  have GP := ok_puttable (P := P) (w := w) (base := base) PT NT AF BB Y.Z
  refine F.F.ok scCut (fun vs H Q E h => ?_) (fun cdv A outer st H vs Q E hr h => ?_)
  · obtain ⟨a, L, n, rfl, _⟩ := h
    rfl
  · obtain ⟨a, L, n, rfl, ha, hl, h6, q⟩ := h
    have hr1 : Room 1 _ := hr.mono (by decide)
    have hr2 : Room 2 _ := hr.mono (by decide)
    have hr3 : Room 3 _ := hr.mono (by decide)
    refine ⟨_, pss_cons (ps_set (i := 2) scCut.nd rfl (Or.inl rfl) (pe_make0 MI GI hr2 (by rfl) BB.m bI .nil pass0))
      (pss_cons (ps_expr (pe_call GP hr (by rfl) PT.m PT.F.kp PT.b .nil passF (pa_cons (pv 2) (pa_cons (pv 0) pa_nil))))
      (pss_cons (ps_set (i := 3) scCut.nd rfl (Or.inl rfl) (pe_meth0 (pv 2) TB.cl Ro.m GO hr1 Ro.b .nil pass0))
      (pss_cons (ps_set (i := 4) scCut.nd rfl (Or.inl rfl) (pe_op op_mod (pv 1) (pe_callB call_len_seq (by rfl) T.len PySem.boot_len (pa_cons (pv 3) pa_nil))))
      (pss_cons (ps_set (i := 5) scCut.nd rfl (Or.inl rfl) (pe_make0 MI GI hr2 (by rfl) BB.m bI .nil pass0))
      (pss_cons (ps_for PassesOwn.never rfl (pi_list (pe_slice sl_list (pv 3) po_none (po_some (pv 4)))) (pg_name (i := 6) scCut.nd rfl (Or.inl rfl)) (pss_one (ps_expr (pe_meth (pv 5) TB.cl Pu.m GU hr3 Pu.b .nil pass0 (pa_cons (pv 6) (pa_cons pe_int pa_nil))))))
      (pss_one (ps_ret (pv 5)))))))), ?_⟩
    -- a row of bits
    refine seq_g fun R1 g1 => ?_
    intro x dx nx ndx nex
    have hx0 : (upd (upd H dx (.own x)) x (.ins B dx [])) x = some (.ins B dx []) := upd_same
    have s0 : Same H (upd (upd H dx (.own x)) x (.ins B dx [])) := fun c o e => by
      rw [upd_ne (ne_of_none e nx), upd_ne (ne_of_none e ndx)]; exact e
    refine ⟨x, dx, rfl, hx0, fun d H1 nd hB1 kp1 => ⟨rfl, g1 _ _ ?_⟩⟩
    clear g1
    have nd' : H d = none := none_of s0 nd
    have s1 : Same H H1 := fun c o e => kp1 _ _ (s0 _ _ e) (ne_of_none e nx)
    clear hx0 s0 kp1 nd
    have noM : ∀ {m : Str} {r k : Nat}, ¬ m = "rest_size" → ¬ m = "rest" → ¬ m = "whole_bytes" → (fW d r k).lookup m = none := fun h1 h2 h3 => fW_no _ _ _ h1 h2 h3
    -- the table
    refine seq_g fun R1 g1 => ?_
    refine ⟨_, rfl, _, rfl, x, d, _, 0, 0, rfl, hB1, by decide, .inl ⟨a, L, rfl, s1 _ _ ha, hl, h6, ne_of_none ha nd', fun Pp b H2 hw hB2 kp2 => g1 _ _ ?_⟩⟩
    clear g1
    have s2 : Same H H2 := fun c o e => kp2 _ _ (s1 _ _ e) (ne_of_none e nx) (ne_of_none e nd')
    clear hB1 s1 kp2
    rw [Nat.zero_add] at hB2
    have hpos := walk_tot hw
    -- its row
    refine seq_g fun R1 g1 => ?_
    obtain ⟨dx2, r2, k2, hp2⟩ := hB2.ob
    have hcl := cost_le Pp
    have hwl := walk_len hw
    refine ⟨_, rfl, x, dx2, _, rfl, hp2, noM (by decide +kernel) (by decide +kernel) (by decide +kernel), x, d, _, _, rfl, hB2, by omega, fun lr R0 H3 nlr hlr row s23 => g1 _ _ ?_⟩
    clear g1
    have s3 := s2.trans s23
    clear hp2 hB2 s2 s23
    obtain ⟨rd0, ok0, hs0⟩ := walk_rd hl h6 hw row
    have hlen := row.len
    have hbyt := row.byt
    have hlen0 : 0 < R0.length := by omega
    -- so many bytes
    refine seq_g fun R1 g1 => ?_
    refine ⟨_, rfl, _, rfl, lr, _, rfl, .inl (SqL.of hlr), _, _, rfl, rfl, (by show (0 : Int) < (((R0.map vN).length : Nat) : Int); rw [List.length_map]; omega), g1 _ _ ?_⟩
    clear g1
    have em : ((n : Nat) : Int) % (((R0.map vN).length : Nat) : Int) = ((n % R0.length : Nat) : Int) := by rw [List.length_map]; rfl
    try dsimp only
    rw [em]
    have hm : n % R0.length < R0.length := Nat.mod_lt _ hlen0
    generalize n % R0.length = m at *
    clear nx ndx nex noM nd'
    -- another row of bits
    refine seq_g fun R1 g1 => ?_
    intro y dy ny ndy ney
    have hy0 : (upd (upd H3 dy (.own y)) y (.ins B dy [])) y = some (.ins B dy []) := upd_same
    have s8 : Same H3 (upd (upd H3 dy (.own y)) y (.ins B dy [])) := fun c o e => by
      rw [upd_ne (ne_of_none e ny), upd_ne (ne_of_none e ndy)]; exact e
    refine ⟨y, dy, rfl, hy0, fun e4 H4 ne4 hB4 kp4 => ⟨rfl, g1 _ _ ?_⟩⟩
    clear g1
    have ne4' : H3 e4 = none := none_of s8 ne4
    have s34 : Same H3 H4 := fun c o e => kp4 _ _ (s8 _ _ e) (ne_of_none e ny)
    clear hy0 s8 kp4 ne4
    have noM : ∀ {m : Str} {r k : Nat}, ¬ m = "rest_size" → ¬ m = "rest" → ¬ m = "whole_bytes" → (fW e4 r k).lookup m = none := fun h1 h2 h3 => fW_no _ _ _ h1 h2 h3
    refine seq_g fun R1 g1 => ?_
    refine ⟨_, rfl, _, rfl, _, rfl, lr, _, rfl, SqL.of (s34 _ _ hlr), fun lc nlc => ?_⟩
    try dsimp only
    rw [take_cut, ← List.map_take]
    have s45 := same_new (o := .lst ((R0.take m).map vN)) nlc
    have hlc : (upd H4 lc (.lst ((R0.take m).map vN))) lc = some (.lst ((R0.take m).map vN)) := upd_same
    have hB5 := hB4.same s45
    have s35 := s34.trans s45
    have nyc : lc ≠ y := by obtain ⟨_, _, _, hz⟩ := hB4.ob; exact (ne_of_none hz nlc).symm
    have nec : lc ≠ e4 := by obtain ⟨_, hz⟩ := hB4.hd; exact (ne_of_none hz nlc).symm
    generalize upd H4 lc (.lst ((R0.take m).map vN)) = H5 at *
    have htl : (R0.take m).length = m := by rw [List.length_take]; omega
    refine ⟨lc, rfl, ⟨_, SqL.of hlc⟩, for_list (D := ⟨_, _, fun _ _ => False, fun _ _ => False⟩) (K := K) (a := lc) (xs := (R0.take m).map vN) (fun i σ H6 => ∃ v6 : Option V, σ = [some (.ref a), some (vN n), some (.ref x), some (.ref lr), some (vN m), some (.ref y), v6] ∧ BitsAt B H6 y e4 (val (R0.take i)) (8 * i) ∧ H6 lc = some (.lst ((R0.take m).map vN)) ∧ Same H3 H6)
      ⟨none, rfl, hB5, hlc, s35⟩ (fun i σ H6 _ ⟨_, _, _, h, _⟩ => SqL.of h) ?_ ?_⟩
    · rintro i z σ H6 hi ⟨v6, rfl, hB6, hlc6, s36⟩
      obtain ⟨bb, hb, rfl⟩ := map_get hi
      have him : i < m := by have := (List.getElem?_eq_some_iff.mp hb).1; omega
      have hb0 : R0[i]? = some bb := by rw [List.getElem?_take, if_pos him] at hb; exact hb
      have hb256 := hbyt bb (List.mem_of_getElem? hb0)
      obtain ⟨dy6, r6, k6, hp6⟩ := hB6.ob
      refine ⟨_, rfl, y, dy6, _, rfl, hp6, noM (by decide +kernel) (by decide +kernel) (by decide +kernel), _, rfl, y, e4, _, _, bb, 8, rfl, hB6, by omega, by decide, hb256, fun H7 hB7 kp7 => ⟨_, rfl, ?_, kp7 _ _ hlc6 nyc nec, fun c o e => kp7 _ _ (s36 _ _ e) (ne_of_none e ny) (ne_of_none e ne4')⟩⟩
      rw [take_snoc hb0, val_snoc]
      exact hB7
    · rintro σ H6 ⟨v6, rfl, hB6, _, s36⟩
      refine g1 _ _ ⟨_, rfl, ?_⟩
      rw [List.length_map, htl] at hB6
      refine q y e4 _ _ (R0.take m) H6 (none_of s3 ny) (none_of s3 ne4') hB6 ⟨by rw [htl]; omega, fun b hb => hbyt b (List.mem_of_mem_take hb), ?_⟩ (s3.trans s36) (rd0.cut hbyt (Nat.le_of_lt hm) rfl (by omega) (Nat.zero_le _)) (by omega)
      rw [htl, Nat.sub_self, Nat.pow_zero, Nat.mul_one]
end
end K12

set_option Elab.async false
set_option linter.all false
set_option maxRecDepth 100000
set_option maxHeartbeats 4000000
namespace K12
open PySem L2 QQ W13 W12 BP
seal PE PA PS PSs PT PW PG PI
/-- the pairs that the things of a list are -/
def Prs (H : Hp) (xs : List V) (ps : List (Nat × Nat)) : Prop := Paired (fun v (p : Nat × Nat) => ∃ t, v = .ref t ∧ H t = some (.tup [vN p.1, vN p.2])) xs ps
theorem Prs.same {H H' : Hp} {xs : List V} {ps : List (Nat × Nat)} (s : Same H H') (h : Prs H xs ps) : Prs H' xs ps := Paired.mapP h fun _ _ ⟨t, e, ht⟩ => ⟨t, e, s _ _ ht⟩
theorem Prs.one {H : Hp} {t : Addr} {a b : Nat} (h : H t = some (.tup [vN a, vN b])) : Prs H [.ref t] [(a, b)] := .cons ⟨t, rfl, h⟩ .nil
theorem Prs.rep {H : Hp} {xs : List V} {ps : List (Nat × Nat)} (h : Prs H xs ps) : ∀ r : Nat, Prs H (List.replicate r xs).flatten (List.replicate r ps).flatten
  | 0 => .nil
  | r + 1 => by rw [List.replicate_succ, List.replicate_succ, List.flatten_cons, List.flatten_cons]; exact Paired.app h (Prs.rep h r)
theorem Prs.get : ∀ {H : Hp} {xs : List V} {ps : List (Nat × Nat)} {i : Nat} {v : V}, Prs H xs ps → xs[i]? = some v → ∃ p t, ps[i]? = some p ∧ v = .ref t ∧ H t = some (.tup [vN p.1, vN p.2])
  | _, _, _, i, _, .nil, e => by simp at e
  | _, _, _, 0, _, .cons ⟨t, e1, h1⟩ _, e => by simp at e; subst e; exact ⟨_, t, rfl, e1, h1⟩
  | _, _, _, i + 1, v, .cons _ q, e => by
    obtain ⟨p, t, h1, h2⟩ := Prs.get (i := i) (v := v) q (by simpa using e)
    exact ⟨p, t, by simpa using h1, h2⟩
theorem Prs.len : ∀ {H : Hp} {xs : List V} {ps : List (Nat × Nat)}, Prs H xs ps → xs.length = ps.length
  | _, _, _, .nil => rfl
  | _, _, _, .cons _ q => by rw [List.length_cons, List.length_cons, Prs.len q]
theorem Prs.upd {H : Hp} {l : Addr} {xs zs ws : List V} {ps : List (Nat × Nat)} (h : Prs H xs ps) (hl : H l = some (.lst zs)) : Prs (L2.upd H l (.lst ws)) xs ps :=
  Paired.mapP h fun _ _ ⟨t, e, ht⟩ => ⟨t, e, by rw [upd_ne (ne_of ht hl (by intro z; cases z))]; exact ht⟩
theorem flat1 {α : Type} (r : Nat) (v : α) : (List.replicate r [v]).flatten = List.replicate r v := by
  induction r with
  | zero => rfl
  | succ r ih => rw [List.replicate_succ, List.flatten_cons, ih]; rfl
/-- the items ahead of the last seven -/
def endP (x y j : Nat) : List Itm := .one x :: (List.replicate 4 (Itm.rep 66) ++ List.replicate j (.one y))
def endS (x y j b k : Nat) : List (Nat × Nat) := [(x, 3)] ++ (List.replicate 4 [(7, 3), (63, 6)]).flatten ++ (List.replicate j [(y, 3)]).flatten ++ [(7, 3)] ++ (List.replicate k [(b, 1)]).flatten
theorem puts_ones (y : Nat) : ∀ j : Nat, puts (List.replicate j (Itm.one y)) = List.replicate j (y, 3)
  | 0 => rfl
  | j + 1 => by rw [List.replicate_succ, List.replicate_succ, puts_cons, puts_ones y j]; rfl
theorem endS_eq (x y j b k : Nat) : endS x y j b k = puts (endP x y j) ++ (7, 3) :: List.replicate k (b, 1) := by
  unfold endS endP
  rw [puts_cons, puts_append, puts_ones, flat1, flat1, List.append_assoc _ [(7, 3)]]
  rfl
theorem tots_rep (a s : Nat) : ∀ k : Nat, tots (List.replicate k (a, s)) = s * k
  | 0 => rfl
  | k + 1 => by rw [List.replicate_succ, tots_cons, tots_rep a s k, Nat.mul_succ, Nat.add_comm]
theorem sz_ones (y : Nat) : ∀ j : Nat, sz (List.replicate j (Itm.one y)) = j
  | 0 => rfl
  | j + 1 => by rw [List.replicate_succ, sz_cons, sz_ones y j]; exact Nat.add_comm 1 j
theorem endP_sz (x y j : Nat) : sz (endP x y j) = 265 + j := by
  unfold endP
  rw [sz_cons, sz_append, sz_ones]
  have : sz (List.replicate 4 (Itm.rep 66)) = 264 := rfl
  show 1 + (_ + j) = _
  omega
theorem end_tot (x y j b k : Nat) : tots (endS x y j b k) = tots (puts (endP x y j)) + 3 + k := by
  rw [endS_eq, tots_append, tots_cons, tots_rep]
  show _ + (3 + 1 * k) = _
  omega
theorem end_good {x y j b k : Nat} (hx : x < 7) (hy : y < 7) (hb : b < 2) : ∀ p ∈ endS x y j b k, p.1 < 2 ^ p.2 ∧ p.2 ≤ 6 := by
  intro p hp
  unfold endS at hp
  simp only [List.mem_append, flat1, List.mem_replicate, List.mem_singleton] at hp
  rcases hp with (((rfl | h) | ⟨_, rfl⟩) | rfl) | ⟨_, rfl⟩
  · exact ⟨by show x < 2 ^ 3; omega, by show 3 ≤ 6; decide⟩
  · have : p = (7, 3) ∨ p = (63, 6) ∨ p = (7, 3) ∨ p = (63, 6) ∨ p = (7, 3) ∨ p = (63, 6) ∨ p = (7, 3) ∨ p = (63, 6) := by simpa [List.replicate] using h
    rcases this with rfl | rfl | rfl | rfl | rfl | rfl | rfl | rfl <;> decide
  · exact ⟨by show y < 2 ^ 3; omega, by show 3 ≤ 6; decide⟩
  · decide
  · exact ⟨by show b < 2 ^ 1; omega, by show 1 ≤ 6; decide⟩
theorem end_rd {x y j b k ld : Nat} {R : List Nat} (hx : x < 7) (hy : y < 7) (hb : b < 2) (hj : j ≤ 6) (hk : k ≤ 5) (h8 : (ld + tots (endS x y j b k)) % 8 = 0) (row : RowOf (nums ((0, ld) :: endS x y j b k) 0) (tots ((0, ld) :: endS x y j b k)) R) : Rd R ld 0 none ∧ ld ≤ 8 * R.length := by
  have e1 : (0, ld) :: endS x y j b k = [(0, ld)] ++ puts (endP x y j) ++ ((7, 3) :: List.replicate k (b, 1)) := by rw [endS_eq]; simp
  have hT : Told [(0, ld)] ((7, 3) :: List.replicate k (b, 1)) (endP x y j) R := by
    refine ⟨by rw [← e1]; exact row, fun p hp => ?_, fun z hz => ?_⟩
    · rcases List.mem_cons.mp hp with rfl | hp
      · decide
      · rw [(List.mem_replicate.mp hp).2]
        show b < 2 ^ 1
        omega
    · unfold endP at hz
      rcases List.mem_cons.mp hz with rfl | hz
      · show x ≤ 6; omega
      · rcases List.mem_append.mp hz with hz | hz
        · rw [(List.mem_replicate.mp hz).2]; exact ⟨by decide, by decide⟩
        · rw [(List.mem_replicate.mp hz).2]; show y ≤ 6; omega
  have et : tots ([(0, ld)] : List (Nat × Nat)) = ld := by simp [tots]
  obtain ⟨p1, p2⟩ := hT.post (by decide)
  have hlen := row.len
  rw [tots_cons, end_tot] at hlen
  have h8' := h8
  rw [end_tot] at h8'
  rw [et] at p1 p2
  simp only [] at hlen
  have r := hT.rd0 (o := none) (fun A x' Z e => by
    have h1 := congrArg sz e
    rw [sz_append, sz_cons, endP_sz] at h1
    omega) (by
      rw [et, endP_sz]
      exact .end6 (by omega) p1 p2 (by omega))
  rw [et] at r
  exact ⟨r, by omega⟩
theorem BitsAt.row {C : Addr} {H : Hp} {p d : Addr} {N T : Nat} (h : BitsAt C H p d N T) : ∃ R, RowOf N T R := by
  obtain ⟨dx, B, r, k, _, _, br, hk⟩ := h
  by_cases e : k = 0
  · subst e; exact ⟨_, br.row0⟩
  · exact ⟨_, br.row1 (by omega) hk⟩
theorem take_snoc' {ps : List (Nat × Nat)} {i : Nat} {p : Nat × Nat} (h : ps[i]? = some p) : ps.take (i + 1) = ps.take i ++ [p] := by rw [List.take_add_one, h]; rfl
section
variable {P : Program} {w : World} {K : PySem.W.Frag} {mg : Str → Option Value} {base : Heap} {B D cP cN cT : Addr} {cs ds : List Addr}
/-! ### _law_ended -/
def spEnded (B : Addr) : Sp := fun vs H Q _ => ∃ (n : Nat), vs = [vN n] ∧ ∀ (t p d N T ld : Nat) (R : List Nat) (H' : Hp), H' t = some (.tup [.ref p, vN ld]) → BitsAt B H' p d N T → T ≤ 4000 → RowOf N T R → Rd R ld 0 none → ld ≤ 24 → ld ≤ 8 * R.length → Same H H' → Q (.ref t) H'
abbrev nEnded : List Str := ["_law_number", "_law_some", "_law_lead", "_law_bits", "_law_one", "_law_size"]
theorem scEnded : FnScope nEnded ["_law_number"] (defScope sEnded) := ⟨rfl, rfl, rfl, by decide +kernel, rfl, by decide +kernel, by decide +kernel⟩
theorem ndOS : (["_law_one", "_law_size"] : List Str).Nodup := by decide +kernel
theorem sum_tots : ∀ ps : List (Nat × Nat), (ps.map fun p => ((p.2 : Nat) : Int)).sum = ((tots ps : Nat) : Int)
  | [] => rfl
  | p :: ps => by rw [List.map_cons, List.sum_cons, sum_tots ps, tots_cons]; omega
theorem ok_ended {f : Addr} {fd : FuncData} (F : Fn K mg "_law_ended" sEnded ["_law_number"] f fd) (A0 : All K mg B D cP cN cT cs ds) : FnOk P w K mg base CX0 31 f fd ["_law_number"] (spEnded B) := by
  have Y := A0.Y
  have BB := Y.B
  obtain ⟨_, _, W⟩ := BB.R.whole
  obtain ⟨_, _, S⟩ := BB.needsize
  obtain ⟨_, _, O'⟩ := BB.ones
  obtain ⟨_, _, Pu⟩ := BB.put
  obtain ⟨_, _, M⟩ := BB.move
  obtain ⟨_, _, FI, bI, MI⟩ := BB.init
  have T := BB.R.X
  have TB := BB.T
  have GI := ok_binit (P := P) (w := w) (base := base) (mg := mg) FI TB
  have GU := ok_put (P := P) (w := w) (base := base) Pu.F S W O' M TB T
  refine F.F.ok scEnded (fun vs H Q E h => ?_) (fun cdv A outer st H vs Q E hr h => ?_)
  · obtain ⟨n, rfl, _⟩ := h
    rfl
  · obtain ⟨n, rfl, q⟩ := h
    have hr2 : Room 2 _ := hr.mono (by decide)
    have hr3 : Room 3 _ := hr.mono (by decide)
    have hn := hr.hd (by decide)
    refine ⟨_, pss_cons (ps_set (i := 1) scEnded.nd rfl (Or.inl rfl) (pe_op op_cat (pe_op op_cat (pe_op op_cat (pe_lst (pa_cons (pe_tup (pa_cons (pe_op op_mod (pv 0) pe_int) (pa_cons pe_int pa_nil))) pa_nil)) (pe_op op_rep (pe_lst (pa_cons (pe_tup (pa_cons pe_int (pa_cons pe_int pa_nil))) (pa_cons (pe_tup (pa_cons pe_int (pa_cons pe_int pa_nil))) pa_nil))) pe_int)) (pe_op op_rep (pe_lst (pa_cons (pe_tup (pa_cons (pe_op op_mod (pe_op op_fdiv (pv 0) pe_int) pe_int) (pa_cons pe_int pa_nil))) pa_nil)) (pe_op op_sub pe_int (pe_op op_mod (pe_op op_fdiv (pv 0) pe_int) pe_int)))) (pe_lst (pa_cons (pe_tup (pa_cons pe_int (pa_cons pe_int pa_nil))) pa_nil))))
      (pss_cons (ps_aug (i := 1) scEnded.nd rfl (Or.inl rfl) (pe_op op_rep (pe_lst (pa_cons (pe_tup (pa_cons (pe_op op_mod (pe_op op_fdiv (pv 0) pe_int) pe_int) (pa_cons pe_int pa_nil))) pa_nil)) (pe_op op_mod (pe_op op_fdiv (pv 0) pe_int) pe_int)) ip_lcat)
      (pss_cons (ps_set (i := 2) scEnded.nd rfl (Or.inl rfl) (pe_op op_mod (pe_un un_neg (pe_callB (call_sum hn) (by rfl) T.sum PyProof.Rows.boot_sum (pa_cons (pe_comp (N := ["_law_one", "_law_size"]) (g := gTup K 2 (gCons (gName 0) (gCons (gName 1) gNil))) (te := tVar 1) rfl rfl (by decide +kernel) (by decide +kernel) (by decide +kernel) (pi_list (pv 1)) (fun fp s H => pg_tup rfl (pgs_cons (pg_name (i := 0) ndOS rfl (Or.inl rfl)) (pgs_cons (pg_name (i := 1) ndOS rfl (Or.inl rfl)) pgs_nil))) (fun fp s H => pv 1)) pa_nil))) pe_int))
      (pss_cons (ps_set (i := 3) scEnded.nd rfl (Or.inl rfl) (pe_make0 MI GI hr2 (by rfl) BB.m bI .nil pass0))
      (pss_cons (ps_expr (pe_meth (pv 3) TB.cl Pu.m GU hr3 Pu.b .nil pass0 (pa_cons pe_int (pa_cons (pv 2) pa_nil))))
      (pss_cons (ps_for PassesOwn.never rfl (pi_list (pv 1)) (pg_tup rfl (pgs_cons (pg_name (i := 4) scEnded.nd rfl (Or.inl rfl)) (pgs_cons (pg_name (i := 5) scEnded.nd rfl (Or.inl rfl)) pgs_nil))) (pss_one (ps_expr (pe_meth (pv 3) TB.cl Pu.m GU hr3 Pu.b .nil pass0 (pa_cons (pv 4) (pa_cons (pv 5) pa_nil))))))
      (pss_one (ps_ret (pe_tup (pa_cons (pv 3) (pa_cons (pv 2) pa_nil)))))))))), ?_⟩
    have ex : ((n : Nat) : Int) % 7 = ((n % 7 : Nat) : Int) := by omega
    have ey : ((n : Nat) : Int) / 7 % 7 = ((n / 7 % 7 : Nat) : Int) := by omega
    have ej : (6 : Int) - ((n : Nat) : Int) / 49 % 2 = ((6 - n / 49 % 2 : Nat) : Int) := by omega
    have eb : ((n : Nat) : Int) / 98 % 2 = ((n / 98 % 2 : Nat) : Int) := by omega
    have ek : ((n : Nat) : Int) / 196 % 6 = ((n / 196 % 6 : Nat) : Int) := by omega
    have hx : n % 7 < 7 := Nat.mod_lt _ (by decide)
    have hy : n / 7 % 7 < 7 := Nat.mod_lt _ (by decide)
    have hb : n / 98 % 2 < 2 := Nat.mod_lt _ (by decide)
    have hj : 6 - n / 49 % 2 ≤ 6 := by omega
    have hk : n / 196 % 6 ≤ 5 := by omega
    -- the pairs
    refine seq_g fun R1 g1 => ?_
    refine ⟨_, rfl, _, _, rfl, rfl, (by show (0 : Int) < 7; decide), (by show 2 ≤ sizeLine; decide), fun tA ntA => ?_⟩
    try dsimp only
    rw [ex]
    generalize n % 7 = x at *
    have s1 := same_new (o := .tup [vN x, V.int 3]) ntA
    have hA : (upd H tA (.tup [vN x, V.int 3])) tA = some (.tup [vN x, V.int 3]) := upd_same
    generalize upd H tA (.tup [vN x, V.int 3]) = H1 at *
    have pA : Prs H1 [.ref tA] [(x, 3)] := Prs.one hA
    refine ⟨(by show 1 ≤ sizeLine; decide), fun lA nlA => ?_⟩
    have s2 := same_new (o := .lst [.ref tA]) nlA
    have hlA : (upd H1 lA (.lst [.ref tA])) lA = some (.lst [.ref tA]) := upd_same
    generalize upd H1 lA (.lst [.ref tA]) = H2 at *
    have pA := pA.same s2
    refine ⟨(by show 2 ≤ sizeLine; decide), fun t1 nt1 => ?_⟩
    have s3 := same_new (o := .tup [V.int 7, V.int 3]) nt1
    have ht1 : (upd H2 t1 (.tup [V.int 7, V.int 3])) t1 = some (.tup [V.int 7, V.int 3]) := upd_same
    have hlA := s3 _ _ hlA
    generalize upd H2 t1 (.tup [V.int 7, V.int 3]) = H3 at *
    have pA := pA.same s3
    refine ⟨(by show 2 ≤ sizeLine; decide), fun t2 nt2 => ?_⟩
    have s4 := same_new (o := .tup [V.int 63, V.int 6]) nt2
    have ht2 : (upd H3 t2 (.tup [V.int 63, V.int 6])) t2 = some (.tup [V.int 63, V.int 6]) := upd_same
    have hlA := s4 _ _ hlA
    have ht1 := s4 _ _ ht1
    generalize upd H3 t2 (.tup [V.int 63, V.int 6]) = H4 at *
    have pA := pA.same s4
    have pB : Prs H4 [.ref t1, .ref t2] [(7, 3), (63, 6)] := .cons ⟨t1, rfl, ht1⟩ (.cons ⟨t2, rfl, ht2⟩ .nil)
    refine ⟨(by show 2 ≤ sizeLine; decide), fun lB nlB => ?_⟩
    have s5 := same_new (o := .lst [.ref t1, .ref t2]) nlB
    have hlB : (upd H4 lB (.lst [.ref t1, .ref t2])) lB = some (.lst [.ref t1, .ref t2]) := upd_same
    have hlA := s5 _ _ hlA
    generalize upd H4 lB (.lst [.ref t1, .ref t2]) = H5 at *
    have pA := pA.same s5
    have pB := pB.same s5
    refine ⟨lB, 4, _, rfl, rfl, hlB, by decide, by decide, (by show 2 * 4 ≤ sizeLine; decide), fun l4 nl4 => ?_⟩
    have s05 := (s1.trans s2).trans ((s3.trans s4).trans s5)
    clear s1 s2 s3 s4 s5 ht1 ht2 hA
    have s6 := same_new (o := .lst (List.replicate (Int.toNat 4) [V.ref t1, V.ref t2]).flatten) nl4
    have hl4 : (upd H5 l4 (.lst (List.replicate (Int.toNat 4) [V.ref t1, V.ref t2]).flatten)) l4 = some (.lst (List.replicate (Int.toNat 4) [V.ref t1, V.ref t2]).flatten) := upd_same
    have hlA := s6 _ _ hlA
    generalize upd H5 l4 (.lst (List.replicate (Int.toNat 4) [V.ref t1, V.ref t2]).flatten) = H6 at *
    have pA := pA.same s6
    have pB : Prs H6 (List.replicate (Int.toNat 4) [V.ref t1, V.ref t2]).flatten (List.replicate 4 [(7, 3), (63, 6)]).flatten := (pB.same s6).rep 4
    refine ⟨lA, l4, _, _, rfl, rfl, hlA, hl4, (by show 1 + 8 ≤ sizeLine; decide), fun l5 nl5 => ?_⟩
    have pAB := Paired.app pA pB
    generalize [V.ref tA] ++ (List.replicate (Int.toNat 4) [V.ref t1, V.ref t2]).flatten = xs1 at *
    have l1 := Prs.len pAB
    have s7 := same_new (o := .lst xs1) nl5
    have hl5 : (upd H6 l5 (.lst xs1)) l5 = some (.lst xs1) := upd_same
    generalize upd H6 l5 (.lst xs1) = H7 at *
    have pAB := Prs.same s7 pAB
    clear pA pB hlA hl4 hlB
    refine ⟨_, rfl, _, _, rfl, rfl, ⟨by decide, by decide⟩, _, _, rfl, rfl, (by show (0 : Int) < 7; decide), (by show 2 ≤ sizeLine; decide), fun t3 nt3 => ?_⟩
    try dsimp only
    rw [ey]
    generalize n / 7 % 7 = y at *
    have s8 := same_new (o := .tup [vN y, V.int 3]) nt3
    have ht3 : (upd H7 t3 (.tup [vN y, V.int 3])) t3 = some (.tup [vN y, V.int 3]) := upd_same
    have hl5 := s8 _ _ hl5
    generalize upd H7 t3 (.tup [vN y, V.int 3]) = H8 at *
    have pAB := Prs.same s8 pAB
    have pC : Prs H8 [.ref t3] [(y, 3)] := Prs.one ht3
    refine ⟨(by show 1 ≤ sizeLine; decide), fun lC nlC => ?_⟩
    have s9 := same_new (o := .lst [.ref t3]) nlC
    have hlC : (upd H8 lC (.lst [.ref t3])) lC = some (.lst [.ref t3]) := upd_same
    have hl5 := s9 _ _ hl5
    generalize upd H8 lC (.lst [.ref t3]) = H9 at *
    have pAB := Prs.same s9 pAB
    have pC := Prs.same s9 pC
    refine ⟨_, rfl, _, _, rfl, rfl, ⟨by decide, by decide⟩, _, _, rfl, rfl, (by show (0 : Int) < 2; decide), _, _, rfl, rfl, ?_⟩
    try dsimp only
    rw [ej]
    generalize 6 - n / 49 % 2 = j at *
    refine ⟨lC, _, _, rfl, rfl, hlC, by omega, by omega, sl2000 (by rw [Int.toNat_natCast]; show 1 * j ≤ 2000; omega), fun l6 nl6 => ?_⟩
    try dsimp only
    rw [Int.toNat_natCast]
    have pC := Prs.rep pC j
    generalize (List.replicate j [V.ref t3]).flatten = xs2 at *
    have l2 := Prs.len pC
    rw [flat1, List.length_replicate] at l2
    have s10 := same_new (o := .lst xs2) nl6
    have hl6 : (upd H9 l6 (.lst xs2)) l6 = some (.lst xs2) := upd_same
    have hl5 := s10 _ _ hl5
    generalize upd H9 l6 (.lst xs2) = H10 at *
    have pAB := Prs.same s10 pAB
    have pC := Prs.same s10 pC
    refine ⟨l5, l6, _, _, rfl, rfl, hl5, hl6, sl2000 (by rw [l1, l2]; show 9 + j ≤ 2000; omega), fun l7 nl7 => ?_⟩
    have pABC := Paired.app pAB pC
    have l3 : (xs1 ++ xs2).length = 9 + j := by rw [List.length_append, l1, l2]; rfl
    generalize xs1 ++ xs2 = xs3 at *
    have s010 := s05.trans ((s6.trans s7).trans ((s8.trans s9).trans s10))
    clear s6 s7 s8 s9 s10 s05 pAB pC hl5 hl6 hlC ht3
    have s11 := same_new (o := .lst xs3) nl7
    have hl7 : (upd H10 l7 (.lst xs3)) l7 = some (.lst xs3) := upd_same
    generalize upd H10 l7 (.lst xs3) = H11 at *
    have pABC := Prs.same s11 pABC
    refine ⟨(by show 2 ≤ sizeLine; decide), fun t4 nt4 => ?_⟩
    have s12 := same_new (o := .tup [V.int 7, V.int 3]) nt4
    have ht4 : (upd H11 t4 (.tup [V.int 7, V.int 3])) t4 = some (.tup [V.int 7, V.int 3]) := upd_same
    have hl7 := s12 _ _ hl7
    generalize upd H11 t4 (.tup [V.int 7, V.int 3]) = H12 at *
    have pABC := Prs.same s12 pABC
    have pD : Prs H12 [.ref t4] [(7, 3)] := Prs.one ht4
    refine ⟨(by show 1 ≤ sizeLine; decide), fun lD nlD => ?_⟩
    have s13 := same_new (o := .lst [.ref t4]) nlD
    have hlD : (upd H12 lD (.lst [.ref t4])) lD = some (.lst [.ref t4]) := upd_same
    have hl7 := s13 _ _ hl7
    generalize upd H12 lD (.lst [.ref t4]) = H13 at *
    have pD4 := Paired.app (Prs.same s13 pABC) (Prs.same s13 pD)
    refine ⟨l7, lD, _, _, rfl, rfl, hl7, hlD, sl2000 (by rw [l3]; show 9 + j + 1 ≤ 2000; omega), fun l8 nl8 => g1 _ _ ?_⟩
    clear g1
    have l4' : (xs3 ++ [V.ref t4]).length = 10 + j := by rw [List.length_append, l3]; show 9 + j + 1 = _; omega
    generalize xs3 ++ [V.ref t4] = xs4 at *
    have s14 := same_new (o := .lst xs4) nl8
    have hl8 : (upd H13 l8 (.lst xs4)) l8 = some (.lst xs4) := upd_same
    generalize upd H13 l8 (.lst xs4) = H14 at *
    have pD4 := Prs.same s14 pD4
    have s013 := s010.trans ((s11.trans s12).trans s13)
    have nH8 : H l8 = none := none_of s013 nl8
    have s014 := s013.trans s14
    clear s010 s11 s12 s13 s14 s013 pABC pD hl7 hlD ht4
    refine seq_g fun R1 g1 => ?_
    refine ⟨_, rfl, _, rfl, _, _, rfl, rfl, ⟨by decide, by decide⟩, _, _, rfl, rfl, (by show (0 : Int) < 2; decide), (by show 2 ≤ sizeLine; decide), fun t5 nt5 => ?_⟩
    try dsimp only
    rw [eb]
    generalize n / 98 % 2 = b at *
    have s15 := same_new (o := .tup [vN b, V.int 1]) nt5
    have ht5 : (upd H14 t5 (.tup [vN b, V.int 1])) t5 = some (.tup [vN b, V.int 1]) := upd_same
    have hl8 := s15 _ _ hl8
    generalize upd H14 t5 (.tup [vN b, V.int 1]) = H15 at *
    have pD4 := Prs.same s15 pD4
    have pE : Prs H15 [.ref t5] [(b, 1)] := Prs.one ht5
    refine ⟨(by show 1 ≤ sizeLine; decide), fun lE nlE => ?_⟩
    have s16 := same_new (o := .lst [.ref t5]) nlE
    have hlE : (upd H15 lE (.lst [.ref t5])) lE = some (.lst [.ref t5]) := upd_same
    have hl8 := s16 _ _ hl8
    generalize upd H15 lE (.lst [.ref t5]) = H16 at *
    have pD4 := Prs.same s16 pD4
    have pE := Prs.same s16 pE
    refine ⟨_, rfl, _, _, rfl, rfl, ⟨by decide, by decide⟩, _, _, rfl, rfl, (by show (0 : Int) < 6; decide), ?_⟩
    try dsimp only
    rw [ek]
    generalize n / 196 % 6 = k at *
    refine ⟨lE, _, _, rfl, rfl, hlE, by omega, by omega, sl2000 (by rw [Int.toNat_natCast]; show 1 * k ≤ 2000; omega), fun l9 nl9 => ?_⟩
    try dsimp only
    rw [Int.toNat_natCast]
    have pE := Prs.rep pE k
    generalize (List.replicate k [V.ref t5]).flatten = xs5 at *
    have l5' := Prs.len pE
    rw [flat1, List.length_replicate] at l5'
    have s17 := same_new (o := .lst xs5) nl9
    have hl9 : (upd H16 l9 (.lst xs5)) l9 = some (.lst xs5) := upd_same
    have hl8 := s17 _ _ hl8
    generalize upd H16 l9 (.lst xs5) = H17 at *
    have pF := Paired.app (Prs.same s17 pD4) (Prs.same s17 pE)
    refine ⟨l8, l9, _, _, rfl, rfl, hl8, hl9, sl2000 (by rw [l4', l5']; omega), g1 _ _ ?_⟩
    clear g1
    have l6' : (xs4 ++ xs5).length = 10 + j + k := by rw [List.length_append, l4', l5']
    generalize xs4 ++ xs5 = Xs at *
    have pG := Prs.upd (ws := Xs) pF hl8
    have hl10 : (upd H17 l8 (.lst Xs)) l8 = some (.lst Xs) := upd_same
    have s018 : Same H (upd H17 l8 (.lst Xs)) := fun c o e => by
      rw [upd_ne (ne_of_none e nH8)]
      exact s17 _ _ (s16 _ _ (s15 _ _ (s014 _ _ e)))
    generalize upd H17 l8 (.lst Xs) = H18 at *
    clear pF pD4 pE s014 s15 s16 s17 hl8 hl9 hlE ht5
    have eS : endS x y j b k = [(x, 3)] ++ (List.replicate 4 [(7, 3), (63, 6)]).flatten ++ (List.replicate j [(y, 3)]).flatten ++ [(7, 3)] ++ (List.replicate k [(b, 1)]).flatten := rfl
    have pG : Prs H18 Xs (endS x y j b k) := by rw [eS]; exact pG
    have hgood := end_good (j := j) (k := k) hx hy hb
    have hrd := fun ld R => end_rd (ld := ld) (R := R) hx hy hb hj hk
    have htot : tots (endS x y j b k) ≤ 200 := by
      rw [end_tot]
      have h1 := cost_le (endP x y j)
      have h2 : (endP x y j).length = 5 + j := by unfold endP; simp; omega
      omega
    clear eS
    generalize endS x y j b k = ps at *
    clear l1 l2 l3 l4' l5'
    have lps := pG.len
    -- so many bits ahead
    refine seq_g fun R1 g1 => ?_
    refine ⟨_, rfl, l8, rfl, ⟨_, SqL.of hl10⟩, fun lc nlc => ?_⟩
    refine comp_li (g := gTup K 2 (gCons (gName 0) (gCons (gName 1) gNil))) (te := tVar 1) (K := K) (a := l8) (l := lc) (xs := Xs) (n := 2) (fun i ys H2 => ys = (ps.take i).map (fun p => vN p.2) ∧ H2 lc = some (.lst ys) ∧ Same H18 H2)
      ⟨rfl, upd_same, same_new nlc⟩ (fun i ys H2 _ ⟨_, _, sm⟩ => SqL.of (sm _ _ hl10)) ?_ ?_ ?_ ?_
    · rintro i v ys σ H2 hv ⟨rfl, hlc, sm⟩ hσ
      obtain ⟨pr, t, hpr, rfl, ht⟩ := pG.get hv
      have hi : i < ps.length := (List.getElem?_eq_some_iff.mp hpr).1
      obtain ⟨u0, u1, rfl⟩ : ∃ u0 u1, σ = [u0, u1] := match σ, hσ with | [u0, u1], _ => ⟨u0, u1, rfl⟩
      refine ⟨t, _, rfl, SqT.of (sm _ _ ht), rfl, _, _, rfl, _, _, rfl, rfl, ?_⟩
      refine ⟨_, rfl, hlc, sl2000' (by rw [List.length_map, List.length_take]; omega), rfl, ?_, upd_same, fun c' o e => ?_⟩
      · rw [take_snoc' hpr, List.map_append]; rfl
      · rw [upd_ne (ne_of_none e nlc)]; exact sm _ _ e
    rotate_left
    · rintro v σ H3 A' B' hAB ⟨a', xs, e, hq, hl', v', r, e2, v2, r2, e3, e4, h⟩
      exact ⟨a', xs, e, hq, hl', v', r, e2, v2, r2, e3, e4, hAB _ _ h⟩
    · exact fun σ H A B h ⟨v, e1, z⟩ => ⟨v, e1, h _ _ z⟩
    rintro ys H19 ⟨rfl, hlc, sm⟩
    rw [lps, List.take_length] at hlc
    have emap : ps.map (fun p => vN p.2) = (ps.map fun p => ((p.2 : Nat) : Int)).map V.int := by rw [List.map_map]; rfl
    refine ⟨lc, ps.map (fun p => ((p.2 : Nat) : Int)), rfl, by rw [← emap]; exact SqL.of hlc, _, rfl, _, _, rfl, rfl, (by show (0 : Int) < 8; decide), g1 _ _ ?_⟩
    clear g1
    obtain ⟨ld, eld, h7, h8⟩ : ∃ ld : Nat, -(ps.map fun p => ((p.2 : Nat) : Int)).sum % 8 = ((ld : Nat) : Int) ∧ ld ≤ 7 ∧ (ld + tots ps) % 8 = 0 := by
      rw [sum_tots]
      exact ⟨(-((tots ps : Nat) : Int) % 8).toNat, by omega, by omega, by omega⟩
    try dsimp only
    rw [eld]
    have hl19 := sm _ _ hl10
    have pH := pG.same sm
    have s019 := s018.trans sm
    clear sm hlc hl10 pG s018 emap eld
    -- the row of bits
    refine seq_g fun R1 g1 => ?_
    intro p dx np ndx nex
    have hx0 : (upd (upd H19 dx (.own p)) p (.ins B dx [])) p = some (.ins B dx []) := upd_same
    have s0 : Same H19 (upd (upd H19 dx (.own p)) p (.ins B dx [])) := fun c o e => by
      rw [upd_ne (ne_of_none e np), upd_ne (ne_of_none e ndx)]; exact e
    refine ⟨p, dx, rfl, hx0, fun d H20 nd hB20 kp20 => ⟨rfl, g1 _ _ ?_⟩⟩
    clear g1
    have nd' : H19 d = none := none_of s0 nd
    have s1920 : Same H19 H20 := fun c o e => kp20 _ _ (s0 _ _ e) (ne_of_none e np)
    clear hx0 s0 kp20 nd
    have noM : ∀ {m : Str} {r k : Nat}, ¬ m = "rest_size" → ¬ m = "rest" → ¬ m = "whole_bytes" → (fW d r k).lookup m = none := fun h1 h2 h3 => fW_no _ _ _ h1 h2 h3
    refine seq_g fun R1 g1 => ?_
    obtain ⟨dx1, r1, k1, hp1⟩ := hB20.ob
    refine ⟨_, rfl, p, dx1, _, rfl, hp1, noM (by decide +kernel) (by decide +kernel) (by decide +kernel), _, rfl, p, d, 0, 0, 0, ld, rfl, hB20, by decide, by omega, Nat.pow_pos (by decide), fun H21 hB21 kp21 => g1 _ _ ?_⟩
    clear g1
    have s1921 : Same H19 H21 := fun c o e => kp21 _ _ (s1920 _ _ e) (ne_of_none e np) (ne_of_none e nd')
    clear kp21 hp1 hB20 s1920
    -- all of them
    refine seq_g fun R1 g1 => ?_
    refine ⟨_, rfl, l8, rfl, ⟨_, SqL.of (s1921 _ _ hl19)⟩, for_list (D := ⟨_, _, fun _ _ => False, fun _ _ => False⟩) (K := K) (a := l8) (xs := Xs) (fun i σ H6 => ∃ v4 v5 : Option V, σ = [some (vN n), some (.ref l8), some (vN ld), some (.ref p), v4, v5] ∧ BitsAt B H6 p d (nums ((0, ld) :: ps.take i) 0) (tots ((0, ld) :: ps.take i)) ∧ Same H19 H6)
      ⟨none, none, rfl, by
        have e1 : tots ((0, ld) :: ps.take 0) = 0 + ld := by rw [tots_cons]; simp [tots]
        rw [e1]
        exact hB21, s1921⟩ (fun i σ H6 _ ⟨_, _, _, _, sm⟩ => SqL.of (sm _ _ hl19)) ?_ ?_⟩
    · rintro i z σ H6 hi ⟨v4, v5, rfl, hB6, s6⟩
      obtain ⟨pr, t, hpr, rfl, ht⟩ := pH.get hi
      obtain ⟨g1', g2'⟩ := hgood pr (List.mem_of_getElem? hpr)
      have htk : tots (ps.take i) ≤ tots ps := by
        have := congrArg tots (List.take_append_drop i ps)
        rw [tots_append] at this
        omega
      refine ⟨t, _, rfl, SqT.of (s6 _ _ ht), rfl, _, _, rfl, _, _, rfl, rfl, ?_⟩
      obtain ⟨dx6, r6, k6, hp6⟩ := hB6.ob
      refine ⟨_, rfl, p, dx6, _, rfl, hp6, noM (by decide +kernel) (by decide +kernel) (by decide +kernel), _, rfl, _, rfl, p, d, _, _, pr.1, pr.2, rfl, hB6, by rw [tots_cons]; show ld + _ ≤ 4000; omega, by omega, g1', fun H7 hB7 kp7 => ⟨_, _, rfl, ?_, fun c o e => kp7 _ _ (s6 _ _ e) (ne_of_none e np) (ne_of_none e nd')⟩⟩
      rw [take_snoc' hpr, ← List.cons_append, nums_append, tots_append]
      have e2 : tots [pr] = pr.2 := by simp [tots]
      rw [e2]
      exact hB7
    · rintro σ H6 ⟨v4, v5, rfl, hB6, s6⟩
      rw [lps, List.take_length] at hB6
      refine g1 _ _ ⟨_, rfl, _, rfl, (by show 2 ≤ sizeLine; decide), fun t nt => ?_⟩
      obtain ⟨R, hR⟩ := hB6.row
      obtain ⟨r1, r2⟩ := hrd ld R h8 hR
      have s7 := same_new (o := .tup [.ref p, vN ld]) nt
      exact q t p d _ _ ld R _ upd_same (hB6.same s7) (by rw [tots_cons]; show ld + _ ≤ 4000; omega) hR r1 (by omega) r2 ((s019.trans s6).trans s7)
end
end K12

set_option Elab.async false
set_option linter.all false
set_option maxRecDepth 100000
set_option maxHeartbeats 4000000
namespace K12
open PySem L2 QQ W13 W12 BP
seal PE PA PS PSs PT PW PG PI
section
variable {P : Program} {w : World} {K : PySem.W.Frag} {mg : Str → Option Value} {base : Heap} {B D cP cN cT : Addr} {cs ds : List Addr}
theorem three_at (z : Nat) (hz : z < 3) : ∃ v : Nat, v < 8 ∧ atI [V.int 1, V.int 6, V.int 7] ((z : Nat) : Int) = some (vN v) := by
  match z, hz with
  | 0, _ => exact ⟨1, by decide, atI_nat rfl⟩
  | 1, _ => exact ⟨6, by decide, atI_nat rfl⟩
  | 2, _ => exact ⟨7, by decide, atI_nat rfl⟩
/-! ### the law -/
def spLaw (K : PySem.W.Frag) : Sp := fun vs H Q _ => ∃ (a : Addr) (ns : List Int), vs = [.ref a] ∧ SqL K H a (ns.map V.int) ∧ ∀ H' : Hp, Q (.bl true) H'
abbrev nLaw : List Str := ["_law_script", "_law_table_here", "_law_k", "_law_number", "_law_bits", "_law_many", "_law_lead", "_law_turn"]
theorem scLaw : FnScope nLaw ["_law_script"] (defScope sLaw) := ⟨rfl, rfl, rfl, by decide +kernel, rfl, by decide +kernel, by decide +kernel⟩
theorem ok_law {f : Addr} {fd : FuncData} (F : Fun K "law" "law" sLaw f fd) (A0 : All K mg B D cP cN cT cs ds) : FnOk P w K mg base CX0 36 f fd ["_law_script"] (spLaw K) := by
  have Y := A0.Y
  have BB := Y.B
  obtain ⟨_, _, W⟩ := BB.R.whole
  obtain ⟨_, _, S⟩ := BB.needsize
  obtain ⟨_, _, O'⟩ := BB.ones
  obtain ⟨_, _, Pu⟩ := BB.put
  obtain ⟨_, _, M⟩ := BB.move
  obtain ⟨_, _, FI, bI, MI⟩ := BB.init
  have T := BB.R.X
  have TB := BB.T
  have GI := ok_binit (P := P) (w := w) (base := base) (mg := mg) FI TB
  have GU := ok_put (P := P) (w := w) (base := base) Pu.F S W O' M TB T
  obtain ⟨_, _, Ce⟩ := A0.cell
  obtain ⟨_, _, Mi⟩ := A0.mixed
  obtain ⟨_, _, Ta⟩ := A0.table
  obtain ⟨_, _, Pr⟩ := A0.putright
  obtain ⟨_, _, To⟩ := A0.toomany
  obtain ⟨_, _, En⟩ := A0.ended
  obtain ⟨_, _, Tr⟩ := A0.takingright
  obtain ⟨_, _, Cu⟩ := A0.cut
  have GC := ok_cell (P := P) (w := w) (base := base) Ce T
  have GX := ok_mixed (P := P) (w := w) (base := base) Mi
  have GA := ok_table (P := P) (w := w) (base := base) Ta Ce Mi T
  have GP := ok_putright (P := P) (w := w) (base := base) Pr A0
  have GO := ok_toomany (P := P) (w := w) (base := base) To A0
  have GE := ok_ended (P := P) (w := w) (base := base) En A0
  have GT := ok_takingright (P := P) (w := w) (base := base) Tr A0
  have GK := ok_cut (P := P) (w := w) (base := base) Cu A0
  refine F.ok scLaw (fun vs H Q E h => ?_) (fun cdv A outer st H vs Q E hr h => ?_)
  · obtain ⟨a, ns, rfl, _⟩ := h
    rfl
  · obtain ⟨a, ns, rfl, hS, q⟩ := h
    have hr1 : Room 1 _ := hr.mono (by decide)
    have hr2 : Room 2 _ := hr.mono (by decide)
    have hr3 : Room 3 _ := hr.mono (by decide)
    have hr31 : Room 31 _ := hr.mono (by decide)
    have hr33 : Room 33 _ := hr.mono (by decide)
    refine ⟨_, pss_cons (ps_set (i := 1) scLaw.nd rfl (Or.inl rfl) (pe_call GA hr2 (by rfl) Ta.m Ta.F.kp Ta.b .nil pass0 (pa_cons (pv 0) (pa_cons pe_int pa_nil))))
      (pss_cons (ps_for PassesOwn.never rfl (pi_range1 (by rfl) T.range (pa_cons pe_int pa_nil)) (pg_name (i := 2) scLaw.nd rfl (Or.inl rfl)) (pss_one (ps_if (pt_not (pt_val (pe_call GP hr (by rfl) Pr.m Pr.F.kp Pr.b .nil pass0 (pa_cons (pv 1) (pa_cons (pe_call GX hr1 (by rfl) Mi.m Mi.F.kp Mi.b .nil pass0 (pa_cons (pe_call GC hr1 (by rfl) Ce.m Ce.F.kp Ce.b .nil pass0 (pa_cons (pv 0) (pa_cons (pe_op op_add pe_int (pv 2)) pa_nil))) (pa_cons (pv 2) pa_nil))) pa_nil))))) (pss_one (ps_ret pe_bl)) pss_nil)))
      (pss_cons (ps_set (i := 3) scLaw.nd rfl (Or.inl rfl) (pe_call GX hr1 (by rfl) Mi.m Mi.F.kp Mi.b .nil pass0 (pa_cons (pe_call GC hr1 (by rfl) Ce.m Ce.F.kp Ce.b .nil pass0 (pa_cons (pv 0) (pa_cons pe_int pa_nil))) (pa_cons pe_int pa_nil))))
      (pss_cons (ps_if (pt_not (pt_val (pe_call GT hr (by rfl) Tr.m Tr.F.kp Tr.b .nil pass0 (pa_cons (pe_call GO hr31 (by rfl) To.m To.F.kp To.b .nil pass0 (pa_cons (pv 3) pa_nil)) (pa_cons (pe_lst (pa_cons pe_str pa_nil)) (pa_cons pe_int pa_nil)))))) (pss_one (ps_ret pe_bl)) pss_nil)
      (pss_cons (ps_if (pt_not (pt_val (pe_call GT hr (by rfl) Tr.m Tr.F.kp Tr.b .nil pass0 (pa_cons (pe_call GK hr33 (by rfl) Cu.m Cu.F.kp Cu.b .nil pass0 (pa_cons (pv 1) (pa_cons (pe_op op_fdiv (pv 3) pe_int) pa_nil))) (pa_cons (pe_lst (pa_cons pe_str pa_nil)) (pa_cons pe_int pa_nil)))))) (pss_one (ps_ret pe_bl)) pss_nil)
      (pss_cons (ps_asg (pe_call GE hr31 (by rfl) En.m En.F.kp En.b .nil pass0 (pa_cons (pe_op op_fdiv (pv 3) pe_int) pa_nil)) (pg_tup rfl (pgs_cons (pg_name (i := 4) scLaw.nd rfl (Or.inl rfl)) (pgs_cons (pg_name (i := 5) scLaw.nd rfl (Or.inl rfl)) pgs_nil))))
      (pss_cons (ps_if (pt_not (pt_val (pe_call GT hr (by rfl) Tr.m Tr.F.kp Tr.b .nil pass0 (pa_cons (pv 4) (pa_cons (pe_lst (pa_cons pe_str pa_nil)) (pa_cons (pv 5) pa_nil)))))) (pss_one (ps_ret pe_bl)) pss_nil)
      (pss_cons (ps_set (i := 6) scLaw.nd rfl (Or.inl rfl) (pe_make0 MI GI hr2 (by rfl) BB.m bI .nil pass0))
      (pss_cons (ps_expr (pe_meth (pv 6) TB.cl Pu.m GU hr3 Pu.b .nil pass0 (pa_cons (pe_op op_mod (pv 3) pe_int) (pa_cons pe_int pa_nil))))
      (pss_cons (ps_for PassesOwn.never rfl (pi_range1 (by rfl) T.range (pa_cons (pe_op op_add pe_int (pe_op op_mod (pe_op op_fdiv (pv 3) pe_int) pe_int)) pa_nil)) (pg_name (i := 7) scLaw.nd rfl (Or.inl rfl)) (pss_one (ps_expr (pe_meth (pv 6) TB.cl Pu.m GU hr3 Pu.b .nil pass0 (pa_cons (pe_ix ix_list (pe_lst (pa_cons pe_int (pa_cons pe_int (pa_cons pe_int pa_nil)))) (pe_op op_add (pe_op op_mod (pv 7) pe_int) (pe_op op_mod (pe_op op_fdiv (pv 3) pe_int) pe_int)) (fun _ _ => rfl)) (pa_cons pe_int pa_nil))))))
      (pss_one (ps_ret (pe_call GT hr (by rfl) Tr.m Tr.F.kp Tr.b .nil pass0 (pa_cons (pv 6) (pa_cons (pe_lst (pa_cons pe_str pa_nil)) (pa_cons pe_int pa_nil))))))))))))))), ?_⟩
    -- a table
    refine seq_g fun R1 g1 => ?_
    refine ⟨_, rfl, a, ns, 2, rfl, hS, by decide, fun l L H1 s1 nl hl h272 h6 => g1 _ _ ?_⟩
    clear g1
    -- things that are none
    refine seq_g fun R1 g1 => ?_
    refine ⟨3, rfl, by decide, by decide, ?_⟩
    refine for_range (D := ⟨_, _, fun _ _ => False, fun _ _ => False⟩) (lo := 0) (n := 3) (fun j σ H2 => ∃ v2 : Option V, σ = [some (.ref a), some (.ref l), v2, none, none, none, none, none] ∧ Same H1 H2) ⟨none, rfl, fun c o e => e⟩ ?_ ?_
    · rintro j σ H2 hj ⟨v2, rfl, s2⟩
      have e0 : (0 : Int) + ((j : Nat) : Int) = ((j : Nat) : Int) := by omega
      have e14 : (14 : Int) + ((j : Nat) : Int) = ((14 + j : Nat) : Int) := by omega
      rw [e0]
      refine ⟨_, rfl, _, rfl, _, rfl, _, _, rfl, rfl, ?_⟩
      try dsimp only
      rw [e14]
      refine ⟨a, ns, 14 + j, rfl, (s1.trans s2).seq hS, _, rfl, _, ((j : Nat) : Int), rfl, by omega, by omega, l, L, _, rfl, s2 _ _ hl, h272, h6, fun H3 s3 => ⟨_, rfl, iteF ⟨_, rfl, s2.trans s3⟩⟩⟩
    rintro σ H2 ⟨v2, rfl, s2⟩
    refine g1 _ _ ?_
    clear g1
    -- a number
    refine seq_g fun R1 g1 => ?_
    refine ⟨_, rfl, a, ns, 0, rfl, (s1.trans s2).seq hS, _, 1, rfl, by decide, by decide, g1 _ _ ?_⟩
    clear g1
    generalize mixN (ns.getD 0 0) 1 = n
    have hl2 := s2 _ _ hl
    clear s1 nl hl s2 hS
    -- too many
    refine seq_g fun R1 g1 => ?_
    refine ⟨_, rfl, n, rfl, fun p d Pp H3 np nd hB s23 ok hsz hpre ht => ⟨(by show 1 ≤ sizeLine; decide), fun l4 n4 => ?_⟩⟩
    have s34 := same_new (o := .lst [.str (Str.ofString "table")]) n4
    have hl4 : (upd H3 l4 (.lst [.str (Str.ofString "table")])) l4 = some (.lst [.str (Str.ofString "table")]) := upd_same
    have hB4 := hB.same s34
    have hlT := s34 _ _ (s23 _ _ hl2)
    generalize upd H3 l4 (.lst [.str (Str.ofString "table")]) = H4 at *
    obtain ⟨R, hR⟩ := hB4.row
    have hTold : Told [] [] Pp R := ⟨by simpa using hR, fun z hz => by simp at hz, ok⟩
    have hrd := hTold.rd0 (o := some (sz Pp, 0 + tots (puts Pp))) hpre (.done (by omega))
    refine ⟨p, d, l4, 0, _, _, R, some (sz Pp, 0 + tots (puts Pp)), rfl, hB4, by omega, hR, hl4, hrd, fun c t' e => by cases e; exact hsz, by decide, Nat.zero_le _, fun H5 s45 => ⟨_, rfl, iteF (g1 _ _ ?_)⟩⟩
    clear g1
    have hl5 := s45 _ _ hlT
    clear s23 s34 s45 hB hB4 hl4 hlT hl2 hTold hrd hR ok hsz hpre ht np nd n4
    -- cut
    have e7 : ((n : Nat) : Int) / 7 = ((n / 7 : Nat) : Int) := by omega
    refine seq_g fun R1 g1 => ?_
    refine ⟨_, rfl, _, rfl, _, _, rfl, rfl, ⟨by decide, by decide⟩, ?_⟩
    try dsimp only
    rw [e7]
    refine ⟨l, L, n / 7, rfl, hl5, h272, h6, fun p d N T' R H6 np nd hB hR s56 hrd hT => ⟨(by show 1 ≤ sizeLine; decide), fun l7 n7 => ?_⟩⟩
    have s67 := same_new (o := .lst [.str (Str.ofString "bits")]) n7
    have hl7 : (upd H6 l7 (.lst [.str (Str.ofString "bits")])) l7 = some (.lst [.str (Str.ofString "bits")]) := upd_same
    have hB7 := hB.same s67
    generalize upd H6 l7 (.lst [.str (Str.ofString "bits")]) = H7 at *
    refine ⟨p, d, l7, 0, _, _, R, none, rfl, hB7, hT, hR, hl7, hrd, fun c t' e => (by cases e), by decide, Nat.zero_le _, fun H8 s78 => ⟨_, rfl, iteF (g1 _ _ ?_)⟩⟩
    clear g1 s56 s67 s78 hB hB7 hl7 hl5 hrd hR hT np nd n7
    -- ended
    have e11 : ((n : Nat) : Int) / 11 = ((n / 11 : Nat) : Int) := by omega
    refine seq_g fun R1 g1 => ?_
    refine ⟨_, rfl, _, _, rfl, rfl, ⟨by decide, by decide⟩, ?_⟩
    try dsimp only
    rw [e11]
    refine ⟨n / 11, rfl, fun t p d N T' ld R H9 ht hB hT hR hrd h24 hle s89 => ⟨t, _, rfl, SqT.of ht, rfl, _, _, rfl, _, _, rfl, rfl, g1 _ _ ?_⟩⟩
    clear g1
    refine seq_g fun R1 g1 => ?_
    refine ⟨_, rfl, (by show 1 ≤ sizeLine; decide), fun l7 n7 => ?_⟩
    have s67 := same_new (o := .lst [.str (Str.ofString "bits")]) n7
    have hl7 : (upd H9 l7 (.lst [.str (Str.ofString "bits")])) l7 = some (.lst [.str (Str.ofString "bits")]) := upd_same
    have hB7 := hB.same s67
    generalize upd H9 l7 (.lst [.str (Str.ofString "bits")]) = H10 at *
    refine ⟨_, rfl, p, d, l7, ld, _, _, R, none, rfl, hB7, hT, hR, hl7, hrd, fun c t' e => (by cases e), h24, hle, fun H11 s1011 => ⟨_, rfl, iteF (g1 _ _ ?_)⟩⟩
    clear g1 s89 s67 s1011 hB hB7 hl7 hrd hR hT ht n7 h24 hle H1 H2 H3 H4 H5 H6 H7 H8 H9 H10
    -- a few
    refine seq_g fun R1 g1 => ?_
    intro y dy ny ndy ney
    have hy0 : (upd (upd H11 dy (.own y)) y (.ins B dy [])) y = some (.ins B dy []) := upd_same
    refine ⟨y, dy, rfl, hy0, fun e4 H12 ne4 hB12 kp12 => ⟨rfl, g1 _ _ ?_⟩⟩
    clear g1 kp12 hy0
    have noM : ∀ {m : Str} {r k : Nat}, ¬ m = "rest_size" → ¬ m = "rest" → ¬ m = "whole_bytes" → (fW e4 r k).lookup m = none := fun h1 h2 h3 => fW_no _ _ _ h1 h2 h3
    have e32 : ((n : Nat) : Int) % 32 = ((n % 32 : Nat) : Int) := by omega
    refine seq_g fun R1 g1 => ?_
    obtain ⟨dx1, r1, k1, hp1⟩ := hB12.ob
    refine ⟨_, rfl, y, dx1, _, rfl, hp1, noM (by decide +kernel) (by decide +kernel) (by decide +kernel), _, rfl, _, _, rfl, rfl, (by show (0 : Int) < 32; decide), ?_⟩
    try dsimp only
    rw [e32]
    refine ⟨y, e4, 0, 0, n % 32, 5, rfl, hB12, by decide, by decide, (by show n % 32 < 2 ^ 5; omega), fun H13 hB13 kp13 => g1 _ _ ?_⟩
    clear g1 kp13 hp1 hB12
    refine seq_g fun R1 g1 => ?_
    have ec : (1 : Int) + ((n : Nat) : Int) / 32 % 9 = ((1 + n / 32 % 9 : Nat) : Int) := by omega
    have hc9 : 1 + n / 32 % 9 ≤ 9 := by omega
    refine ⟨_, rfl, _, _, rfl, rfl, ⟨by decide, by decide⟩, _, _, rfl, rfl, (by show (0 : Int) < 9; decide), _, _, rfl, rfl, ?_⟩
    try dsimp only
    rw [ec]
    generalize 1 + n / 32 % 9 = c at *
    refine ⟨((c : Nat) : Int), rfl, by omega, by omega, ?_⟩
    rw [Int.toNat_natCast]
    refine for_range (D := ⟨_, _, fun _ _ => False, fun _ _ => False⟩) (lo := 0) (n := c) (fun j σ H14 => ∃ (v7 : Option V) (N : Nat), σ = [some (.ref a), some (.ref l), v2, some (vN n), some (.ref p), some (vN ld), some (.ref y), v7] ∧ BitsAt B H14 y e4 N (5 + 3 * j)) ⟨none, _, rfl, hB13⟩ ?_ ?_
    · rintro j σ H14 hj ⟨v7, N', rfl, hB14⟩
      have e0 : (0 : Int) + ((j : Nat) : Int) = ((j : Nat) : Int) := by omega
      rw [e0]
      have ei : ((j : Nat) : Int) % 2 + ((n : Nat) : Int) / 1024 % 2 = ((j % 2 + n / 1024 % 2 : Nat) : Int) := by omega
      obtain ⟨v, hv8, hat⟩ := three_at (j % 2 + n / 1024 % 2) (by omega)
      obtain ⟨dx14, r14, k14, hp14⟩ := hB14.ob
      refine ⟨_, rfl, y, dx14, _, rfl, hp14, noM (by decide +kernel) (by decide +kernel) (by decide +kernel), (by show 3 ≤ sizeLine; decide), fun l15 n15 => ?_⟩
      have s15 := same_new (o := .lst [V.int 1, V.int 6, V.int 7]) n15
      refine ⟨_, rfl, _, _, rfl, rfl, (by show (0 : Int) < 2; decide), _, rfl, _, _, rfl, rfl, ⟨by decide, by decide⟩, _, _, rfl, rfl, (by show (0 : Int) < 2; decide), _, _, rfl, rfl, ?_⟩
      try dsimp only
      rw [ei]
      refine ⟨l15, _, _, _, rfl, rfl, SqL.of upd_same, hat, y, e4, _, _, v, 3, rfl, hB14.same s15, by omega, by decide, hv8, fun H16 hB16 kp16 => ⟨_, N' * 2 ^ 3 + v, rfl, ?_⟩⟩
      rw [show 5 + 3 * (j + 1) = 5 + 3 * j + 3 by omega]
      exact hB16
    rintro σ H14 ⟨v7, N', rfl, hB14⟩
    refine g1 _ _ ?_
    clear g1
    refine ⟨_, rfl, (by show 1 ≤ sizeLine; decide), fun l15 n15 => ?_⟩
    have hB15 := hB14.same (same_new (o := .lst [.str (Str.ofString "bits")]) n15)
    obtain ⟨R', hR'⟩ := hB15.row
    have hlen := hR'.len
    exact ⟨y, e4, l15, 5, _, _, R', none, rfl, hB15, by omega, hR', upd_same, Rd.few _ 5 0 (Nat.le_refl _) (by omega) (by omega), fun c t' e => (by cases e), by decide, by omega, fun H16 _ => q H16⟩
end
end K12

set_option Elab.async false
set_option linter.all false
set_option maxRecDepth 100000
set_option maxHeartbeats 8000000
namespace K12
open PySem L2 QQ
section
variable {K : PySem.W.Frag} {mg : Str → Option Value} {h : Heap}
abbrev Bn (x qu : Str) (st : Stmt) (ps : List Str) : Prop := ∀ (us : List Value), us.length = ps.length → ∀ (kV dc pm : Value) (an : Option Addr) (cd ct : Value), bindArgs (PySem.W.fnOf x qu (defArgs st) (defBody st) (defScope st) .none kV dc pm an cd ct) ⟨us, []⟩ = pure (ps.zip us)
def TD (K : PySem.W.Frag) (x : Str) (st : Stmt) : Prop := ∃ (f : Addr) (oc : Value) (od an : Option Addr) (sl : Array (Option Value)) (kV dc pm cd ct : Value), PySem.W.nsIn K mainGlobals x = some (some (.ref f)) ∧ K.lookup f = some ⟨oc, od, .func (PySem.W.fnOf x x (defArgs st) (defBody st) (defScope st) .none kV dc pm an cd ct), sl⟩ ∧ PySem.W.codeIn K cd x = true ∧ PySem.W.keepIn K (.ref f) = true
theorem TD.i {x : Str} {st : Stmt} {f : Addr} {oc : Value} {od an : Option Addr} {sl : Array (Option Value)} {kV dc pm cd ct : Value} (a : PySem.W.nsIn K mainGlobals x = some (some (.ref f))) (l : K.lookup f = some ⟨oc, od, .func (PySem.W.fnOf x x (defArgs st) (defBody st) (defScope st) .none kV dc pm an cd ct), sl⟩) (c : PySem.W.codeIn K cd x = true) (k : PySem.W.keepIn K (.ref f) = true) : TD K x st := ⟨f, oc, od, an, sl, kV, dc, pm, cd, ct, a, l, c, k⟩
theorem TD.fu {x : Str} {st : Stmt} {ps : List Str} (d : TD K x st) (X : K.In h) (G : h.Ns mainGlobals mg) (b : Bn x x st ps) : ∃ (f : Addr) (fd : FuncData), Fun K x x st f fd ∧ mg x = some (.ref f) ∧ Binds K fd ps [] := by
  obtain ⟨f, oc, od, an, sl, kV, dc, pm, cd, ct, a, l, c, k⟩ := d
  have F := fun_mk l c k
  exact ⟨_, _, F, PySem.W.mg_of X G a, .all fun us hl => b us hl _ _ _ _ _ _⟩
theorem TD.fn {x : Str} {st : Stmt} {ps : List Str} (d : TD K x st) (X : K.In h) (G : h.Ns mainGlobals mg) (b : Bn x x st ps) : ∃ f fd, Fn K mg x st ps f fd := by
  obtain ⟨f, fd, F, m, b⟩ := d.fu X G b
  exact ⟨f, fd, F, m, b⟩
def MD (K : PySem.W.Frag) (C : Addr) (x qu : Str) (st : Stmt) : Prop := ∃ (f : Addr) (oc : Value) (od an : Option Addr) (sl : Array (Option Value)) (kV dc pm cd ct : Value), PySem.W.findIn K (.ref C) x = some (some (.ref f)) ∧ PySem.W.isFn K (.ref f) = true ∧ K.lookup f = some ⟨oc, od, .func (PySem.W.fnOf x qu (defArgs st) (defBody st) (defScope st) .none kV dc pm an cd ct), sl⟩ ∧ PySem.W.codeIn K cd qu = true ∧ PySem.W.keepIn K (.ref f) = true
theorem MD.i {C : Addr} {x qu : Str} {st : Stmt} {f : Addr} {oc : Value} {od an : Option Addr} {sl : Array (Option Value)} {kV dc pm cd ct : Value} (a : PySem.W.findIn K (.ref C) x = some (some (.ref f))) (i : PySem.W.isFn K (.ref f) = true) (l : K.lookup f = some ⟨oc, od, .func (PySem.W.fnOf x qu (defArgs st) (defBody st) (defScope st) .none kV dc pm an cd ct), sl⟩) (c : PySem.W.codeIn K cd qu = true) (k : PySem.W.keepIn K (.ref f) = true) : MD K C x qu st := ⟨f, oc, od, an, sl, kV, dc, pm, cd, ct, a, i, l, c, k⟩
theorem MD.me {C : Addr} {x qu : Str} {st : Stmt} {ps : List Str} (d : MD K C x qu st) (b : Bn x qu st ps) : ∃ f fd, Me K C x qu st ps f fd := by
  obtain ⟨f, oc, od, an, sl, kV, dc, pm, cd, ct, a, i, l, c, k⟩ := d
  exact ⟨_, _, fun_mk l c k, ⟨a, i, k⟩, .all fun us hl => b us hl _ _ _ _ _ _⟩
theorem MD.ini {C : Addr} {qu : Str} {st : Stmt} {ps : List Str} (d : MD K C "__init__" qu st) (mk : PySem.W.makesIn K C = true) (kc : PySem.W.keepIn K (.ref C) = true) (b : Bn "__init__" qu st ps) : ∃ f fd, Fun K "__init__" qu st f fd ∧ Binds K fd ps [] ∧ Mk K C f := by
  obtain ⟨f, oc, od, an, sl, kV, dc, pm, cd, ct, a, i, l, c, k⟩ := d
  exact ⟨_, _, fun_mk l c k, .all fun us hl => b us hl _ _ _ _ _ _, ⟨mk, a, i, kc⟩⟩
theorem m1 {P : List Value → Prop} (h : ∀ a, P [a]) : ∀ us : List Value, us.length = 1 → P us := fun us hl => match us, hl with | [a], _ => h a
theorem m0 {P : List Value → Prop} (h : P []) : ∀ us : List Value, us.length = 0 → P us := fun us hl => match us, hl with | [], _ => h
theorem m2 {P : List Value → Prop} (h : ∀ a b, P [a, b]) : ∀ us : List Value, us.length = 2 → P us := fun us hl => match us, hl with | [a, b], _ => h a b
theorem m3 {P : List Value → Prop} (h : ∀ a b c, P [a, b, c]) : ∀ us : List Value, us.length = 3 → P us := fun us hl => match us, hl with | [a, b, c], _ => h a b c
theorem m4 {P : List Value → Prop} (h : ∀ a b c d, P [a, b, c, d]) : ∀ us : List Value, us.length = 4 → P us := fun us hl => match us, hl with | [a, b, c, d], _ => h a b c d
end
theorem paired_at {α β : Type} {F : α → β → Prop} {xs : List α} {ys : List β} (h : Paired F xs ys) : ∀ (i : Nat) (x : α) (y : β), xs[i]? = some x → ys[i]? = some y → F x y := by
  induction h with
  | nil => intro i x y h1; cases h1
  | cons r _ ih =>
    intro i x y h1 h2
    cases i with
    | zero => cases h1; cases h2; exact r
    | succ i => exact ih i x y h1 h2
theorem all_mk {l : PySem.W.OpenLaw} {w : World} {K : PySem.W.Frag} {h : Heap} {mg : Str → Option Value} {fa B D cP cN cT : Addr} (X : K.In h) (G : h.Ns mainGlobals mg) (hfa : mg "law" = some (.ref fa))
    {f1 : Addr} {od1 an1 : Option Addr} {sl1 : Array (Option Value)} {oc1 kV1 dc1 pm1 cd1 ct1 : Value}
    {t1000 : Tok}
    {t1001 : Tok}
    {t1002 : Tok}
    {t1003 : Tok}
    {t1004 : Tok}
    {t1005 : Tok}
    {t1006 : Tok}
    {e0 : Addr} {e1 : Addr} {e2 : Addr} {e3 : Addr} {e4 : Addr} {e5 : Addr} {e6 : Addr} {e7 : Addr} {e8 : Addr} {e9 : Addr} {e10 : Addr} {e11 : Addr} {e12 : Addr} {e13 : Addr} {e14 : Addr} {e15 : Addr}
    (a1 : PySem.W.nsIn K mainGlobals "law" = some (some (.ref f1)))
    (l1 : K.lookup f1 = some ⟨oc1, od1, .func (PySem.W.fnOf "law" "law" (defArgs sLaw) (defBody sLaw) (defScope sLaw) .none kV1 dc1 pm1 an1 cd1 ct1), sl1⟩)
    (c1 : PySem.W.codeIn K cd1 "law" = true)
    (k1 : PySem.W.keepIn K (.ref f1) = true)
    (z_isinstance : PySem.W.nsIn K mainGlobals "isinstance" = some none)
    (z_bool : PySem.W.nsIn K mainGlobals "bool" = some none)
    (z_int : PySem.W.nsIn K mainGlobals "int" = some none)
    (z_list : PySem.W.nsIn K mainGlobals "list" = some none)
    (z_len : PySem.W.nsIn K mainGlobals "len" = some none)
    (z_range : PySem.W.nsIn K mainGlobals "range" = some none)
    (z_min : PySem.W.nsIn K mainGlobals "min" = some none)
    (z_max : PySem.W.nsIn K mainGlobals "max" = some none)
    (z_sum : PySem.W.nsIn K mainGlobals "sum" = some none)
    (z_tuple : PySem.W.nsIn K mainGlobals "tuple" = some none)
    (z_repr : PySem.W.nsIn K mainGlobals "repr" = some none)
    (z_ValueError : PySem.W.nsIn K mainGlobals "ValueError" = some none)
    (gv0 : PySem.W.nsIn K mainGlobals "GREATEST" = some (some (.int 255 t1000)))
    (gv1 : PySem.W.nsIn K mainGlobals "MOST_SIZE" = some (some (.int 24 t1001)))
    (gv2 : PySem.W.nsIn K mainGlobals "MOST_BITS" = some (some (.int 6 t1002)))
    (gv3 : PySem.W.nsIn K mainGlobals "MANY" = some (some (.int 272 t1003)))
    (gv4 : PySem.W.nsIn K mainGlobals "AGAIN" = some (some (.int 7 t1004)))
    (gv5 : PySem.W.nsIn K mainGlobals "LEAST_AGAIN" = some (some (.int 3 t1005)))
    (gv6 : PySem.W.nsIn K mainGlobals "MOST_AGAIN" = some (some (.int 66 t1006)))
    (d2 : TD K "is_number" sIsNumb)
    (d3 : TD K "is_whole" sWhole)
    (d4 : TD K "are_whole" sAreWhole)
    (d5 : TD K "is_row" sIsRow)
    (pgB : PySem.W.plainGet K B Str.empty = true)
    (hdB : PySem.W.hasDictIn K B = true)
    (poB : PySem.W.plainOver K B = true)
    (saB : PySem.W.findIn K (.ref B) "__setattr__" = some (some (.builtin "object.__setattr__")))
    (nB_whole_bytes : PySem.W.findIn K (.ref B) "whole_bytes" = some none)
    (nB_rest : PySem.W.findIn K (.ref B) "rest" = some none)
    (nB_rest_size : PySem.W.findIn K (.ref B) "rest_size" = some none)
    (gB : PySem.W.nsIn K mainGlobals "BitRow" = some (some (.ref B)))
    (d6 : TD K "need_size" sNeedSize)
    (d7 : TD K "ones" sOnes)
    (d8 : MD K B "__init__" "BitRow.__init__" sBInit)
    (mkB : PySem.W.makesIn K B = true)
    (kcB : PySem.W.keepIn K (.ref B) = true)
    (d9 : MD K B "put" "BitRow.put" sPut)
    (d10 : MD K B "move_byte" "BitRow.move_byte" sMove)
    (d11 : MD K B "many" "BitRow.many" sMany)
    (d12 : MD K B "row" "BitRow.row" sRowOut)
    (pgD : PySem.W.plainGet K D Str.empty = true)
    (hdD : PySem.W.hasDictIn K D = true)
    (poD : PySem.W.plainOver K D = true)
    (saD : PySem.W.findIn K (.ref D) "__setattr__" = some (some (.builtin "object.__setattr__")))
    (nD_held : PySem.W.findIn K (.ref D) "held" = some none)
    (nD_taken : PySem.W.findIn K (.ref D) "taken" = some none)
    (gD : PySem.W.nsIn K mainGlobals "BitReader" = some (some (.ref D)))
    (d13 : TD K "need_row" sNeedRow)
    (d14 : TD K "bits_at" sBitsAt)
    (d15 : MD K D "__init__" "BitReader.__init__" sRInit)
    (mkD : PySem.W.makesIn K D = true)
    (kcD : PySem.W.keepIn K (.ref D) = true)
    (d16 : MD K D "take" "BitReader.take" sTake)
    (d17 : MD K D "left" "BitReader.left" sLeft)
    (d18 : MD K D "go" "BitReader.go" sGo)
    (d19 : MD K D "place" "BitReader.place" sPlace)
    (gcP : PySem.W.nsIn K mainGlobals "PressError" = some (some (.ref cP)))
    (xcP : PySem.W.excIn K cP bmV "ValueError.__new__" = true)
    (gcN : PySem.W.nsIn K mainGlobals "NoBits" = some (some (.ref cN)))
    (xcN : PySem.W.excIn K cN bmV "ValueError.__new__" = true)
    (gcT : PySem.W.nsIn K mainGlobals "BadTable" = some (some (.ref cT)))
    (xcT : PySem.W.excIn K cT bmV "ValueError.__new__" = true)
    (yacN : PySem.W.findIn K (.ref cN) "__getattribute__" = some (some (.builtin "BaseException.__getattribute__")))
    (yhcN : PySem.W.findIn K (.ref cN) "__getattr__" = some none)
    (ybcN : PySem.W.hasDictIn K cN = true)
    (yccN : PySem.W.findIn K (.ref cN) "__class__" = some (some (.builtin "object.__class__")))
    (ydcN : PySem.W.mroIn K cN (.type "object") = some true)
    (yicN : PySem.W.mroIn K cN (.type "BaseException") = some true)
    (yecN : (cN == cP) = false)
    (yfcN : PySem.W.mroIn K cN (.ref cP) = some true)
    (ygcN : PySem.W.kitOne K (.ref cN) (.type "ValueError") = some true)
    (qcNcN : PySem.W.kitOne K (.ref cN) (.ref cN) = some true)
    (qcNcT : PySem.W.kitOne K (.ref cN) (.ref cT) = some false)
    (yacT : PySem.W.findIn K (.ref cT) "__getattribute__" = some (some (.builtin "BaseException.__getattribute__")))
    (yhcT : PySem.W.findIn K (.ref cT) "__getattr__" = some none)
    (ybcT : PySem.W.hasDictIn K cT = true)
    (yccT : PySem.W.findIn K (.ref cT) "__class__" = some (some (.builtin "object.__class__")))
    (ydcT : PySem.W.mroIn K cT (.type "object") = some true)
    (yicT : PySem.W.mroIn K cT (.type "BaseException") = some true)
    (yecT : (cT == cP) = false)
    (yfcT : PySem.W.mroIn K cT (.ref cP) = some true)
    (ygcT : PySem.W.kitOne K (.ref cT) (.type "ValueError") = some true)
    (qcTcN : PySem.W.kitOne K (.ref cT) (.ref cN) = some false)
    (qcTcT : PySem.W.kitOne K (.ref cT) (.ref cT) = some true)
    (ge0 : PySem.W.nsIn K mainGlobals "BadBits" = some (some (.ref e0)))
    (ge1 : PySem.W.nsIn K mainGlobals "BadBody" = some (some (.ref e1)))
    (ge2 : PySem.W.nsIn K mainGlobals "BadCheck" = some (some (.ref e2)))
    (ge3 : PySem.W.nsIn K mainGlobals "BadCode" = some (some (.ref e3)))
    (ge4 : PySem.W.nsIn K mainGlobals "BadHead" = some (some (.ref e4)))
    (ge5 : PySem.W.nsIn K mainGlobals "BadLengths" = some (some (.ref e5)))
    (ge6 : PySem.W.nsIn K mainGlobals "BadLetters" = some (some (.ref e6)))
    (ge7 : PySem.W.nsIn K mainGlobals "BadMark" = some (some (.ref e7)))
    (ge8 : PySem.W.nsIn K mainGlobals "BadPieces" = some (some (.ref e8)))
    (ge9 : PySem.W.nsIn K mainGlobals "BadRow" = some (some (.ref e9)))
    (ge10 : PySem.W.nsIn K mainGlobals "BadShares" = some (some (.ref e10)))
    (ge11 : PySem.W.nsIn K mainGlobals "BadTail" = some (some (.ref e11)))
    (ge12 : PySem.W.nsIn K mainGlobals "Behind" = some (some (.ref e12)))
    (ge13 : PySem.W.nsIn K mainGlobals "Cut" = some (some (.ref e13)))
    (ge14 : PySem.W.nsIn K mainGlobals "NoRange" = some (some (.ref e14)))
    (ge15 : PySem.W.nsIn K mainGlobals "Over" = some (some (.ref e15)))
    (q_cN0 : PySem.W.kitOne K (.ref cN) (.ref e0) = some false)
    (q_cN1 : PySem.W.kitOne K (.ref cN) (.ref e1) = some false)
    (q_cN2 : PySem.W.kitOne K (.ref cN) (.ref e2) = some false)
    (q_cN3 : PySem.W.kitOne K (.ref cN) (.ref e3) = some false)
    (q_cN4 : PySem.W.kitOne K (.ref cN) (.ref e4) = some false)
    (q_cN5 : PySem.W.kitOne K (.ref cN) (.ref e5) = some false)
    (q_cN6 : PySem.W.kitOne K (.ref cN) (.ref e6) = some false)
    (q_cN7 : PySem.W.kitOne K (.ref cN) (.ref e7) = some false)
    (q_cN8 : PySem.W.kitOne K (.ref cN) (.ref e8) = some false)
    (q_cN9 : PySem.W.kitOne K (.ref cN) (.ref e9) = some false)
    (q_cN10 : PySem.W.kitOne K (.ref cN) (.ref e10) = some false)
    (q_cN11 : PySem.W.kitOne K (.ref cN) (.ref e11) = some false)
    (q_cN12 : PySem.W.kitOne K (.ref cN) (.ref e12) = some false)
    (q_cN13 : PySem.W.kitOne K (.ref cN) (.ref e13) = some false)
    (q_cN14 : PySem.W.kitOne K (.ref cN) (.ref e14) = some false)
    (q_cN15 : PySem.W.kitOne K (.ref cN) (.ref e15) = some false)
    (q_cT0 : PySem.W.kitOne K (.ref cT) (.ref e0) = some false)
    (q_cT1 : PySem.W.kitOne K (.ref cT) (.ref e1) = some false)
    (q_cT2 : PySem.W.kitOne K (.ref cT) (.ref e2) = some false)
    (q_cT3 : PySem.W.kitOne K (.ref cT) (.ref e3) = some false)
    (q_cT4 : PySem.W.kitOne K (.ref cT) (.ref e4) = some false)
    (q_cT5 : PySem.W.kitOne K (.ref cT) (.ref e5) = some false)
    (q_cT6 : PySem.W.kitOne K (.ref cT) (.ref e6) = some false)
    (q_cT7 : PySem.W.kitOne K (.ref cT) (.ref e7) = some false)
    (q_cT8 : PySem.W.kitOne K (.ref cT) (.ref e8) = some false)
    (q_cT9 : PySem.W.kitOne K (.ref cT) (.ref e9) = some false)
    (q_cT10 : PySem.W.kitOne K (.ref cT) (.ref e10) = some false)
    (q_cT11 : PySem.W.kitOne K (.ref cT) (.ref e11) = some false)
    (q_cT12 : PySem.W.kitOne K (.ref cT) (.ref e12) = some false)
    (q_cT13 : PySem.W.kitOne K (.ref cT) (.ref e13) = some false)
    (q_cT14 : PySem.W.kitOne K (.ref cT) (.ref e14) = some false)
    (q_cT15 : PySem.W.kitOne K (.ref cT) (.ref e15) = some false)
    (yg : PySem.W.specialIn K (.builtin "object.__class__") "__get__" = some (some (.builtin "getset_descriptor.__get__")))
    (yt : PySem.W.takesIn K (.builtin "object.__class__") = some true)
    (d20 : TD K "need_table" sNeedTable)
    (d21 : TD K "again_from" sAgain)
    (d22 : TD K "put_table" sPutTable)
    (d23 : TD K "lengths_in_items" sItems)
    (d24 : TD K "take_table" sTakeTable)
    (d25 : TD K "_law_word" sWord)
    (d26 : TD K "_law_cell_at" sCellAt)
    (d27 : TD K "_law_mixed" sMixed)
    (d28 : TD K "_law_table" sTable)
    (d29 : TD K "_law_put" sLPut)
    (d30 : TD K "_law_taken" sLTaken)
    (d31 : TD K "_law_odd" sOdd)
    (d32 : TD K "_law_put_right" sPutRight)
    (d33 : TD K "_law_too_many" sTooMany)
    (d34 : TD K "_law_ended" sEnded)
    (d35 : TD K "_law_taking_right" sTakingRight)
    (d36 : TD K "_law_cut" sCut) :
    ∃ fd : FuncData, (∀ (s : Shared) (v : Value), BindsTo s fd ⟨[v], []⟩ [("_law_script", v)]) ∧ ∀ base : Heap, K.In base → base.Ns mainGlobals mg → FnOk l.prog w K mg base CX0 36 fa fd ["_law_script"] (spLaw K) := by
  have e := hfa.symm.trans (PySem.W.mg_of X G a1)
  cases e
  have F1 := fun_mk (st := sLaw) l1 c1 k1
  have R0 : K12.Txt K mg := ⟨PySem.W.mg_none_of X G z_isinstance, PySem.W.mg_none_of X G z_bool, PySem.W.mg_none_of X G z_int, PySem.W.mg_none_of X G z_list, PySem.W.mg_none_of X G z_len, PySem.W.mg_none_of X G z_range, PySem.W.mg_none_of X G z_min, PySem.W.mg_none_of X G z_max, PySem.W.mg_none_of X G z_sum, PySem.W.mg_none_of X G z_tuple, PySem.W.mg_none_of X G z_repr, PySem.W.mg_none_of X G z_ValueError, ⟨t1000, PySem.W.mg_of X G gv0⟩, ⟨t1001, PySem.W.mg_of X G gv1⟩, ⟨t1002, PySem.W.mg_of X G gv2⟩, ⟨t1003, PySem.W.mg_of X G gv3⟩, ⟨t1004, PySem.W.mg_of X G gv4⟩, ⟨t1005, PySem.W.mg_of X G gv5⟩, ⟨t1006, PySem.W.mg_of X G gv6⟩, d2.fu X G (m1 fun _ _ _ _ _ _ _ => rfl)⟩
  have R1 : K12.Rows K mg := ⟨R0, d3.fn X G (m3 fun _ _ _ _ _ _ _ _ _ => rfl), d4.fn X G (m3 fun _ _ _ _ _ _ _ _ _ => rfl), d5.fn X G (m1 fun _ _ _ _ _ _ _ => rfl)⟩
  have R2 : K12.CB K mg B := ⟨⟨pgB, hdB, poB, saB⟩, nB_whole_bytes, nB_rest, nB_rest_size⟩
  have R3 : K12.Bts K mg B := ⟨R1, R2, PySem.W.mg_of X G gB, d6.fn X G (m1 fun _ _ _ _ _ _ _ => rfl), d7.fn X G (m1 fun _ _ _ _ _ _ _ => rfl), d8.ini mkB kcB (m1 fun _ _ _ _ _ _ _ => rfl), d9.me (m3 fun _ _ _ _ _ _ _ _ _ => rfl), d10.me (m1 fun _ _ _ _ _ _ _ => rfl), d11.me (m1 fun _ _ _ _ _ _ _ => rfl), d12.me (m1 fun _ _ _ _ _ _ _ => rfl)⟩
  have R4 : K12.CRd K mg D := ⟨⟨pgD, hdD, poD, saD⟩, nD_held, nD_taken⟩
  have R5 : K12.Rdr K mg D := ⟨R1, R4, PySem.W.mg_of X G gD, d13.fn X G (m1 fun _ _ _ _ _ _ _ => rfl), d6.fn X G (m1 fun _ _ _ _ _ _ _ => rfl), d7.fn X G (m1 fun _ _ _ _ _ _ _ => rfl), d14.fn X G (m3 fun _ _ _ _ _ _ _ _ _ => rfl), d15.ini mkD kcD (m2 fun _ _ _ _ _ _ _ _ => rfl), d16.me (m2 fun _ _ _ _ _ _ _ _ => rfl), d17.me (m1 fun _ _ _ _ _ _ _ => rfl), d18.me (m2 fun _ _ _ _ _ _ _ _ => rfl), d19.me (m1 fun _ _ _ _ _ _ _ => rfl)⟩
  have pmA : Paired (fun (x : Str) (c : Addr) => mg x = some (.ref c)) names1 [e0, e1, e2, e3, e4, e5, e6, e7, e8] := (.cons (PySem.W.mg_of X G ge0) (.cons (PySem.W.mg_of X G ge1) (.cons (PySem.W.mg_of X G ge2) (.cons (PySem.W.mg_of X G ge3) (.cons (PySem.W.mg_of X G ge4) (.cons (PySem.W.mg_of X G ge5) (.cons (PySem.W.mg_of X G ge6) (.cons (PySem.W.mg_of X G ge7) (.cons (PySem.W.mg_of X G ge8) .nil)))))))))
  have pmB : Paired (fun (x : Str) (c : Addr) => mg x = some (.ref c)) names2 [e9, e10, e11, e12, e13, e14, e15] := (.cons (PySem.W.mg_of X G ge9) (.cons (PySem.W.mg_of X G ge10) (.cons (PySem.W.mg_of X G ge11) (.cons (PySem.W.mg_of X G ge12) (.cons (PySem.W.mg_of X G ge13) (.cons (PySem.W.mg_of X G ge14) (.cons (PySem.W.mg_of X G ge15) .nil)))))))
  have kcN : ∀ c ∈ [e0, e1, e2, e3, e4, e5, e6, e7, e8] ++ [e9, e10, e11, e12, e13, e14, e15], PySem.W.kitOne K (.ref cN) (.ref c) = some false := fun c hc => by
    simp only [List.cons_append, List.nil_append, List.mem_cons, List.not_mem_nil, or_false] at hc
    rcases hc with rfl | rfl | rfl | rfl | rfl | rfl | rfl | rfl | rfl | rfl | rfl | rfl | rfl | rfl | rfl | rfl
    · exact q_cN0
    · exact q_cN1
    · exact q_cN2
    · exact q_cN3
    · exact q_cN4
    · exact q_cN5
    · exact q_cN6
    · exact q_cN7
    · exact q_cN8
    · exact q_cN9
    · exact q_cN10
    · exact q_cN11
    · exact q_cN12
    · exact q_cN13
    · exact q_cN14
    · exact q_cN15
  have kcT : ∀ c ∈ [e0, e1, e2, e3, e4, e5, e6, e7, e8] ++ [e9, e10, e11, e12, e13, e14, e15], PySem.W.kitOne K (.ref cT) (.ref c) = some false := fun c hc => by
    simp only [List.cons_append, List.nil_append, List.mem_cons, List.not_mem_nil, or_false] at hc
    rcases hc with rfl | rfl | rfl | rfl | rfl | rfl | rfl | rfl | rfl | rfl | rfl | rfl | rfl | rfl | rfl | rfl
    · exact q_cT0
    · exact q_cT1
    · exact q_cT2
    · exact q_cT3
    · exact q_cT4
    · exact q_cT5
    · exact q_cT6
    · exact q_cT7
    · exact q_cT8
    · exact q_cT9
    · exact q_cT10
    · exact q_cT11
    · exact q_cT12
    · exact q_cT13
    · exact q_cT14
    · exact q_cT15
  have Z : Ers K mg cP cN cT [e0, e1, e2, e3, e4, e5, e6, e7, e8] [e9, e10, e11, e12, e13, e14, e15] := ⟨PySem.W.mg_of X G gcP, xcP, PySem.W.mg_of X G gcN, PySem.W.mg_of X G gcT, xcN, xcT, ⟨yacN, yhcN, ybcN, yccN, yg, yt, ydcN, yicN⟩, ⟨yacT, yhcT, ybcT, yccT, yg, yt, ydcT, yicT⟩, beq_eq_false_iff_ne.mp yecN, beq_eq_false_iff_ne.mp yecT, yfcN, yfcT, ygcN, ygcT, qcNcN, qcNcT, qcTcN, qcTcT, ⟨_, _, _, _, _, _, _, _, _, rfl⟩, ⟨_, _, _, _, _, _, _, rfl⟩, fun i x c h1 h2 => paired_at pmA i x c h1 h2, fun i x c h1 h2 => paired_at pmB i x c h1 h2, kcN, kcT⟩
  have R7 : K12.Tbs K mg B D cP cN cT [e0, e1, e2, e3, e4, e5, e6, e7, e8] [e9, e10, e11, e12, e13, e14, e15] := ⟨R3, R5, Z, d20.fn X G (m1 fun _ _ _ _ _ _ _ => rfl), d21.fn X G (m3 fun _ _ _ _ _ _ _ _ _ => rfl), d22.fn X G (m2 fun _ _ _ _ _ _ _ _ => rfl), d23.fn X G (m1 fun _ _ _ _ _ _ _ => rfl), d24.fn X G (m1 fun _ _ _ _ _ _ _ => rfl), d25.fn X G (m1 fun _ _ _ _ _ _ _ => rfl)⟩
  have R8 : K12.All K mg B D cP cN cT [e0, e1, e2, e3, e4, e5, e6, e7, e8] [e9, e10, e11, e12, e13, e14, e15] := ⟨R7, d26.fn X G (m2 fun _ _ _ _ _ _ _ _ => rfl), d27.fn X G (m2 fun _ _ _ _ _ _ _ _ => rfl), d28.fn X G (m2 fun _ _ _ _ _ _ _ _ => rfl), d29.fn X G (m2 fun _ _ _ _ _ _ _ _ => rfl), d30.fn X G (m1 fun _ _ _ _ _ _ _ => rfl), d31.fn X G (m2 fun _ _ _ _ _ _ _ _ => rfl), d32.fn X G (m2 fun _ _ _ _ _ _ _ _ => rfl), d33.fn X G (m1 fun _ _ _ _ _ _ _ => rfl), d34.fn X G (m1 fun _ _ _ _ _ _ _ => rfl), d35.fn X G (m3 fun _ _ _ _ _ _ _ _ _ => rfl), d36.fn X G (m2 fun _ _ _ _ _ _ _ _ => rfl)⟩
  exact ⟨PySem.W.fnOf "law" "law" (defArgs sLaw) (defBody sLaw) (defScope sLaw) .none kV1 dc1 pm1 an1 cd1 ct1, fun s v => .of_eq rfl, fun base _ _ => ok_law F1 R8⟩
theorem walk {l : PySem.W.OpenLaw} {q : Program} {loose : List Str} {XP : (Str → Option Value) → Heap → Prop} {YP : World → Heap → Prop} {d : DefRec} {K : Params → PySem.W.Frag} (hn : l.most = some 63) (hdf : d.params.defaults = [])
    (hY : ∀ (w : World) (h : Heap), YP w h → (K w.params).In h)
    (F : ∀ (w : World) (mg : Str → Option Value) (fa : Addr) (h : Heap), (K w.params).In h → h.Ns mainGlobals mg → mg d.name = some (.ref fa) →
      ∃ fd : FuncData, (∀ (s : Shared) (u : Value), BindsTo s fd ⟨[u], []⟩ [("_law_script", u)]) ∧ ∀ base : Heap, (K w.params).In base → base.Ns mainGlobals mg → FnOk l.prog w (K w.params) mg base CX0 36 fa fd ["_law_script"] (spLaw (K w.params))) :
    PySem.W.WalkO q loose XP YP l.row.toRowW d [] (fun f vs => PySem.call f vs) :=
  L2.walk_of (n := 63) (k := 36) (x := "_law_script") (CX := fun _ => CX0) (sp := fun w => spLaw (K w.params)) hn (by decide) hdf ⟨fun _ => rfl, by decide, by decide, rfl⟩ hY F (fun _ _ a ns hl _ hS => ⟨a, ns, rfl, hS, fun _ => rfl⟩) fun _ _ _ _ _ z => z
end K12
open PySem PySem.W PyProof.Rows
namespace PySem.W.Fast
def tw3213509724761304545:=0
def tw5042358872970116912:=0
def tw9728209415081367697:=0
def tw8526730919821938488:=0
def tw1072046900521057909:=0
def tw14614576930018676661:=0
def tw9592972595347675114:=0
def tw5968236620650929437:=0
def tw16738502188961928179:=0
def tw11980986046982617035:=0
def tw1582838954798834631:=0
def tw6983824924545061028:=0
def tw5478973682343188789:=0
def tw8202486008354110075:=0
def tw15313734452204366067:=0
def tw4430786015128501169:=0
def tw7087095888147058163:=0
def tw746478086315910833:=0
def tw10661098911494628984:=0
def tw6864126189741981948:=0
def tw18371519079078763156:=0
def tw5767003015275303406:=0
def tw3107739640836895832:=0
def tw3831517983118013861:=0
def tw12452237029247991073:=0
def tw62159063853305297:=0
def tw12447404435331955309:=0
def tw15687975814639663738:=0
def tw1754813870305817997:=0
def tw8242046972457522369:=0
def tw2238238327936200616:=0
def tw14057883157465148894:=0
def tw8661154467057765740:=0
def tw6142412685391359132:=0
def tw4010565809053027706:=0
def tw9280250403109163438:=0
def tw3234621249585439191:=0
def tw16453549143637160486:=0
def tw18150610102746631726:=0
def tw11831232876482541673:=0
def tw1024102028655964008:=0
def tw2496779127654071693:=0
def tw9815795354312956318:=0
def tw3724325625120388706:=0
def tw17003331515458613270:=0
def tw5128220792576348263:=0
def tw3286899215793127027:=0
def tw3557666263884647528:=0
def tw2236367738084940242:=0
def tw14263098897399223246:=0
def tw4473946733055044300:=0
def tw15022071483492367540:=0
def tw60132206860947636:=0
def tw9724413496060615145:=0
def tw9677600538403590471:=0
def tw17391638817917565622:=0
def tw3672413945161139619:=0
def tw13390313940716415718:=0
def tw10603178188970209586:=0
def tw9978232455658457465:=0
def tw18355909932766915662:=0
def tw10574032744390286454:=0
def tw2471269404020819783:=0
def tw9330780295299199427:=0
def tw10512254757720081931:=0
def tw17222904330107775826:=0
def tw3376628345668301784:=0
def tw9595263161707905170:=0
def tw1584936250995419025:=0
def tw3109081383300877458:=0
def tw4510393966189444255:=0
def tw13366776872062965540:=0
def tw6552914536340262038:=0
def tw16984478865695597656:=0
def tw6945447987177897185:=0
def tw2165450925224338929:=0
def tw15833431791752259888:=0
def tw8512862945234693461:=0
def tw11522835850850943919:=0
def tw10054770923598176634:=0
def tw14647439928164860768:=0
def tw17522017639566991645:=0
def tw11101560318916161759:=0
def tw3097433814638787200:=0
def tw15772718895752355875:=0
def tw3317375738357805262:=0
def tw16204371274021901778:=0
def tw13153841223774984864:=0
def tw11761186364053706956:=0
def tw17132039152981859382:=0
def tw957091994762146897:=0
def tw2158620407060826701:=0
def tw16036040693597010381:=0
def tw10711608342833803453:=0
def tw16019642825911915283:=0
def tw3509184660698391135:=0
def tw15913440948546246588:=0
def tw13659136321508994174:=0
def tw2564006598049297716:=0
def tw17123929530960111935:=0
def tw984182234705430675:=0
def tw16558199236976804140:=0
def tw1760538907331558790:=0
def tw18443500027404283557:=0
def tw12234022648650395695:=0
def tw16847171232353438994:=0
def tw3305688809218342148:=0
def tw4703038129802587575:=0
def tw3499229675069018117:=0
def tw493222560086469689:=0
def tw1120358073031526479:=0
def tw10846080227037770837:=0
def tw17707266090877031265:=0
def tw15282609535620014725:=0
def tw18285373341268562920:=0
def tw3873602927817934508:=0
def tw14234064191073330571:=0
def tw5605332195779655532:=0
def tw13176710816343412784:=0
def tw10923292209547370260:=0
def tw6831386516378950922:=0
def tw1246385358772909207:=0
def tw8364184698986910519:=0
def tw10940216371433662766:=0
def tw3932189724391294948:=0
def tw10390145578339298876:=0
def tw8073023391332448169:=0
def tw6178154621285711254:=0
def tw11051987547336614469:=0
def tw17172395977857276050:=0
def tw3317877843013188968:=0
def tw11312486964342215073:=0
def tw14560119410304763937:=0
def tw13368505588682063746:=0
def tw6822236787012657446:=0
def tw2292518979654061949:=0
def tw9292138572802514221:=0
def tw10423931437981117665:=0
def tw3479907102859884555:=0
def tw1634200584061687149:=0
def tw11987662109608688643:=0
def tw6152088623455851700:=0
def tw17177057098428863713:=0
def tw5054970388206175182:=0
def tw12329240198048022737:=0
def tw6117082041254621021:=0
def tw18007110078549324523:=0
def tw3959930526029934299:=0
def tw4733172148223040984:=0
def tw8938161625158213917:=0
def tw9866476460878198863:=0
def tw16381123853016752488:=0
def tw139614554952015908:=0
def tw18047802699977683975:=0
def tw12295703960694988872:=0
def tw18426891437375067224:=0
def tw11613688143782497867:=0
def tw1102350451718359925:=0
def tw6979275151446231251:=0
def tw12617025768992033570:=0
def tw17159318296287176699:=0
def tw16477399135324781970:=0
def tw6539407928935224310:=0
def tw8506041287643277133:=0
def tw13764376758245084175:=0
def tw17655628979739914002:=0
def tw12954768696808593123:=0
def tw7462430109934894211:=0
def tw10162957230138122465:=0
def tw4415402757856493968:=0
def tw8044934174735009699:=0
def tw17161317159149780965:=0
def tw1240345933327017877:=0
def tw12933814697543853779:=0
def tw390546201673440513:=0
def tw4739309746507911789:=0
def tw6560675059070163947:=0
def tw13622563326984925385:=0
def tw8142584090356831675:=0
def tw9555090391442412003:=0
def tw8957641292258145891:=0
def tw2811910216122576564:=0
def tw14723635772353610:=0
def tw12148126218005818812:=0
def tw17547168525750498078:=0
def tw11703816254766677881:=0
def tw4168761482504750350:=0
def tw4413612418507908979:=0
def tw1270343428379360166:=0
def tw11829549084112099732:=0
def tw15751935817601105678:=0
def tw5565931692158340254:=0
def tw15422683136299094663:=0
def tw1324132034342726736:=0
def tw2496000605835044435:=0
def tw6291594169718001912:=0
def tw9631468846244709402:=0
def tw14625421547402017156:=0
def tw18020053886949880039:=0
def tw7968560712456127117:=0
def tw12102505223187009840:=0
def tw4254999556036255827:=0
def tw295799219033794908:=0
def tw6220629728290283141:=0
def tw2280099987160010106:=0
def tw6003506887391394022:=0
def tw13189890358490001869:=0
def tw5619558830912216194:=0
def tw16128852569668443628:=0
def tw2090696162828202892:=0
def tw10702781247081301732:=0
def tw7861670959268705862:=0
def tw12554896564091581015:=0
def tw9153011211117162589:=0
def tw5540890335141147244:=0
def tw7590139760833625573:=0
def tw3768233755778027095:=0
def tw14562135258676684358:=0
def tw9900383557998678037:=0
def tw9837652361708819112:=0
def tw6314834407325030848:=0
def tw16996039298184676681:=0
def tw2407993130109504876:=0
def tw5575959388339259418:=0
def tw12966310342734419168:=0
def tw1567672238434562488:=0
def tw12981061211042513208:=0
def tw17369702821545932425:=0
def tw9819796761721277029:=0
def tw14776798286335968616:=0
def tw10489444196847105271:=0
def tw9418177172940701409:=0
def tw15907360222396395065:=0
def tw15247915103750679893:=0
def tw17614480879419706010:=0
def tw3604695418569137587:=0
def tw2711270154735778828:=0
def tw11403134182421703420:=0
def tw9181106145038468248:=0
def tw10550979126228885301:=0
def tw18399773414186461977:=0
def tw4146603604926283782:=0
def tw9369875335068027088:=0
def tw4218698067868084400:=0
def tw6168267566502480443:=0
def tw7492907757227674598:=0
def tw7817222046659799110:=0
def tw8849207422809671478:=0
def tw4067830701115766588:=0
def tw17227815404399607628:=0
def tw3444341549710843581:=0
def tw11193581421451048903:=0
def tw11365522395717509627:=0
def tw9892101706791882034:=0
def tw219724321345187784:=0
def tw10986650506513643562:=0
def tw8930238157738779274:=0
def tw15232664944538090660:=0
def tw11154460957160039194:=0
def tw9278252032256258714:=0
def tw5473905433358079658:=0
def tw3566252503855748565:=0
def tw12576529675618448466:=0
def tw15583718636295287990:=0
def tw9565123943809786655:=0
def tw3438014645284551834:=0
def tw18039988434043285160:=0
def tw5567604265709656884:=0
def tw18306431385561344929:=0
def tw1641493800310565916:=0
def tw1808747422953797407:=0
def tw5575873168326993535:=0
def tw2448361151836142252:=0
def tw4672452201041095546:=0
def tw16564461361032506136:=0
def tw3755593134038484411:=0
def tw2164041023284168107:=0
def tw2417341530513580959:=0
def tw825374645362815231:=0
def tw12222126946584035517:=0
def tw14405022298824703642:=0
def tw11047625248393322405:=0
def tw10326983175879901452:=0
def tw8557022216175004974:=0
def tw10001639421211263728:=0
def tw12711660601420075353:=0
def tw5526983857949453887:=0
def tw6861576979945633155:=0
def tw1172717994447549509:=0
def tw16846587194186780565:=0
def tw11108270657463876176:=0
def tw16705124187004377670:=0
def tw8659498432979233111:=0
def tw2163726173950856380:=0
def tw2808610825026746600:=0
def tw17879122791707426974:=0
def tw17933705011779411629:=0
def tw17664348879569230835:=0
def tw14793730545089295643:=0
def tw13575773323979343325:=0
def tw2644481008155680871:=0
def tw2657856745934541084:=0
def tw6556748290840678050:=0
def tw14632673335010085827:=0
def tw4244057747783352832:=0
def tw12106782077534308347:=0
def tw12239653360239582388:=0
def tw18299067879520718453:=0
def tw8962440241632639273:=0
def tw2025268920947528269:=0
def tw1431435264723623489:=0
def tw11257894082620374704:=0
def tw11389637670906419665:=0
def tw14816256206661626709:=0
def tw14662045850375931843:=0
def tw7428868627048428587:=0
def tw13346813049908000842:=0
def tw12525830999710068536:=0
def tw6027345312191216565:=0
def tw12452168689329139178:=0
def tw12871290528413086772:=0
def tw3746707282805153142:=0
def tw6532617614179401132:=0
def tw12626883527715664536:=0
def tw11945748216531525345:=0
def tw756317779997040518:=0
def tw9971342298199151014:=0
def tw11035992878531168004:=0
def tw4202134300422779416:=0
def tw5908599431133828613:=0
def tw15484959769792414721:=0
def tw16945715589672117588:=0
def tw4266115878154128676:=0
def tw2977894549789294932:=0
def tw2866216494714120968:=0
def tw8164300027414726907:=0
def tw11965126290478263099:=0
def tw4966623862205889376:=0
def tw106338091085013046:=0
def tw14244171319719759114:=0
def tw5754202392174240307:=0
def tw4098358664505559694:=0
def tw526207869558792978:=0
def tw13477349210706311002:=0
def tw2561744483924553632:=0
def tw8601342472428502878:=0
def tw3619111765514187454:=0
def tw8997107122437352760:=0
def tw14315174464679310914:=0
def tw11388009638499322697:=0
def tw1321970747687935604:=0
def tw2735164303442564976:=0
def tw10580537258330943782:=0
def tw9273867258063513214:=0
def tw12295476222487186474:=0
def tw15948419277363578069:=0
def tw3570563613355635118:=0
def tw10997029052149560441:=0
def tw12408206720727746483:=0
def tw6529929527709344385:=0
def tw18070736807013076612:=0
def tw11078577908310860556:=0
def tw6941496133811561659:=0
def tw3535305730356489261:=0
def tw16719049093343626664:=0
def tw10185569130455917740:=0
def tw15263967410038304133:=0
def tw6523181525507650925:=0
def tw18353034256081783508:=0
def tw10756235888148362705:=0
def tw1656372814855799909:=0
def tw13289681977439938916:=0
def tw1479940394483810890:=0
def tw9207990997603693442:=0
def tw18336656143210294569:=0
def tw7300095507456249224:=0
def tw14020976617231263355:=0
def tw18353837638193545307:=0
def tw17400477479740218378:=0
def tw7619343028841850055:=0
def tw9936217867750908402:=0
def tw13189151755067746738:=0
def tw5242587324633504292:=0
def tw1359749532168244654:=0
def tw12649915739086831368:=0
def tw11424166714893752013:=0
def tw16825713107482149655:=0
def tw15405399621026103743:=0
def tw5480617536311493805:=0
def tw16589644394994501040:=0
def tw14989272705185164658:=0
def tw12999447008174919958:=0
def tw9164573314195984897:=0
def tw2653051676675778951:=0
def tw11327239104249679636:=0
def tw13672361584653409892:=0
def tw18135368136955293448:=0
def tw10781646770509200407:=0
def tw9345407860973183863:=0
def tw2307772446458034813:=0
def tw9282710042919498334:=0
def tw769298536611003213:=0
def tw5248042897456464887:=0
def tw15285246875314681819:=0
def tw3477585716430832593:=0
def tw4561186862500833976:=0
def tw12436559511528006492:=0
def tw17880901206271101502:=0
def tw13798916646796983205:=0
def tw14925159086004105008:=0
def tw11603458753381620234:=0
def tw13253765346010337276:=0
def tw6270952172864120773:=0
def tw11425616838664536252:=0
def tw15343838699952966337:=0
def tw8520123912508570933:=0
def tw8455479662258749307:=0
def tw14740905919922940120:=0
def tw11498772993699450732:=0
def tw11719355958275423789:=0
def tw12489843602753721216:=0
def tw14973589611075409965:=0
def tw16549554710764197305:=0
def tw17165719397499980244:=0
def tw3549952400134089352:=0
def tw6845541485117047853:=0
def tw5621975501164954571:=0
def tw17028001445811041631:=0
def tw11741493992089393618:=0
def tw1052028497210508496:=0
def tw12248225254786612444:=0
def tw4202585429515981042:=0
def tw17645969821122855143:=0
def tw9573677675994023414:=0
def tw16208298483656030031:=0
def tw593362658369937480:=0
def tw7325171148772975565:=0
def tw2161605229235157339:=0
def tw6072741921627771755:=0
def tw10345341589468894318:=0
def tw15215494110301318523:=0
def tw6774778127329707448:=0
def tw1035219118051545291:=0
def tw11883072857802804862:=0
def tw6659023130291528629:=0
def tw6872654727106564336:=0
def tw14299131524033801653:=0
def tw7065505592056479638:=0
def tw10047346068137813125:=0
def tw4187016539874952610:=0
def tw7437302162104047301:=0
def tw8490844136566181607:=0
def tw3174128288325588075:=0
def tw7469720951925189940:=0
def tw10066468182417776403:=0
def tw8029099399177474056:=0
def tw2843601731337141741:=0
def tw16067491468044398586:=0
def tw12355061935373181885:=0
def tw3583048442265664420:=0
def tw18162921621315809983:=0
def tw2102320212293015614:=0
def tw16764258900910667994:=0
def tw9852501836904170253:=0
def tw3569469540430226808:=0
def tw1825677909000608475:=0
def tw16319313164304448105:=0
def tw15166937974175294906:=0
def tw11317031392691833378:=0
def tw11255848447956211625:=0
def tw11227254010441952407:=0
def tw11038222374063611390:=0
def tw3265557972587035469:=0
def tw15536415056030736764:=0
def tw7121974899558200158:=0
def tw12864419826565424542:=0
def tw11138289143603842996:=0
def tw14323104014819818167:=0
def tw711945334015992220:=0
def tw1684513581906126516:=0
def tw17088477595287914012:=0
def tw18372660753666653896:=0
def tw8856165569171526851:=0
def tw12065491051770834306:=0
def tw12750252346606069944:=0
def tw6288021621538539382:=0
def tw16930076090774980901:=0
def tw8355367970251882012:=0
def tw12733741571193430680:=0
def tw4747020210645739327:=0
def tw12081406410556214695:=0
def tw10956478302468731344:=0
def tw12539903453978383081:=0
def tw17347035306498266837:=0
def tw15160660265766380229:=0
def tw12627198809905713937:=0
def tw3488781477240287443:=0
def tw6925387241008193862:=0
def tw12268079089284197674:=0
def tw16098281293757122610:=0
def tw4255141585537641951:=0
def tw8123920957706574233:=0
def tw5419063650854457136:=0
def tw9433249725679200214:=0
def tw15263648593538681443:=0
def tw9859208864499790968:=0
def tw11906029724787364043:=0
def tw299423174544748301:=0
def tw12262755593785778793:=0
def tw12875589241937379171:=0
def tw2240100459528060961:=0
def tw13734345707007826642:=0
def tw8194085925175689522:=0
def tw16908756130254245295:=0
def tw3074012665571489723:=0
def tw9819376390854169016:=0
def tw9560386618668373499:=0
def tw10034530349199024617:=0
def tw7465179613340832104:=0
def tw4220330784428267712:=0
def tw13361609611980821654:=0
def tw17457458734814741440:=0
def tw3738030614463596930:=0
def tw17813912924447905804:=0
def tw14899621172821696541:=0
def tw2678366437987361773:=0
def tw4685635760943911923:=0
def tw10923335008226941380:=0
def tw10843714029524328326:=0
def tw750346453087555979:=0
def tw9126113980317825327:=0
def tw4040729224195576057:=0
def tw11954527150442956582:=0
def tw15994294461960329085:=0
def tw1969866744277699957:=0
def tw10565883895296598209:=0
def tw7164733735520404321:=0
def tw12212191716211680501:=0
def tw14001998016761847627:=0
def tw1950943748290816315:=0
def tw1696709913836923009:=0
def tw16468843698687033605:=0
def tw3776222279638038912:=0
def tw335351591961104077:=0
def tw16025970111996571033:=0
def tw6759261145277543929:=0
def tw140092350455663382:=0
def tw18166322113119059865:=0
def tw9818657508656981146:=0
def tw6408882010197559306:=0
def tw7176175730044154939:=0
def tw17790656061112689589:=0
def tw6621231412396831664:=0
def tw976507961486358566:=0
def tw14608313331385250937:=0
def tw18130383552587282069:=0
def tw3241706353613143119:=0
def tw12277494577582311706:=0
def tw13518282205136600226:=0
def tw10916613886076260381:=0
def tw4229346946643125563:=0
def tw10419538667461063119:=0
def tw15628214361722102541:=0
end PySem.W.Fast
set_option maxRecDepth 100000 in
set_option maxHeartbeats 0 in
theorem PySem.Challenge.cw_balepress_k12_tables_refused_holds : PySem.Challenge.rw_balepress_k12_tables_refused.Holds := by
  w_on; o_law; k_head; (case hw => w_witness2)
  k_fill
  refine K12.walk (l := PySem.Challenge.rw_balepress_k12_tables_refused) rfl rfl (fun w h Y => PySem.W.kIn_of Y) ?F
  case F =>
    intro w mg fa h KX G hmg
    refine' K12.all_mk KX G hmg ?a1 ?l1 ?c1 ?k1 ?z_isinstance ?z_bool ?z_int ?z_list ?z_len ?z_range ?z_min ?z_max ?z_sum ?z_tuple ?z_repr ?z_ValueError ?gv0 ?gv1 ?gv2 ?gv3 ?gv4 ?gv5 ?gv6 ?d2 ?d3 ?d4 ?d5 ?pgB ?hdB ?poB ?saB ?nB_whole_bytes ?nB_rest ?nB_rest_size ?gB ?d6 ?d7 ?d8 ?mkB ?kcB ?d9 ?d10 ?d11 ?d12 ?pgD ?hdD ?poD ?saD ?nD_held ?nD_taken ?gD ?d13 ?d14 ?d15 ?mkD ?kcD ?d16 ?d17 ?d18 ?d19 ?gcP ?xcP ?gcN ?xcN ?gcT ?xcT ?yacN ?yhcN ?ybcN ?yccN ?ydcN ?yicN ?yecN ?yfcN ?ygcN ?qcNcN ?qcNcT ?yacT ?yhcT ?ybcT ?yccT ?ydcT ?yicT ?yecT ?yfcT ?ygcT ?qcTcN ?qcTcT ?ge0 ?ge1 ?ge2 ?ge3 ?ge4 ?ge5 ?ge6 ?ge7 ?ge8 ?ge9 ?ge10 ?ge11 ?ge12 ?ge13 ?ge14 ?ge15 ?q_cN0 ?q_cN1 ?q_cN2 ?q_cN3 ?q_cN4 ?q_cN5 ?q_cN6 ?q_cN7 ?q_cN8 ?q_cN9 ?q_cN10 ?q_cN11 ?q_cN12 ?q_cN13 ?q_cN14 ?q_cN15 ?q_cT0 ?q_cT1 ?q_cT2 ?q_cT3 ?q_cT4 ?q_cT5 ?q_cT6 ?q_cT7 ?q_cT8 ?q_cT9 ?q_cT10 ?q_cT11 ?q_cT12 ?q_cT13 ?q_cT14 ?q_cT15 ?yg ?yt ?d20 ?d21 ?d22 ?d23 ?d24 ?d25 ?d26 ?d27 ?d28 ?d29 ?d30 ?d31 ?d32 ?d33 ?d34 ?d35 ?d36
    case gB | gD | gcP | gcN | gcT | ge0 | ge1 | ge2 | ge3 | ge4 | ge5 | ge6 | ge7 | ge8 | ge9 | ge10 | ge11 | ge12 | ge13 | ge14 | ge15 => k_is
    case d2 | d3 | d4 | d5 | d6 | d7 | d13 | d14 | d20 | d21 | d22 | d23 | d24 | d25 | d26 | d27 | d28 | d29 | d30 | d31 | d32 | d33 | d34 | d35 | d36 => refine' K12.TD.i ?a ?l ?c ?k; (case a => k_is); (case l => k_is); (case c => k_is); (case k => k_is)
    case d8 | d9 | d10 | d11 | d12 | d15 | d16 | d17 | d18 | d19 => refine' K12.MD.i ?a ?i ?l ?c ?k; (case a => k_is); (case i => k_is); (case l => k_is); (case c => k_is); (case k => k_is)
    case a1 | l1 | c1 | k1 | z_isinstance | z_bool | z_int | z_list | z_len | z_range | z_min | z_max | z_sum | z_tuple | z_repr | z_ValueError | gv0 | gv1 | gv2 | gv3 | gv4 | gv5 | gv6 | pgB | hdB | poB | saB | nB_whole_bytes | nB_rest | nB_rest_size | mkB | kcB | pgD | hdD | poD | saD | nD_held | nD_taken | mkD | kcD | yacN | yhcN | ybcN | yccN | ydcN | yicN | yfcN | yacT | yhcT | ybcT | yccT | ydcT | yicT | yfcT | yg | yt => k_is
    case xcP | xcN | xcT | ygcN | qcNcN | qcNcT | ygcT | qcTcN | qcTcT | q_cN0 | q_cN1 | q_cN2 | q_cN3 | q_cN4 | q_cN5 | q_cN6 | q_cN7 | q_cN8 | q_cN9 | q_cN10 | q_cN11 | q_cN12 | q_cN13 | q_cN14 | q_cN15 | q_cT0 | q_cT1 | q_cT2 | q_cT3 | q_cT4 | q_cT5 | q_cT6 | q_cT7 | q_cT8 | q_cT9 | q_cT10 | q_cT11 | q_cT12 | q_cT13 | q_cT14 | q_cT15 => kernel_rfl
    case yecN | yecT => rfl

import PyProof.Rows.All
import Wide.All
import OpenK.AllK
import Wide.FinOn
import Lean
import PyProof.EqAt
import PyProof.EqKinds
import PyProof.TupleCall
import PyProof.NeKinds
import PyProof.Rows.TupMore
import PyProof.AutoSeq1
import PyProof.ZipIter
import PySem.Challenge.RW_balepress_k14_pieces
set_option Elab.async false
set_option linter.all false
set_option maxRecDepth 100000
namespace QQ
open PySem PyProof.Rows
/-! ## iterators' ends where an error may be in hand: it has no error behind it -/
/-- no error in hand, or one that has none behind it -/
def Hq (A : Around) (h : Heap) : Prop := A.handled = none ∨ ∃ a o vs, A.handled = some (.ref a) ∧ h.get? a = some o ∧ o.data = .fields vs ∧ vs[2]? = some Value.none
theorem Hq.keep {A : Around} {h h' : Heap} (q : Hq A h) (k : ∀ a, A.handled = some (.ref a) → ∀ o, h.get? a = some o → h'.get? a = some o) : Hq A h' := by
  rcases q with q | ⟨a, o, vs, e, g, d, z⟩
  · exact .inl q
  · exact .inr ⟨a, o, vs, e, k a e o g, d, z⟩
theorem entry_unch : entryFor table "proto.unchain" = some Builtin.«proto.unchain» := entryFor_of_fast (by kernel_rfl)
section
variable {prog : Program} {w : World} {A : Around} {E : Value → Shared → Prop} {s : Shared}
/-- a new error is raised: the one in hand stands behind it then -/
theorem raise_quiet {α : Type} {e : Addr} {oe : Obj} {vs : Array Value} {Q : α → Shared → Prop} (hq : Hq A s.heap) (he : s.heap.get? e = some oe) (hd : oe.data = .fields vs) (hz : 2 < vs.size)
    (hne : A.handled ≠ some (.ref e))
    (h : ∀ h' o', h'.get? e = some o' → o'.cls = oe.cls → Heap.SameBut e s.heap h' → E (.ref e) { s with heap := h' }) : wpAny (model prog w) A (raiseNew (.ref e) : Sem α) Q E s := by
  unfold raiseNew
  refine wpAny_bind (wpAny_handled ?_)
  rcases hq with q | ⟨a, o, us, ea, ga, da, za⟩
  · rw [q]
    exact wpAny_bind (wpAny_pure (wpAny_throw (h s.heap oe he rfl (Heap.SameBut.refl ..))))
  · rw [ea]
    have ne : (Value.ref a != Value.ref e) = true := by
      have : a ≠ e := fun z => hne (by rw [ea, z])
      simp [bne, this]
    show wpAny _ _ (if (Value.ref a != Value.ref e) = true then _ else _) _ _ _
    rw [if_pos ne]
    refine wpAny_bind (wpAny_holding (wpAny_runValue (codeAny_builtin entry_unch ?_)))
    show wpAny _ _ (field (.ref a) 2 >>= _) _ _ s
    refine wpAny_bind (wpAny_field ga da za ?_)
    show wpAny _ _ (if (Value.none == Value.none) = true then _ else _) _ _ s
    rw [if_pos (by rfl)]
    refine wpAny_bind (wpAny_pure (wpAny_pure ?_))
    show wpAny _ _ (updateField e 2 (.ref a) >>= fun _ => throw (.ref e)) _ _ s
    refine wpAny_bind (wpAny_setField he hd hz ?_ : wpAny _ _ (setField (.ref e) 2 (.ref a)) _ _ s)
    refine wpAny_throw (h _ _ (Heap.get?_update_self _ he (Obj.isFreed_of_fields (Obj.data_mapFields hd _))) (Obj.cls_mapFields _ _) (Heap.SameBut.update ..))
/-- the end of an iterator: a StopIteration is made and raised, and it is told that it is over -/
theorem stop_quiet {α : Type} {E' : Value → Shared → Prop} {R : α → Shared → Prop} (hq : Hq A s.heap)
    (h : ∀ h' e, (∀ b o, s.heap.get? b = some o → h'.get? b = some o) → (∃ o, h'.get? e = some o ∧ o.cls = .type "StopIteration") → E' (.ref e) { s with heap := h' }) :
    wpAny (model prog w) A (newExc (.type "StopIteration") [] >>= fun v => (raiseNew v : Sem α)) R E' s := by
  refine wpAny_bind ?_
  simp only [newExc, newTuple]
  refine wpAny_bind (wpAny_newObj_type ?_ (by size_fits))
  refine wpAny_bind (m := firstArgMember _ _) (wpAny_of_eq (a := Value.none) (by first | rfl | (simp only [firstArgMember]; rfl)) ?_)
  refine wpAny_newObj_type ?_ (by size_fits)
  have k2 : ∀ b o, s.heap.get? b = some o → ((s.heap.push { cls := .type "tuple", data := .seq ([] : List Value).toArray }).push { cls := .type "StopIteration", data := .fields (#[.ref s.heap.objs.size, .none, .none, .none, .bool false, .none] ++ ownMembersOf (.type "StopIteration") []) }).get? b = some o :=
    fun b o e => Heap.get?_push_of_some _ (Heap.get?_push_of_some _ e)
  refine raise_quiet (hq.keep fun a _ o e => k2 a o e) (Heap.get?_push_size _ rfl) rfl (by simp [ownMembersOf]) ?_ fun h' o' ge ce sb => ?_
  · rcases hq with q | ⟨a, o, us, ea, ga, _⟩
    · rw [q]; intro z; cases z
    · rw [ea]
      intro z
      have e : a = (s.heap.push { cls := .type "tuple", data := .seq ([] : List Value).toArray }).objs.size := Value.ref.inj (Option.some.inj z)
      have := Heap.lt_size ga
      rw [e, Heap.size_push] at this
      exact absurd this (Nat.not_lt.mpr (Nat.le_succ _))
  · refine h h' _ (fun b o e => sb.extBut b o (fun z => ?_) (k2 b o e)) ⟨o', ge, ce⟩
    have := Heap.lt_size e
    rw [z, Heap.size_push] at this
    exact absurd this (Nat.not_lt.mpr (Nat.le_succ _))
theorem hq_not {A : Around} {h : Heap} {it : Addr} {o : Obj} {vs : Array Value} (q : Hq A h) (g : h.get? it = some o) (d : o.data = .fields vs) (z : vs[2]? ≠ some Value.none) : A.handled ≠ some (.ref it) := by
  rcases q with q | ⟨a, o', us, e, g', d', z'⟩
  · rw [q]; intro x; cases x
  · rw [e]
    intro x
    have e' : a = it := Value.ref.inj (Option.some.inj x)
    subst e'
    rw [g] at g'; cases g'
    rw [d] at d'; cases d'
    exact z z'
theorem list_end_q {it l : Addr} {i : Nat} {items} {Q : Option Value → Shared → Prop} (hq : Hq A s.heap)
    (hit : s.heap.IsListIter it l i) (hl : s.heap.IsList l items) (hx : items[i]? = none)
    (hQ : ∀ h', Heap.ExtBut it s.heap h' → Q none { s with heap := h' }) : wpAny (model prog w) A (pyNext (.ref it)) Q E s := by
  obtain ⟨o, ho, hc, hd⟩ := id hit
  obtain ⟨ol, hol, _, nl, hdl⟩ := hl
  have hn := hq_not hq ho hd (by simp)
  unfold pyNext
  refine wpAny_bind (wpAny_attempt (wpAny_callSpecial?_slot (name := Str.ofString "__next__") hit.typeIs slot_listiter_next (wpAny_call_entry slot_listiter_next hit.typeIs entry_listiter_next ?_ (args_listiter_next _))))
  show wpAny _ _ (field (.ref it) 0 >>= _) _ _ s
  refine wpAny_bind (wpAny_field ho hd (x := .ref l) rfl ?_)
  show wpAny _ _ (if (Value.ref l == Value.none) = true then _ else _) _ _ s
  rw [if_neg (show ¬ ((Value.ref l == Value.none) = true) from Bool.false_ne_true)]
  show wpAny _ _ (field (.ref it) 1 >>= _) _ _ s
  refine wpAny_bind (wpAny_field ho hd (x := .int i 0) rfl ?_)
  show wpAny _ _ (seqItems? (.ref l) >>= _) _ _ s
  refine wpAny_bind (wpAny_seqItems hol hdl ?_)
  simp only [Int.toNat_natCast, hx]
  refine wpAny_bind (wpAny_rule (wpAny_bind (wpAny_setField ho hd (by simp) ?_)))
  have sb1 := Heap.SameBut.update (h := s.heap) it (Obj.mapFields (·.setIfInBounds 0 Value.none))
  refine stop_quiet (A := A.in1) (hq.keep fun a ea o' e => sb1.extBut a o' (fun z => hn (by rw [ea, z])) e) fun h' e k ⟨o', ge, ce⟩ => ?_
  refine wpAny_bind (wpAny_isInstance (T := "StopIteration") (b := true) ⟨_, ge, ce⟩ isSubtype_stop ?_)
  exact wpAny_pure (hQ _ fun b ob hb e1 => k b ob (sb1.extBut b ob hb e1))
theorem tuple_end_q {it t : Addr} {i : Nat} {items} {Q : Option Value → Shared → Prop} (hq : Hq A s.heap)
    (hit : s.heap.IsTupleIter it t i) (ht : s.heap.IsTuple t items) (hx : items[i]? = none)
    (hQ : ∀ h', Heap.ExtBut it s.heap h' → Q none { s with heap := h' }) : wpAny (model prog w) A (pyNext (.ref it)) Q E s := by
  obtain ⟨o, ho, hc, hd⟩ := id hit
  obtain ⟨ol, hol, _, nl, hdl⟩ := ht
  have hn := hq_not hq ho hd (by simp)
  unfold pyNext
  refine wpAny_bind (wpAny_attempt (wpAny_callSpecial?_slot (name := Str.ofString "__next__") hit.typeIs F.slot_tuple_iterator_next (wpAny_call_entry F.slot_tuple_iterator_next hit.typeIs F.entry_tuple_iterator_next ?_ (F.args_tuple_iterator_next_1 _))))
  show wpAny _ _ (field (.ref it) 0 >>= _) _ _ s
  refine wpAny_bind (wpAny_field ho hd (x := .ref t) rfl ?_)
  show wpAny _ _ (if (Value.ref t == Value.none) = true then _ else _) _ _ s
  rw [if_neg (show ¬ ((Value.ref t == Value.none) = true) from Bool.false_ne_true)]
  show wpAny _ _ (field (.ref it) 1 >>= _) _ _ s
  refine wpAny_bind (wpAny_field ho hd (x := .int i 0) rfl ?_)
  show wpAny _ _ (seqItems? (.ref t) >>= _) _ _ s
  refine wpAny_bind (wpAny_seqItems hol hdl ?_)
  simp only [Int.toNat_natCast, hx]
  refine wpAny_bind (wpAny_rule (wpAny_bind (wpAny_setField ho hd (by simp) ?_)))
  have sb1 := Heap.SameBut.update (h := s.heap) it (Obj.mapFields (·.setIfInBounds 0 Value.none))
  refine stop_quiet (A := A.in1) (hq.keep fun a ea o' e => sb1.extBut a o' (fun z => hn (by rw [ea, z])) e) fun h' e k ⟨o', ge, ce⟩ => ?_
  refine wpAny_bind (wpAny_isInstance (T := "StopIteration") (b := true) ⟨_, ge, ce⟩ isSubtype_stop ?_)
  exact wpAny_pure (hQ _ fun b ob hb e1 => k b ob (sb1.extBut b ob hb e1))
theorem range_end_q {it : Addr} {x left step : Int} {Q : Option Value → Shared → Prop} (hq : Hq A s.heap) (hit : IsRangeIter s.heap it x left step) (hleft : left ≤ 0)
    (hQ : ∀ h', Heap.ExtBut it s.heap h' → Q none { s with heap := h' }) : wpAny (model prog w) A (pyNext (.ref it)) Q E s := by
  have hT : s.TypeIs (.ref it) "range_iterator" := ⟨_, hit, rfl⟩
  unfold pyNext
  refine wpAny_bind (wpAny_attempt (wpAny_callSpecial?_slot (name := Str.ofString "__next__") hT F.slot_range_iterator_next (wpAny_call_entry F.slot_range_iterator_next hT F.entry_range_iterator_next ?_ (F.args_range_iterator_next_1 _))))
  show wpAny _ _ (field (.ref it) 0 >>= _) _ _ s
  refine wpAny_bind (wpAny_field hit rfl (x := rawInt x) rfl ?_)
  show wpAny _ _ (field (.ref it) 1 >>= _) _ _ s
  refine wpAny_bind (wpAny_field hit rfl (x := rawInt left) rfl ?_)
  show wpAny _ _ (field (.ref it) 2 >>= _) _ _ s
  refine wpAny_bind (wpAny_field hit rfl (x := rawInt step) rfl ?_)
  show wpAny _ _ (if left ≤ 0 then _ else _) _ _ s
  rw [if_pos hleft]
  refine wpAny_bind (wpAny_rule (wpAny_bind ?_))
  refine stop_quiet (A := A.in1) hq fun h' e k ⟨o', ge, ce⟩ => ?_
  refine wpAny_bind (wpAny_isInstance (T := "StopIteration") (b := true) ⟨_, ge, ce⟩ isSubtype_stop ?_)
  exact wpAny_pure (hQ _ fun b ob hb e1 => k b ob e1)
/-- a tuple taken apart -/
theorem unpackItems_q {t : Addr} {items : Array Value} {Q : List Value → Shared → Prop} (hq : Hq A s.heap) (ht : IsTup s.heap t items)
    (hQ : ∀ h', Heap.ExtBut s.heap.objs.size s.heap h' → Q items.toList { s with heap := h' }) : wpAny (model prog w) A (unpackItems (.ref t) items.size none) Q E s := by
  have nt : t ≠ s.heap.objs.size := by obtain ⟨o, ho, _⟩ := ht; exact Nat.ne_of_lt (Heap.lt_size ho)
  unfold unpackItems
  refine wpAny_bind ?_
  unfold notIterableAtAll
  refine wpAny_bind (wpAny_specialOf ht.typeIs slot_tuple_iter.lookup (wpAny_pure ?_))
  simp only [Bool.false_eq_true, if_false]
  refine wpAny_bind (wpAny_holding (iter_tuple ht (wpAny_bind (wpAny_holding (draw_tuple nt items.size 0 _ _ ⟨_, Heap.get?_push_size _ rfl, rfl, rfl⟩ (ht.push _) (by omega) fun g1 i1 b1 => ?_)))))
  rw [show List.take items.size (List.drop 0 items.toList) = items.toList by rw [List.drop_zero]; exact List.take_of_length_le (by simp), if_neg (by simp)]
  have k1 : ∀ b o, b ≠ s.heap.objs.size → s.heap.get? b = some o → g1.get? b = some o := fun b o hb e => b1.extBut b o hb (Heap.get?_push_of_some _ e)
  have q1 : Hq A g1 := hq.keep fun a _ o e => k1 a o (Nat.ne_of_lt (Heap.lt_size e)) e
  have t1 : IsTup g1 t items := (ht.push _).extBut b1.extBut nt
  refine wpAny_bind (wpAny_holding (tuple_end_q (s := { s with heap := g1 }) q1 (show g1.IsTupleIter _ t _ from i1) (show g1.IsTuple t items from t1) (by simp) fun g2 x2 => ?_))
  simp only [Option.isSome_none, Bool.false_eq_true, if_false]
  exact wpAny_pure (hQ g2 fun b o hb e => x2 b o hb (k1 b o hb e))
theorem assign_Tuple_q {env : Env} {elts : List Expr} {x1} {pos : Pos} {t : Addr} {items : Array Value} {Q : Unit → Shared → Prop} (hq : Hq A s.heap) (ht : IsTup s.heap t items)
    (hn : (assignEach elts env).length = items.size) (hstar : (assignEach elts env).findIdx? (·.1) = none)
    (h : ∀ h', Heap.ExtBut s.heap.objs.size s.heap h' → wpAny (model prog w) A (assignInOrder ((assignEach elts env).map (·.2)) items.toList) Q E { s with heap := h' }) :
    wpAny (model prog w) A (assign (.Tuple elts x1 pos) env (.ref t)) Q E s := by
  rw [assign_Tuple]
  refine wpAny_bind (wpAny_standAt ?_)
  unfold unpack
  rw [hn, hstar]
  exact wpAny_bind (wpAny_holding (unpackItems_q hq ht h))
end
end QQ

set_option Elab.async false
set_option linter.all false
set_option maxRecDepth 100000
namespace QQ
open PySem PyProof.Rows
/-! ## an error on its way: its object, its record of places, what changes -/
def exO (cls : Value) (vs : Array Value) : Obj := { cls := cls, data := .fields vs }
/-- an error of the class at e; fp: the objects that change as it goes -/
def Fly (h : Heap) (e : Addr) (cls : Value) (fp : List Addr) : Prop :=
  ∃ vs, h.get? e = some (exO cls vs) ∧ vs[2]? = some Value.none ∧ ((vs[1]? = some Value.none ∧ fp = [e]) ∨
    ∃ T oT ts, vs[1]? = some (.ref T) ∧ T ≠ e ∧ h.get? T = some oT ∧ oT.data = .fields ts ∧ ts[3]? = some Value.none ∧ fp = [e, T])
theorem Fly.here {h : Heap} {e : Addr} {cls : Value} {fp : List Addr} (F : Fly h e cls fp) : e ∈ fp := by
  obtain ⟨vs, _, _, ⟨_, r⟩ | ⟨T, oT, ts, _, _, _, _, _, r⟩⟩ := F <;> simp [r]
theorem Fly.keep {h h' : Heap} {e : Addr} {cls : Value} {fp : List Addr} (F : Fly h e cls fp) (k : ∀ b ∈ fp, ∀ o, h.get? b = some o → h'.get? b = some o) : Fly h' e cls fp := by
  obtain ⟨vs, g, z, ⟨a, r⟩ | ⟨T, oT, ts, a, ne, gT, dT, zT, r⟩⟩ := F
  · exact ⟨vs, k e (by simp [r]) _ g, z, .inl ⟨a, r⟩⟩
  · exact ⟨vs, k e (by simp [r]) _ g, z, .inr ⟨T, oT, ts, a, ne, k T (by simp [r]) _ gT, dT, zT, r⟩⟩
/-- what stands at fp: records -/
theorem Fly.rec {h : Heap} {e : Addr} {cls : Value} {fp : List Addr} (F : Fly h e cls fp) : ∀ b ∈ fp, ∃ o vs, h.get? b = some o ∧ o.data = .fields vs := by
  obtain ⟨vs, g, z, ⟨a, r⟩ | ⟨T, oT, ts, a, ne, gT, dT, zT, r⟩⟩ := F
  · intro b hb
    rw [r, List.mem_singleton] at hb
    subst hb
    exact ⟨_, vs, g, rfl⟩
  · intro b hb
    rw [r] at hb
    rcases List.mem_cons.mp hb with hb | hb
    · subst hb; exact ⟨_, vs, g, rfl⟩
    · rw [List.mem_singleton] at hb
      subst hb
      exact ⟨oT, ts, gT, dT⟩
theorem Fly.made {h h' : Heap} {e : Addr} {cls : Value} {args : List Value} (m : Heap.MadeExcOf h h' e cls args) : Fly h' e cls [e] := by
  obtain ⟨t, ht, _⟩ := m.there
  exact ⟨_, ht, rfl, .inl ⟨rfl, rfl⟩⟩
section
variable {M : Model} {A : Around} {E : Value → Shared → Prop} {s : Shared}
theorem land_core {base : Heap} {env : Env} {outer : List Env} {L e : Addr} {cls head : Value} {vs : Array Value} {had : Bool} {Q : Unit → Shared → Prop}
    (hfr : A.frames = some (env :: outer)) (hl : s.heap.FunFrames base (env :: outer)) (hf : env.frame = some L)
    (he : s.heap.get? e = some (exO cls vs)) (h1 : 1 < vs.size) (h2 : vs[2]? = some Value.none)
    (h : ∀ h' T, Fly h' e cls [e, T] → s.heap.objs.size ≤ T → (∀ b o, s.heap.get? b = some o → b ≠ e → b ∉ (env :: outer).filterMap (·.frame) → h'.get? b = some o) →
      (∀ b o, s.heap.get? b = some o → b ≠ e → ∃ sl, h'.get? b = some { o with slots := sl }) → Q () { s with heap := h' }) :
    wpAny M A (do let a ← frameOf env; let pl ← entryPlaceOf L had; let b ← EntryCells.newEntry head a .none (rawInt L) .none pl; setField (.ref e) 1 b) (fun _ s' => wpAny M A (setFlight (.ref e) none) Q E s') E s := by
  have ne : e ∉ (env :: outer).filterMap (·.frame) := fun hm => by
    obtain ⟨_, o, ho, hnf⟩ := hl.mem hm
    rw [he] at ho; cases ho
    exact hnf vs rfl
  refine wpAny_bind (wpAny_frameOf_fun hfr hl hf fun g1 s1 => ?_)
  refine wpAny_bind (wpAny_entryPlaceOf fun pl hpl => ?_)
  unfold EntryCells.newEntry newFields
  refine wpAny_bind (wpAny_newObj_type ?_ (hpl.sizeOk5 _ _ _ _ _))
  have hsz : g1.objs.size = s.heap.objs.size := s1.1
  have he1 : g1.get? e = some (exO cls vs) := (s1.2.1 e ne).trans he
  generalize hO : ({ cls := .type "traceback", dict := none, data := .fields ([head, .ref L, .none, rawInt L, .none] ++ (if pl.isEmpty then List.replicate 6 Value.none else pl)).toArray } : Obj) = oT
  have e3 : ∃ ts, oT.data = .fields ts ∧ 3 < ts.size := ⟨_, by rw [← hO], by simp only [List.size_toArray, List.length_append, List.length_cons, List.length_nil]; omega⟩
  have hfreed : oT.isFreed = false := by rw [← hO]; rfl
  clear hO
  obtain ⟨ts, hts, hz3⟩ := e3
  have he2 : (g1.push oT).get? e = some (exO cls vs) := Heap.get?_push_of_some _ he1
  have hT2 : (g1.push oT).get? g1.objs.size = some oT := Heap.get?_push_size g1 hfreed
  have hTe : g1.objs.size ≠ e := Nat.ne_of_gt (Heap.lt_size he1)
  refine wpAny_setField he2 rfl h1 ?_
  have he3 := Heap.get?_update_self (Obj.mapFields (·.setIfInBounds 1 (Value.ref g1.objs.size))) he2 rfl
  have hT3 := (Heap.get?_update_other (g1.push oT) (Obj.mapFields (·.setIfInBounds 1 (Value.ref g1.objs.size))) (Ne.symm hTe)).trans hT2
  have he3' : ((g1.push oT).update e (Obj.mapFields (·.setIfInBounds 1 (Value.ref g1.objs.size)))).get? e = some (exO cls (vs.setIfInBounds 1 (Value.ref g1.objs.size))) := he3
  unfold setFlight
  refine wpAny_bind (wpAny_field he3' rfl (x := .ref g1.objs.size) (by simp [h1]) ?_)
  rw [if_pos (show (Value.ref g1.objs.size != Value.none) = true from by simp)]
  refine wpAny_setField hT3 hts hz3 ?_
  have keep : ∀ b o, b ≠ e → g1.get? b = some o → (((g1.push oT).update e (Obj.mapFields (·.setIfInBounds 1 (Value.ref g1.objs.size)))).update g1.objs.size (Obj.mapFields (·.setIfInBounds 3 ((none : Option Addr).elim Value.none fun f => rawInt f)))).get? b = some o := fun b o hb q => by
    rw [Heap.get?_update_other _ _ (Nat.ne_of_gt (Heap.lt_size q)), Heap.get?_update_other _ _ (Ne.symm hb)]
    exact Heap.get?_push_of_some _ q
  refine h _ g1.objs.size ⟨vs.setIfInBounds 1 (Value.ref g1.objs.size), ?_, ?_, .inr ⟨g1.objs.size, _, _, ?_, hTe, Heap.get?_update_self _ hT3 (Obj.isFreed_of_fields (Obj.data_mapFields hts _)), Obj.data_mapFields hts _, ?_, rfl⟩⟩ (Nat.le_of_eq hsz.symm) (fun b o q hb hn => ?_) fun b o q hb => ?_
  · rw [Heap.get?_update_other _ _ hTe]; exact he3'
  · rw [Array.getElem?_setIfInBounds_ne (by decide)]; exact h2
  · simp [h1]
  · simp [hz3]
  · exact keep b o hb ((s1.2.1 b hn).trans q)
  · obtain ⟨sl, e'⟩ := s1.2.2 b o q
    exact ⟨sl, keep b _ hb e'⟩
/-- an error is noted in the frame and lands there -/
theorem land {base : Heap} {env : Env} {outer : List Env} {L e : Addr} {cls : Value} {fp : List Addr} {Q : Unit → Shared → Prop}
    (hfr : A.frames = some (env :: outer)) (hl : s.heap.FunFrames base (env :: outer)) (hf : env.frame = some L) (F : Fly s.heap e cls fp)
    (h : ∀ h' T, Fly h' e cls [e, T] → s.heap.objs.size ≤ T → (∀ b o, s.heap.get? b = some o → b ∉ fp → b ∉ (env :: outer).filterMap (·.frame) → h'.get? b = some o) →
      (∀ b o, s.heap.get? b = some o → b ∉ fp → ∃ sl, h'.get? b = some { o with slots := sl }) → (∀ b o, s.heap.get? b = some o → ∃ o', h'.get? b = some o') → Q () { s with heap := h' }) :
    wpAny M A (noteFrame (.ref e) env) (fun _ s' => wpAny M A (setFlight (.ref e) none) Q E s') E s := by
  obtain ⟨vs, he, h2, ⟨h1, r⟩ | ⟨T, oT, ts, h1, ne, gT, dT, zT, r⟩⟩ := F
  · subst r
    unfold noteFrame
    simp only [hf]
    refine wpAny_bind (wpAny_field he rfl h1 ?_)
    rw [if_neg (by decide)]
    refine land_core hfr hl hf he (Array.getElem?_eq_some_iff.mp h1).1 h2 fun h' T' f1 f2 f3 f4 => h h' T' f1 f2 (fun b o q hb hn => f3 b o q (fun z => hb (by simp [z])) hn) (fun b o q hb => f4 b o q fun z => hb (by simp [z])) fun b o q => ?_
    by_cases hb : b = e
    · obtain ⟨vs', g', _⟩ := f1
      subst hb
      exact ⟨_, g'⟩
    · obtain ⟨sl, e'⟩ := f4 b o q hb
      exact ⟨_, e'⟩
  · subst r
    unfold noteFrame
    simp only [hf]
    refine wpAny_bind (wpAny_field he rfl h1 ?_)
    rw [if_pos (show (Value.ref T != Value.none) = true from by simp)]
    refine wpAny_bind (wpAny_field gT dT zT ?_)
    rw [if_neg (show ¬ ((Value.none == rawInt L) = true) from by simp [rawInt])]
    refine wpAny_bind (wpAny_setField gT dT (Array.getElem?_eq_some_iff.mp zT).1 ?_)
    have oth : ∀ b, b ≠ T → (s.heap.update T (Obj.mapFields (·.setIfInBounds 3 Value.none))).get? b = s.heap.get? b := fun b hb => Heap.get?_update_other _ _ (Ne.symm hb)
    have gT' := Heap.get?_update_self (Obj.mapFields (·.setIfInBounds 3 Value.none)) gT (Obj.isFreed_of_fields (Obj.data_mapFields dT _))
    have nT : ∀ b o, s.heap.get? b = some o → (∀ us, o.data ≠ .fields us) → b ≠ T := fun b o q nf z => by
      rw [z, gT] at q; cases q; exact nf ts dT
    have sz : (s.heap.update T (Obj.mapFields (·.setIfInBounds 3 Value.none))).objs.size = s.heap.objs.size := Heap.size_after_update ..
    refine land_core hfr (hl.of_keeps fun b o q nf => ⟨o, (oth b (nT b o q nf)).trans q, rfl⟩) hf ((oth e (Ne.symm ne)).trans he) (Array.getElem?_eq_some_iff.mp h1).1 h2
      fun h' T' f1 f2 f3 f4 => h h' T' f1 (by rw [sz] at f2; exact f2) (fun b o q hb hn => ?_) (fun b o q hb => ?_) fun b o q => ?_
    · have b1 : b ≠ e := fun z => hb (by simp [z])
      have b2 : b ≠ T := fun z => hb (by simp [z])
      exact f3 b o ((oth b b2).trans q) b1 hn
    · have b1 : b ≠ e := fun z => hb (by simp [z])
      have b2 : b ≠ T := fun z => hb (by simp [z])
      exact f4 b o ((oth b b2).trans q) b1
    · by_cases hb : b = e
      · obtain ⟨vs', g', _⟩ := f1
        subst hb
        exact ⟨_, g'⟩
      · by_cases hT : b = T
        · subst hT
          obtain ⟨sl, e'⟩ := f4 b _ gT' hb
          exact ⟨_, e'⟩
        · obtain ⟨sl, e'⟩ := f4 b o ((oth b hT).trans q) hb
          exact ⟨_, e'⟩
/-- it is told again that it landed -/
theorem land_again {e : Addr} {cls : Value} {T : Addr} {Q : Unit → Shared → Prop} (F : Fly s.heap e cls [e, T])
    (h : ∀ h', Fly h' e cls [e, T] → (∀ b o, s.heap.get? b = some o → b ≠ T → h'.get? b = some o) → Q () { s with heap := h' }) : wpAny M A (setFlight (.ref e) none) Q E s := by
  obtain ⟨vs, he, h2, ⟨h1, r⟩ | ⟨T', oT, ts, h1, ne, gT, dT, zT, r⟩⟩ := F
  · cases r
  · cases r
    unfold setFlight
    refine wpAny_bind (wpAny_field he rfl h1 ?_)
    rw [if_pos (show (Value.ref T != Value.none) = true from by simp)]
    have z3 := (Array.getElem?_eq_some_iff.mp zT).1
    refine wpAny_setField gT dT z3 (h _ ⟨vs, ?_, h2, .inr ⟨T, _, _, h1, ne, Heap.get?_update_self _ gT (Obj.isFreed_of_fields (Obj.data_mapFields dT _)), Obj.data_mapFields dT _, by simp [z3], rfl⟩⟩ fun b o q hb => ?_)
    · rw [Heap.get?_update_other _ _ ne]; exact he
    · rw [Heap.get?_update_other _ _ (Ne.symm hb)]; exact q
end
end QQ

set_option Elab.async false
set_option linter.all false
set_option maxRecDepth 100000
/-! THE HAND LAYER, for ints, bools, texts, own classes, LISTS and tuples (index, slices, in, append, pop ..), calls, loops. Paste it whole ahead of your own text; what your proof does not reach may be deleted. -/
namespace L2
open PySem PySem.Spec PyProof.Rows

/-- a key: an int or a str -/
abbrev Key := Sum Int Str
def keyIs : Key → Value → Bool
  | .inl k, v => Value.isInt k v
  | .inr x, v => Value.isStrOf x v
def keyH (w : World) : Key → Int
  | .inl k => hashInt k
  | .inr x => hashStr w x
theorem keyIs_shape : ∀ {k : Key} {v : Value}, keyIs k v = true → (∃ i t, k = Sum.inl i ∧ v = Value.int i t) ∨ (∃ x t, k = Sum.inr x ∧ v = Value.str x t)
  | .inl i, v, h => by
    obtain ⟨t, e⟩ := Value.isInt_shape (k := i) (v := v) h
    exact .inl ⟨i, t, rfl, e⟩
  | .inr x, v, h => by
    obtain ⟨t, e⟩ := Value.isStrOf_shape (x := x) (v := v) h
    exact .inr ⟨x, t, rfl, e⟩
theorem key_ll (a b : Int) : decide ((Sum.inl a : Key) = Sum.inl b) = (a == b) := by
  by_cases e : a = b
  · subst e; simp
  · have h : ¬ (Sum.inl a : Key) = Sum.inl b := fun q => e (Sum.inl.inj q)
    rw [decide_eq_false h]
    exact (beq_eq_false_iff_ne.mpr e).symm
theorem key_rr (a b : Str) : decide ((Sum.inr a : Key) = Sum.inr b) = decide (a = b) := by
  by_cases e : a = b
  · subst e; simp
  · have h : ¬ (Sum.inr a : Key) = Sum.inr b := fun q => e (Sum.inr.inj q)
    rw [decide_eq_false h, decide_eq_false e]
theorem key_lr (a : Int) (b : Str) : decide ((Sum.inl a : Key) = Sum.inr b) = false := decide_eq_false (fun q => nomatch q)
theorem key_rl (a : Str) (b : Int) : decide ((Sum.inr a : Key) = Sum.inl b) = false := decide_eq_false (fun q => nomatch q)

def mixKind (prog : Program) (w : World) : PySem.KeyKind prog w Key where
  is := keyIs
  hash := keyH w
  inj := fun v a b ha hb => by
    rcases keyIs_shape ha with ⟨i, t, rfl, rfl⟩ | ⟨x, t, rfl, rfl⟩
    · rcases keyIs_shape hb with ⟨j, u, rfl, e⟩ | ⟨y, u, rfl, e⟩
      · injection e with e1 _; rw [e1]
      · exact nomatch e
    · rcases keyIs_shape hb with ⟨j, u, rfl, e⟩ | ⟨y, u, rfl, e⟩
      · exact nomatch e
      · injection e with e1 _; rw [e1]
  byValue := fun k v h => by
    rcases keyIs_shape h with ⟨i, t, rfl, rfl⟩ | ⟨x, t, rfl, rfl⟩ <;> rfl
  pyHash := fun hv h => by
    rcases keyIs_shape hv with ⟨i, t, rfl, rfl⟩ | ⟨x, t, rfl, rfl⟩
    · exact wpAny_pyHash_int h
    · exact wpAny_pyHash_str h
  eqBool := fun hu hv h => by
    rcases keyIs_shape hu with ⟨i, t, rfl, rfl⟩ | ⟨x, t, rfl, rfl⟩
    · rcases keyIs_shape hv with ⟨j, u, rfl, rfl⟩ | ⟨y, u, rfl, rfl⟩
      · rw [key_ll] at h; exact wpAny_eqBool_int h
      · rw [key_lr] at h; exact SeqAt.EqAt.int_str i t y u _ _ _ _ h
    · rcases keyIs_shape hv with ⟨j, u, rfl, rfl⟩ | ⟨y, u, rfl, rfl⟩
      · rw [key_rl] at h; exact SeqAt.EqAt.str_int x t j u _ _ _ _ h
      · rw [key_rr] at h; exact wpAny_eqBool_str h
  «strs» := fun k x t v h => by
    rcases keyIs_shape h with ⟨i, u, rfl, e⟩ | ⟨y, u, rfl, e⟩
    · exact nomatch e
    · injection e with e1 _
      subst e1
      cases v <;> rfl

end L2

namespace L2
open PySem PySem.Spec PyProof.Rows

/-- a value, without the heap -/
inductive V where
  | non | bl (b : Bool) | int (i : Int) | str (x : Str) | byt (b : Array UInt8) | flt (b : UInt64) | ref (a : Addr) | ty (n : String)
  deriving DecidableEq

def RelV : V → Value → Prop
  | .non, u => u = Value.none
  | .bl b, u => u = Value.bool b
  | .int i, u => ∃ t, u = Value.int i t
  | .str x, u => ∃ t, u = Value.str x t
  | .byt b, u => ∃ t, u = Value.bytes b t
  | .flt b, u => ∃ t, u = Value.float b t
  | .ref a, u => u = Value.ref a
  | .ty n, u => u = Value.type n

abbrev Vals : List V → List Value → Prop := Paired RelV
theorem Vals.length {xs : List V} {us : List Value} (r : Vals xs us) : xs.length = us.length := Paired.length r
theorem Vals.get : ∀ {xs : List V} {us : List Value} {i : Nat} {x : V}, Vals xs us → xs[i]? = some x → ∃ u, us[i]? = some u ∧ RelV x u
  | _, _, _, _, .nil, e => by simp at e
  | _, _, 0, _, .cons r _, e => by simp at e; subst e; exact ⟨_, rfl, r⟩
  | _, _, i + 1, x, .cons _ t, e => by
    obtain ⟨u, h1, h2⟩ := Vals.get (i := i) (x := x) t (by simpa using e)
    exact ⟨u, by simpa using h1, h2⟩
theorem Vals.set {x : V} {u : Value} (r : RelV x u) : ∀ {xs : List V} {us : List Value} (i : Nat), Vals xs us → Vals (xs.set i x) (us.set i u)
  | _, _, _, .nil => .nil
  | _, _, 0, .cons _ t => .cons r t
  | _, _, i + 1, .cons q t => .cons q (Vals.set r i t)
theorem Vals.append : ∀ {xs ys : List V} {us ws : List Value}, Vals xs us → Vals ys ws → Vals (xs ++ ys) (us ++ ws)
  | _, _, _, _, .nil, s => s
  | _, _, _, _, .cons r t, s => .cons r (Vals.append t s)
theorem Vals.take : ∀ {xs : List V} {us : List Value} (n : Nat), Vals xs us → Vals (xs.take n) (us.take n)
  | _, _, 0, _ => .nil
  | _, _, _ + 1, .nil => .nil
  | _, _, n + 1, .cons r t => .cons r (Vals.take n t)
theorem Vals.drop : ∀ {xs : List V} {us : List Value} (n : Nat), Vals xs us → Vals (xs.drop n) (us.drop n)
  | _, _, 0, r => r
  | _, _, _ + 1, .nil => .nil
  | _, _, n + 1, .cons _ t => Vals.drop n t
theorem Vals.none_of : ∀ {xs : List V} {us : List Value} {i : Nat}, Vals xs us → xs[i]? = none → us[i]? = none := fun {xs us i} r e => by
  have h1 := r.length
  have h2 : xs.length ≤ i := List.getElem?_eq_none_iff.mp e
  exact List.getElem?_eq_none_iff.mpr (by omega)

def RelO : Option V → Option Value → Prop
  | some v, some u => RelV v u
  | none, none => True
  | _, _ => False
def KV {κ : Type} : List (κ × V) → List (κ × Value) → Prop := Paired fun (p : κ × V) (q : κ × Value) => p.1 = q.1 ∧ RelV p.2 q.2

/-- a key of a dict (00_mix): an int or a text -/
def kV : Key → V
  | .inl i => .int i
  | .inr x => .str x

/-- what stands at a tracked address -/
inductive HO where
  /-- a list -/
  | lst (xs : List V)
  /-- a tuple (never changes) -/
  | tup (xs : List V)
  /-- a dict whose keys are ints and texts; one whose keys are tuples of ints and texts (the empty one is both) -/
  | dK (kvs : List (Key × V)) | dT (kvs : List (List Key × V))
  /-- a set of ints: its members, its size -/
  | set (S : Int → Bool) (n : Nat)
  /-- an instance of the class at C, its dict at dx, its attributes -/
  | ins (C dx : Addr) (fs : List (Str × V))
  /-- the dict of the instance at x -/
  | own (x : Addr)
  /-- the dict of an exception -/
  | xd (fs : List (Str × V))
  /-- a bound method, f of x -/
  | met (f x : Addr)
  /-- a range object lo, lo + 1, .. below hi -/
  | rng (lo hi : Int)
  /-- a thing that is known to the object (the script; a dict while a loop walks it): read, never written while it is so -/
  | frz (o : Obj) (u : HO)
  /-- a code object's table -/
  | tbl (ps : Array Value)
  /-- any other thing, by what is true of its one object (a def of one's own: SetO a S n := HO.ext fun h => ..) -/
  | ext (φ : Heap → Prop)

abbrev Hp := Addr → Option HO
def upd (H : Hp) (a : Addr) (o : HO) : Hp := fun b => if b = a then some o else H b
theorem upd_same {H : Hp} {a : Addr} {o : HO} : upd H a o a = some o := by unfold upd; rw [if_pos rfl]
theorem upd_ne {H : Hp} {a b : Addr} {o : HO} (h : b ≠ a) : upd H a o b = H b := by unfold upd; rw [if_neg h]
/-- two objects of different content stand apart -/
theorem ne_of {H : Hp} {a b : Addr} {o u : HO} (h : H a = some o) (h' : H b = some u) (d : o ≠ u) : a ≠ b := by
  intro e; subst e; rw [h] at h'; exact d (Option.some.inj h')
theorem ne_of_none {H : Hp} {a b : Addr} {o : HO} (h : H a = some o) (h' : H b = none) : a ≠ b := by
  intro e; subst e; rw [h] at h'; cases h'

section
variable (P : Program) (w : World)
def ObjOk (H : Hp) (h : Heap) (a : Addr) : HO → Prop
  | .lst xs => xs.length ≤ sizeLine ∧ ∃ (its : List Value) (n : Nat), Vals xs its ∧ h.get? a = some { cls := .type "list", data := .seq its.toArray n }
  | .tup xs => xs.length ≤ sizeLine ∧ ∃ its : List Value, Vals xs its ∧ IsTup h a its.toArray
  | .dK kvs => kvs.length ≤ sizeLine ∧ (a == sysModules) = false ∧ ∃ vs, KV kvs vs ∧ h.DictOf (mixKind P w) a vs
  | .dT kvs => kvs.length ≤ sizeLine ∧ (a == sysModules) = false ∧ ∃ xs : List (List Key × Addr × Value),
      Paired (fun (p : List Key × V) (q : List Key × Addr × Value) => p.1 = q.1 ∧ H q.2.1 = some (.tup (p.1.map kV)) ∧ RelV p.2 q.2.2) kvs xs ∧
      ∃ o es ep, h.get? a = some o ∧ o.ExactDict ∧ o.data = .dict es ep ∧ es.toList = xs.map (entryOfKey (tupleKind (mixKind P w))) ∧ (xs.map (·.1)).Nodup
  | .set S n => h.SetOf (intKind P w) a S n
  | .ins C dx fs => H dx = some (.own a) ∧ fs.length ≤ 1000 ∧ dx ≠ a ∧ h.get? a = some (PySem.W.instObj C dx) ∧
      ∃ mA, h.Ns1 dx mA ∧ (∀ f, RelO (fs.lookup f) (mA f)) ∧ PySem.Within mA (fs.map (·.1))
  | .own _ => ∃ o, h.get? a = some o
  | .xd fs => ∃ mA, h.Ns1 a mA ∧ ∀ f, RelO (fs.lookup f) (mA f)
  | .rng lo hi => ∃ t u v, h.get? a = some { cls := .type "range", data := .fields #[.int lo t, .int hi u, .int 1 v] }
  | .frz o u => h.get? a = some o ∧ ObjOk H h a u
  | .tbl ps => h.get? a = some { cls := .none, data := .fields ps }
  | .met f x => h.get? a = some (PySem.W.methodObj (.ref f) (.ref x))
  | .ext φ => φ h ∧ (∃ o, h.get? a = some o) ∧ ∀ h1 h2 : Heap, φ h1 → (∀ o, h1.get? a = some o → h2.get? a = some o) → φ h2
/-- the abstract heap is held -/
def HOk (H : Hp) (h : Heap) : Prop := ∀ a o, H a = some o → ObjOk P w H h a o
end

section
variable {P : Program} {w : World} {H H' : Hp} {h h' : Heap} {a : Addr} {o : HO}
theorem ObjOk.lt (x : ObjOk P w H h a o) : a < h.objs.size := by
  cases o with
  | lst xs => obtain ⟨_, _, _, _, e⟩ := x; exact Heap.lt_size e
  | tup xs => obtain ⟨_, _, _, p⟩ := x; exact p.lt
  | dK kvs => obtain ⟨_, _, _, _, o, _, _, e, _⟩ := x; exact Heap.lt_size e
  | dT kvs => obtain ⟨_, _, _, _, o, _, _, e, _⟩ := x; exact Heap.lt_size e
  | set S n => obtain ⟨o, _, _, _, e, _⟩ := x; exact Heap.lt_size e
  | ins C dx fs => obtain ⟨_, _, _, e, _⟩ := x; exact Heap.lt_size e
  | own y => obtain ⟨_, e⟩ := x; exact Heap.lt_size e
  | xd fs => obtain ⟨_, ⟨_, _, _, e, _⟩, _⟩ := x; exact Heap.lt_size e
  | rng lo hi => obtain ⟨_, _, _, e⟩ := x; exact Heap.lt_size e
  | frz ob u => obtain ⟨e, _⟩ := x; exact Heap.lt_size e
  | tbl ps => exact Heap.lt_size (show h.get? a = some _ from x)
  | met f y => exact Heap.lt_size (show h.get? a = some _ from x)
  | ext φ => obtain ⟨_, ⟨_, e⟩, _⟩ := x; exact Heap.lt_size e
theorem Paired.mapP {α β : Type} {F G : α → β → Prop} : ∀ {l₁ : List α} {l₂ : List β}, Paired F l₁ l₂ → (∀ a b, F a b → G a b) → Paired G l₁ l₂
  | _, _, .nil, _ => .nil
  | _, _, .cons r t, f => .cons (f _ _ r) (Paired.mapP t f)
/-- what an object's description leans on: its own object, its own dict, the tuples -/
theorem ObjOk.stay (x : ObjOk P w H h a o) (k : ∀ b u, (b = a ∨ H b = some (.own a)) → h.get? b = some u → h'.get? b = some u)
    (ho : ∀ b, H b = some (.own a) → H' b = some (.own a)) (ht : ∀ b xs, H b = some (.tup xs) → H' b = some (.tup xs)) : ObjOk P w H' h' a o := by
  induction o with
  | lst xs => obtain ⟨z, its, n, r, e⟩ := x; exact ⟨z, its, n, r, k _ _ (.inl rfl) e⟩
  | tup xs => obtain ⟨z, its, r, ob, e, c⟩ := x; exact ⟨z, its, r, ob, k _ _ (.inl rfl) e, c⟩
  | dK kvs => obtain ⟨z, y, vs, r, ob, es, ep, e, c⟩ := x; exact ⟨z, y, vs, r, ob, es, ep, k _ _ (.inl rfl) e, c⟩
  | dT kvs =>
    obtain ⟨z, y, xs, r, ob, es, ep, e, c⟩ := x
    exact ⟨z, y, xs, Paired.mapP r fun p q z => ⟨z.1, ht _ _ z.2.1, z.2.2⟩, ob, es, ep, k _ _ (.inl rfl) e, c⟩
  | set S n => obtain ⟨ob, es, ep, t, e, c⟩ := x; exact ⟨ob, es, ep, t, k _ _ (.inl rfl) e, c⟩
  | ins C dx fs =>
    obtain ⟨d, z, ne, e, mA, ⟨od, es, ep, e2, c⟩, r⟩ := x
    exact ⟨ho _ d, z, ne, k _ _ (.inl rfl) e, mA, ⟨od, es, ep, k _ _ (.inr d) e2, c⟩, r⟩
  | own y => obtain ⟨ob, e⟩ := x; exact ⟨ob, k _ _ (.inl rfl) e⟩
  | xd fs => obtain ⟨mA, ⟨od, es, ep, e, c⟩, r⟩ := x; exact ⟨mA, ⟨od, es, ep, k _ _ (.inl rfl) e, c⟩, r⟩
  | rng lo hi => obtain ⟨t, u, v, e⟩ := x; exact ⟨t, u, v, k _ _ (.inl rfl) e⟩
  | frz ob u ih => obtain ⟨e, q⟩ := x; exact ⟨k _ _ (.inl rfl) e, ih q⟩
  | tbl ps =>
    have e : h.get? a = some { cls := .none, data := .fields ps } := x
    show h'.get? a = some { cls := .none, data := .fields ps }
    exact k a _ (.inl rfl) e
  | met f y =>
    have e : h.get? a = some (PySem.W.methodObj (.ref f) (.ref y)) := x
    show h'.get? a = some (PySem.W.methodObj (.ref f) (.ref y))
    exact k a _ (.inl rfl) e
  | ext φ => obtain ⟨p, ⟨o, e⟩, st⟩ := x; exact ⟨st _ _ p fun o q => k _ _ (.inl rfl) q, ⟨o, k _ _ (.inl rfl) e⟩, st⟩
theorem HOk.lt (x : HOk P w H h) (e : H a = some o) : a < h.objs.size := (x a o e).lt
theorem HOk.fresh (x : HOk P w H h) (e : h.objs.size ≤ a) : H a = none := by
  cases q : H a with
  | none => rfl
  | some u => exact absurd (Nat.lt_of_lt_of_le (x.lt q) e) (Nat.lt_irrefl _)
/-- every object of the heap is kept -/
theorem HOk.kept (x : HOk P w H h) (k : ∀ b u, h.get? b = some u → h'.get? b = some u) : HOk P w H h' := fun a o e =>
  (x a o e).stay (fun b u _ q => k b u q) (fun _ q => q) fun _ _ q => q
/-- a new object is laid and tracked -/
theorem HOk.laid (x : HOk P w H h) (k : ∀ b u, h.get? b = some u → h'.get? b = some u) (hp : h.objs.size ≤ a) (new : ObjOk P w (upd H a o) h' a o) : HOk P w (upd H a o) h' := fun b u e => by
  have hn := x.fresh hp
  by_cases hb : b = a
  · subst hb; rw [upd_same] at e; cases e; exact new
  · rw [upd_ne hb] at e
    exact (x b u e).stay (fun c v _ q => k c v q) (fun c q => by rw [upd_ne (ne_of_none q hn)]; exact q) fun c xs q => by rw [upd_ne (ne_of_none q hn)]; exact q
end

/-- what may be read as u: it is u, or a known u -/
def Rd (H : Hp) (a : Addr) (u : HO) : Prop := H a = some u ∨ ∃ o, H a = some (.frz o u)
theorem Rd.of {H : Hp} {a : Addr} {u : HO} (h : H a = some u) : Rd H a u := .inl h
theorem Rd.ok {P : Program} {w : World} {H : Hp} {h : Heap} {a : Addr} {u : HO} (r : Rd H a u) (x : HOk P w H h) : ObjOk P w H h a u := by
  rcases r with r | ⟨o, r⟩
  · exact x a u r
  · obtain ⟨_, q⟩ := x a _ r
    exact q
/-- what may be written -/
def Mut : Option HO → Prop
  | some (.lst _) => True
  | some (.dK _) => True
  | some (.dT _) => True
  | some (.set _ _) => True
  | some (.ins _ _ _) => True
  | some (.ext _) => True
  | _ => False
section
variable {P : Program} {w : World} {H : Hp} {h h' : Heap} {x e : Addr} {o' : HO}
/-- the object at e is changed: x itself, or the dict of the instance x -/
theorem HOk.write (ok : HOk P w H h) (mu : Mut (H x)) (he : e = x ∨ H e = some (.own x)) (k : ∀ b u, b ≠ e → h.get? b = some u → h'.get? b = some u) (heo : ∃ u, h'.get? e = some u)
    (new : ObjOk P w (upd H x o') h' x o') : HOk P w (upd H x o') h' := fun b u q => by
  have nown : ∀ c y, H c = some (.own y) → c ≠ x := fun c y r z => by subst z; rw [r] at mu; exact mu
  have ntup : ∀ c xs, H c = some (.tup xs) → c ≠ x := fun c xs r z => by subst z; rw [r] at mu; exact mu
  by_cases hb : b = x
  · subst hb; rw [upd_same] at q; cases q; exact new
  · rw [upd_ne hb] at q
    by_cases hbe : b = e
    · have q' : H b = some (.own x) := by
        rcases he with z | z
        · exact absurd (hbe.trans z) hb
        · rw [hbe]; exact z
      rw [q] at q'; cases q'
      obtain ⟨v, hv⟩ := heo
      exact ⟨v, by rw [hbe]; exact hv⟩
    · refine (ok b u q).stay (fun c v hc r => k c v ?_ r) (fun c r => by rw [upd_ne (nown c b r)]; exact r) fun c xs r => by rw [upd_ne (ntup c xs r)]; exact r
      rcases hc with rfl | hc
      · exact hbe
      · rintro rfl
        rcases he with z | z
        · exact nown c b hc z
        · rw [hc] at z; cases z; exact hb rfl
end

/-! ### kept unless tracked; of the frames at fs (the callers') the slots may change (an exception that passes writes there); of the records at ex (iterators) nothing is said -/
structure Un (fs ex : List Addr) (H H' : Hp) (h h' : Heap) : Prop where
  keep : ∀ b o, h.get? b = some o → H b = none → b ∉ fs → b ∉ ex → h'.get? b = some o
  slot : ∀ b o, h.get? b = some o → H b = none → b ∈ fs → b ∉ ex → ∃ sl, h'.get? b = some { o with slots := sl }
  free : ∀ b o, h.get? b = some o → H b = none → b ∉ ex → H' b = none
  there : ∀ b o, h.get? b = some o → b ∉ ex → ∃ o', h'.get? b = some o'
  tups : ∀ b xs, H b = some (.tup xs) → H' b = some (.tup xs)
  frzs : ∀ b o u, H b = some (.frz o u) → H' b = some (.frz o u)
  tbls : ∀ b ps, H b = some (.tbl ps) → ∃ more, H' b = some (.tbl (ps ++ more))
section
variable {fs fs' ex ex' : List Addr} {H H1 H2 : Hp} {h h1 h2 h' : Heap} {a x e : Addr} {o : HO}
theorem Un.any (u : Un fs ex H H1 h h1) {b : Addr} {ob : Obj} (q : h.get? b = some ob) (n : H b = none) (hx : b ∉ ex) : ∃ sl, h1.get? b = some { ob with slots := sl } := by
  by_cases hb : b ∈ fs
  · exact u.slot b ob q n hb hx
  · exact ⟨ob.slots, u.keep b ob q n hb hx⟩
theorem Un.trans (a : Un fs ex H H1 h h1) (b : Un fs ex H1 H2 h1 h2) : Un fs ex H H2 h h2 where
  keep := fun c ob q n hc hx => b.keep c ob (a.keep c ob q n hc hx) (a.free c ob q n hx) hc hx
  slot := fun c ob q n hc hx => by
    obtain ⟨sl, e1⟩ := a.slot c ob q n hc hx
    obtain ⟨sl', e2⟩ := b.slot c _ e1 (a.free c ob q n hx) hc hx
    exact ⟨sl', e2⟩
  free := fun c ob q n hx => by
    obtain ⟨o', e1⟩ := a.there c ob q hx
    exact b.free c o' e1 (a.free c ob q n hx) hx
  there := fun c ob q hx => by
    obtain ⟨o', e1⟩ := a.there c ob q hx
    exact b.there c o' e1 hx
  tups := fun c xs q => b.tups c xs (a.tups c xs q)
  frzs := fun c ob xs q => b.frzs c ob xs (a.frzs c ob xs q)
  tbls := fun c ps q => by
    obtain ⟨m1, e1⟩ := a.tbls c ps q
    obtain ⟨m2, e2⟩ := b.tbls c _ e1
    exact ⟨m1 ++ m2, by rw [e2, Array.append_assoc]⟩
theorem Un.kept (k : ∀ b u, h.get? b = some u → h'.get? b = some u) : Un fs ex H H h h' :=
  ⟨fun b ob q _ _ _ => k b ob q, fun b ob q _ _ _ => ⟨ob.slots, k b ob q⟩, fun _ _ _ n _ => n, fun b ob q _ => ⟨ob, k b ob q⟩, fun _ _ q => q, fun _ _ _ q => q, fun _ ps q => ⟨#[], by rw [q]; simp⟩⟩
theorem Un.refl : Un fs ex H H h h := Un.kept fun _ _ q => q
theorem Un.laid (k : ∀ b u, h.get? b = some u → h'.get? b = some u) (hp : h.objs.size ≤ a) (hn : H a = none) : Un fs ex H (upd H a o) h h' where
  keep := fun b u q _ _ _ => k b u q
  slot := fun b u q _ _ _ => ⟨u.slots, k b u q⟩
  free := fun b u q n _ => by rw [upd_ne (Nat.ne_of_lt (Nat.lt_of_lt_of_le (Heap.lt_size q) hp))]; exact n
  there := fun b u q _ => ⟨u, k b u q⟩
  tups := fun b xs q => by rw [upd_ne (ne_of_none q hn)]; exact q
  frzs := fun b u xs q => by rw [upd_ne (ne_of_none q hn)]; exact q
  tbls := fun b ps q => ⟨#[], by rw [upd_ne (ne_of_none q hn), q]; simp⟩
theorem Un.write (mu : Mut (H x)) (he : e = x ∨ H e = some (.own x)) (k : ∀ b u, b ≠ e → h.get? b = some u → h'.get? b = some u) (heo : ∃ u, h'.get? e = some u) : Un fs ex H (upd H x o) h h' := by
  have hx : ∀ b, H b = none → b ≠ x := fun b n z => by subst z; rw [n] at mu; exact mu
  have hb : ∀ b, H b = none → b ≠ e := fun b n z => by
    subst z
    rcases he with r | r
    · exact hx b n r
    · rw [n] at r; cases r
  have hm : ∀ b u, H b = some u → ¬ Mut (some u) → b ≠ x := fun b u q nm z => by subst z; rw [q] at mu; exact nm mu
  refine ⟨fun b u q n _ _ => k b u (hb b n) q, fun b u q n _ _ => ⟨u.slots, k b u (hb b n) q⟩, fun b u q n _ => by rw [upd_ne (hx b n)]; exact n, fun b u q _ => ?_,
    fun b xs q => by rw [upd_ne (hm b _ q fun z => z)]; exact q, fun b u xs q => by rw [upd_ne (hm b _ q fun z => z)]; exact q, fun b ps q => ⟨#[], by rw [upd_ne (hm b _ q fun z => z), q]; simp⟩⟩
  by_cases hbe : b = e
  · subst hbe; exact heo
  · exact ⟨u, k b u hbe q⟩
theorem Un.mono (u : Un fs ex H H1 h h1) (hs : ∀ b ∈ fs, b ∈ fs') (hx : ∀ b ∈ ex, b ∈ ex') : Un fs' ex' H H1 h h1 :=
  ⟨fun b ob q n hb he => u.keep b ob q n (fun z => hb (hs b z)) fun z => he (hx b z), fun _ _ q n _ he => u.any q n fun z => he (hx _ z), fun b ob q n he => u.free b ob q n fun z => he (hx b z), fun b ob q he => u.there b ob q fun z => he (hx b z), u.tups, u.frzs, u.tbls⟩
end

/-! ### the heap without what is tracked -/
def trk (h : Heap) (H : Hp) : List Addr := (List.range h.objs.size).filter fun a => (H a).isSome
def hidT (h : Heap) (H : Hp) : Heap := PySem.W.hideAll h (trk h H)
theorem hidT_size (h : Heap) (H : Hp) : (hidT h H).objs.size = h.objs.size := PySem.W.hideAll_size _ _
theorem hidT_get {h : Heap} {H : Hp} {b : Addr} {o : Obj} (e : h.get? b = some o) (n : H b = none) : (hidT h H).get? b = some o :=
  PySem.W.hideAll_get _ e fun hm => by
    have q : (H b).isSome = true := (List.mem_filter.mp hm).2
    rw [n] at q; simp at q
theorem of_hidT {h : Heap} {H : Hp} {b : Addr} {o : Obj} (e : (hidT h H).get? b = some o) : h.get? b = some o ∧ H b = none := by
  have e' : h.get? b = some o := PySem.W.of_hideAll (trk h H) e
  refine ⟨e', ?_⟩
  cases q : H b with
  | none => rfl
  | some x =>
    have hm : b ∈ trk h H := List.mem_filter.mpr ⟨List.mem_range.mpr (Heap.lt_size e'), by simp [q]⟩
    have z : (hidT h H).get? b = none := PySem.W.hideAll_none (trk h H) hm
    rw [z] at e; cases e

/-! ### OpenK's ledger, filled with every new object but one -/
def allNews (g h : Heap) (L : Addr) : List (Addr × Obj) := (List.range h.objs.size).filterMap fun a => if a = L ∨ (g.get? a).isSome = true then none else (h.get? a).map fun o => (a, o)
def rest (g h : Heap) (L d : Addr) : List (Addr × Obj) := (allNews g h L).filter fun p => decide (p.1 ≠ d)
end L2

namespace L2
open PySem PySem.Spec PyProof.Rows

/-- the module's facts, over the base: the heap at the law's entry without what is tracked there -/
structure Mod (K : PySem.W.Frag) (mg : Str → Option Value) (base : Heap) : Prop where
  kin : K.In base
  glob : base.Ns mainGlobals mg
  blt : ∃ mb, base.Ns builtinsNs mb ∧ ∀ x : Str, x ≠ "__name__" → mb x = bootBuiltins x
  nolimit : base.NoLimit

/-- the context: a def's body (or a comprehension's block) running. base: fixed through the whole law; s₀, H₀: the entry; outer: the frames whose slots others may change (a def's callers); stack: all frames that run;
   ex: iterators that were made ahead of the entry and are walked here (a comprehension's); fn: the names whose cells were made at the entry (a def: all; a comprehension's block: its own); calm: not within an except suite; pn: pins that every state bears; xe: what is wanted of an exception that leaves the code -/
structure Cx where
  prog : Program
  w : World
  K : PySem.W.Frag
  mg : Str → Option Value
  base : Heap
  A : Around
  N : List Str
  s₀ : Shared
  H₀ : Hp
  env : Env
  outer : List Env
  stack : List Env
  ex : List Addr
  fn : Str → Bool
  calm : Bool
  pn : List (Addr × Obj)
  xe : Value → Shared → Prop
/-- an error in hand is known, and none stands behind it -/
def Qt (A : Around) (H : Hp) : Prop := A.handled = none ∨ ∃ a o vs, A.handled = some (.ref a) ∧ H a = some (.frz o (.own a)) ∧ o.data = .fields vs ∧ vs[2]? = some Value.none
/-- the callers' frames -/
def frs (l : List Env) : List Addr := l.filterMap (·.frame)
abbrev Cx.fs (X : Cx) : List Addr := frs X.outer

def Vis (sc : Scope) (x : Str) : Prop := sc.names.lookup x = some .local ∨ sc.names.lookup x = some .cell ∨ sc.names.lookup x = some .free
def Loc (sc : Scope) (x : Str) : Prop := sc.names.lookup x = some .local ∨ sc.names.lookup x = some .cell
def Look (env : Env) (h : Heap) (m : Str → Option Value) (x : Str) (u : Value) : Prop :=
  (env.kindOf x = some .local ∧ m x = some u) ∨ ((env.kindOf x = some .cell ∨ env.kindOf x = some .free) ∧ ∃ c, env.cells.lookup x = some c ∧ h.IsCell c (some u))

structure Cx.Ok (X : Cx) : Prop where
  mod : Mod X.K X.mg X.base
  kind : X.env.scope.kind = .function
  glob : X.env.globals = mainGlobals
  blt : X.env.builtins = builtinsNs
  above : X.s₀.heap.objs.size ≤ X.env.locals
  inj : ∀ x y c, X.env.cells.lookup x = some c → X.env.cells.lookup y = some c → x = y
  has : ∀ x, (X.env.kindOf x = some .cell ∨ X.env.kindOf x = some .free) → ∃ c, X.env.cells.lookup x = some c
  cab : ∀ x c, X.fn x = true → X.env.cells.lookup x = some c → X.s₀.heap.objs.size ≤ c
  hd : Qt X.A X.H₀
  frames : X.A.frames = some X.stack
  stk : X.stack = X.outer ∨ (X.stack = X.env :: X.outer ∧ X.env.frame = some X.env.locals)
  exf : ∀ b ∈ X.ex, b ≠ X.env.locals ∧ ∀ x c, X.env.cells.lookup x = some c → c ≠ b
  bs : ∀ b o, X.base.get? b = some o → X.s₀.heap.get? b = some o ∧ X.H₀ b = none
  bsz : X.base.objs.size ≤ X.s₀.heap.objs.size
  noex : ∀ b o, X.base.get? b = some o → b ∉ X.ex
  exfs : ∀ b ∈ X.ex, b ∉ X.fs
  funs : X.s₀.heap.FunFrames X.base X.outer
  frf : ∀ b ∈ X.fs, X.H₀ b = none

structure Inv (X : Cx) (pins : List (Addr × Obj)) (σ : List (Option V)) (H : Hp) (s : Shared) : Prop where
  ok : X.Ok
  os : s.os = X.s₀.os
  bare : AllBare s.gens
  base : Un X.fs X.ex X.H₀ H X.s₀.heap s.heap
  loc : ∃ m, s.heap.Ns X.env.locals m ∧ ∀ (i : Nat) (x : Str) (v : V), X.N[i]? = some x → σ[i]? = some (some v) → Vis X.env.scope x → ∃ u, RelV v u ∧ Look X.env s.heap m x u
  cell : ∀ x c, X.env.cells.lookup x = some c → ∃ v, s.heap.IsCell c v
  free : H X.env.locals = none
  freeC : ∀ x c, X.env.cells.lookup x = some c → H c = none
  pin : ∀ p ∈ X.pn ++ pins, s.heap.get? p.1 = some p.2 ∧ H p.1 = none ∧ p.1 ≠ X.env.locals ∧ p.1 ∉ X.fs ∧ ∀ v, p.2.data ≠ .cell v
  hok : HOk X.prog X.w H s.heap
  len : σ.length = X.N.length

section
variable {X : Cx} {pins : List (Addr × Obj)} {σ : List (Option V)} {H H' : Hp} {s : Shared} {h' : Heap}

theorem Cx.Ok.nofr (ok : X.Ok) {b : Addr} {o : Obj} (e : X.base.get? b = some o) : b ∉ X.fs := fun hb => by
  have := (ok.funs.mem hb).1
  rw [e] at this; cases this
theorem Inv.bs (I : Inv X pins σ H s) : ∀ b o, X.base.get? b = some o → s.heap.get? b = some o ∧ H b = none := fun b o e =>
  ⟨I.base.keep b o (I.ok.bs b o e).1 (I.ok.bs b o e).2 (I.ok.nofr e) (I.ok.noex b o e), I.base.free b o (I.ok.bs b o e).1 (I.ok.bs b o e).2 (I.ok.noex b o e)⟩
theorem Inv.bk (I : Inv X pins σ H s) : ∀ b o, X.base.get? b = some o → s.heap.get? b = some o := fun b o e => (I.bs b o e).1
theorem Inv.mod (I : Inv X pins σ H s) : Mod X.K X.mg X.base := I.ok.mod
theorem Inv.qt (I : Inv X pins σ H s) : Qt X.A H := by
  rcases I.ok.hd with q | ⟨a, o, vs, e, f, r⟩
  · exact .inl q
  · exact .inr ⟨a, o, vs, e, I.base.frzs _ _ _ f, r⟩
theorem Inv.hq (I : Inv X pins σ H s) : QQ.Hq X.A s.heap := by
  rcases I.qt with q | ⟨a, o, vs, e, f, r⟩
  · exact .inl q
  · obtain ⟨g, _⟩ := I.hok a _ f
    exact .inr ⟨a, o, vs, e, g, r⟩
theorem Inv.kIn (I : Inv X pins σ H s) : X.K.In s.heap := I.ok.mod.kin.keeps I.bk
theorem Inv.nolimit (I : Inv X pins σ H s) : s.heap.NoLimit := I.ok.mod.nolimit.keeps I.bk
/-- the frame over the base: for OpenK's rules (K.In X.base is I.mod.kin) -/
theorem Inv.fr (I : Inv X pins σ H s) : ∃ m, Fr X.base X.env.locals s.heap m :=
  let ⟨m, hn, _⟩ := I.loc
  ⟨m, hn, I.bk, Nat.le_trans I.ok.bsz I.ok.above⟩
theorem Inv.lt (I : Inv X pins σ H s) : X.env.locals < s.heap.objs.size := let ⟨_, hn, _⟩ := I.loc; hn.lt
theorem Inv.sz (I : Inv X pins σ H s) : X.s₀.heap.objs.size ≤ s.heap.objs.size := Nat.le_trans I.ok.above (Nat.le_of_lt I.lt)
theorem Inv.nofs (I : Inv X pins σ H s) {a : Addr} (h : s.heap.objs.size ≤ a) : a ∉ X.fs := fun hb => by
  obtain ⟨_, o, ho, _⟩ := I.ok.funs.mem hb
  exact absurd (Nat.lt_of_lt_of_le (Heap.lt_size ho) (Nat.le_trans I.sz h)) (Nat.lt_irrefl _)
theorem Inv.cne (I : Inv X pins σ H s) : ∀ x c, X.env.cells.lookup x = some c → c ≠ X.env.locals := fun x c e z => by
  obtain ⟨v, o, ho, hd⟩ := I.cell x c e
  obtain ⟨m, ⟨o', es, ep, ho', hd', _⟩, _⟩ := I.loc
  rw [z, ho'] at ho; cases ho; rw [hd'] at hd; cases hd
theorem Inv.funs (I : Inv X pins σ H s) : s.heap.FunFrames X.base X.outer := by
  have all : ∀ (l : List Env), (∀ b ∈ frs l, b ∈ X.fs) → X.s₀.heap.FunFrames X.base l → s.heap.FunFrames X.base l := by
    intro l
    induction l with
    | nil => intro _ _; trivial
    | cons env r ih =>
      intro hs hl
      obtain ⟨hk, ⟨L, o, hf, hn, ho, hd⟩, hr⟩ := hl
      have hL : L ∈ X.fs := hs L (by unfold frs; rw [List.filterMap_cons, hf]; exact List.mem_cons_self)
      obtain ⟨sl, e⟩ := I.base.slot L o ho (I.ok.frf L hL) hL fun z => I.ok.exfs L z hL
      exact ⟨hk, ⟨L, _, hf, hn, e, hd⟩, ih (fun b hb => hs b (by unfold frs; rw [List.filterMap_cons, hf]; exact List.mem_cons_of_mem _ hb)) hr⟩
  exact all X.outer (fun _ hb => hb) I.ok.funs

/-- the frames that run, for a call -/
theorem Inv.stack (I : Inv X pins σ H s) : s.heap.FunFrames X.base X.stack := by
  rcases I.ok.stk with e | ⟨e, hf⟩
  · rw [e]; exact I.funs
  · rw [e]
    obtain ⟨m, hn, _⟩ := I.loc
    refine .cons (by rw [I.ok.kind]; decide) hf hn ?_ I.funs
    exact Heap.get?_none_of_le (Nat.le_trans I.ok.bsz I.ok.above)
theorem Inv.stkSub (I : Inv X pins σ H s) : ∀ b ∈ frs X.stack, b ∈ X.env.locals :: X.fs := fun b hb => by
  rcases I.ok.stk with e | ⟨e, hf⟩
  · rw [e] at hb; exact List.mem_cons_of_mem _ hb
  · rw [e] at hb
    unfold frs at hb
    rw [List.filterMap_cons, hf] at hb
    exact hb
theorem Inv.stkFree (I : Inv X pins σ H s) : ∀ b ∈ frs X.stack, H b = none := fun b hb => by
  rcases List.mem_cons.mp (I.stkSub b hb) with e | hb
  · rw [e]; exact I.free
  · obtain ⟨_, o, ho, _⟩ := I.ok.funs.mem hb
    exact I.base.free b o ho (I.ok.frf b hb) fun z => I.ok.exfs b z hb

/-- THE STEP: the untracked objects but the frame and the records at ch are kept (the callers' frames up to slots), the frame's map is kept, the new abstract heap is held -/
theorem Inv.step {g' : Array GenState} {t' : Nat} {d' : Drawn} {ch : List Addr} (I : Inv X pins σ H s)
    (hch : ∀ b ∈ ch, (b ∈ X.ex ∨ X.s₀.heap.objs.size ≤ b) ∧ b ≠ X.env.locals ∧ (∀ x c, X.env.cells.lookup x = some c → c ≠ b) ∧ ∀ p ∈ X.pn ++ pins, p.1 ≠ b)
    (keep : ∀ b o, b ≠ X.env.locals → b ∉ X.fs → b ∉ ch → s.heap.get? b = some o → H b = none → h'.get? b = some o)
    (slot : ∀ b o, b ≠ X.env.locals → b ∈ X.fs → b ∉ ch → s.heap.get? b = some o → H b = none → ∃ sl, h'.get? b = some { o with slots := sl }) (free : ∀ b o, b ∉ ch → s.heap.get? b = some o → H b = none → H' b = none)
    (there : ∀ b o, b ∉ ch → s.heap.get? b = some o → ∃ o', h'.get? b = some o')
    (tups : ∀ b xs, H b = some (.tup xs) → H' b = some (.tup xs)) (frzs : ∀ b o u, H b = some (.frz o u) → H' b = some (.frz o u)) (tbls : ∀ b ps, H b = some (.tbl ps) → ∃ more, H' b = some (.tbl (ps ++ more)))
    (ns : ∀ m, s.heap.Ns X.env.locals m → h'.Ns X.env.locals m) (hok : HOk X.prog X.w H' h') (hg : AllBare g') :
    Inv X pins σ H' { s with heap := h', gens := g', drawn := d', toks := t' } := by
  have neL : ∀ b o, X.s₀.heap.get? b = some o → b ≠ X.env.locals := fun b o e => Nat.ne_of_lt (Nat.lt_of_lt_of_le (Heap.lt_size e) I.ok.above)
  have neC : ∀ b o, X.s₀.heap.get? b = some o → b ∉ X.ex → b ∉ ch := fun b o e hx hb => by
    rcases (hch b hb).1 with z | z
    · exact hx z
    · exact absurd (Nat.lt_of_lt_of_le (Heap.lt_size e) z) (Nat.lt_irrefl _)
  have cellK : ∀ x c, X.env.cells.lookup x = some c → ∀ v, s.heap.IsCell c v → h'.IsCell c v := fun x c e v ⟨o, ho, hd⟩ => by
    have nch : c ∉ ch := fun z => (hch c z).2.2.1 x c e rfl
    by_cases hc : c ∈ X.fs
    · obtain ⟨sl, q⟩ := slot c o (I.cne x c e) hc nch ho (I.freeC x c e)
      exact ⟨_, q, hd⟩
    · exact ⟨o, keep c o (I.cne x c e) hc nch ho (I.freeC x c e), hd⟩
  refine ⟨I.ok, I.os, hg, ⟨fun b o e n hb hx => ?_, fun b o e n hb hx => ?_, fun b o e n hx => ?_, fun b o e hx => ?_, fun b xs e => tups b xs (I.base.tups b xs e), fun b o xs e => frzs b o xs (I.base.frzs b o xs e), fun b ps e => ?_⟩, ?_, fun x c e => ?_, ?_, fun x c e => ?_, fun p hp => ?_, hok, I.len⟩
  · exact keep b o (neL b o e) hb (neC b o e hx) (I.base.keep b o e n hb hx) (I.base.free b o e n hx)
  · obtain ⟨sl, e1⟩ := I.base.slot b o e n hb hx
    obtain ⟨sl', e2⟩ := slot b _ (neL b o e) hb (neC b o e hx) e1 (I.base.free b o e n hx)
    exact ⟨sl', e2⟩
  · obtain ⟨o', e1⟩ := I.base.there b o e hx
    exact free b o' (neC b o e hx) e1 (I.base.free b o e n hx)
  · obtain ⟨o', e1⟩ := I.base.there b o e hx
    exact there b o' (neC b o e hx) e1
  · obtain ⟨m1, e1⟩ := I.base.tbls b ps e
    obtain ⟨m2, e2⟩ := tbls b _ e1
    exact ⟨m1 ++ m2, by rw [e2, Array.append_assoc]⟩
  · obtain ⟨m, hn, hl⟩ := I.loc
    refine ⟨m, ns m hn, fun i x v e1 e2 e3 => ?_⟩
    obtain ⟨u, r, l⟩ := hl i x v e1 e2 e3
    refine ⟨u, r, ?_⟩
    rcases l with l | ⟨k, c, e, z⟩
    · exact .inl l
    · exact .inr ⟨k, c, e, cellK x c e _ z⟩
  · obtain ⟨v, z⟩ := I.cell x c e
    exact ⟨v, cellK x c e v z⟩
  · obtain ⟨m, ⟨o, _, _, ho, _⟩, _⟩ := I.loc
    exact free _ o (fun z => (hch _ z).2.1 rfl) ho I.free
  · obtain ⟨v, o, ho, hd⟩ := I.cell x c e
    exact free c o (fun z => (hch c z).2.2.1 x c e rfl) ho (I.freeC x c e)
  · obtain ⟨e, n, ne, nf, d⟩ := I.pin p hp
    have nch : p.1 ∉ ch := fun z => (hch p.1 z).2.2.2 p hp rfl
    exact ⟨keep p.1 p.2 ne nf nch e n, free p.1 p.2 nch e n, ne, nf, d⟩
theorem Inv.step0 {g' : Array GenState} {t' : Nat} {d' : Drawn} {ch : List Addr} (I : Inv X pins σ H s)
    (hch : ∀ b ∈ ch, (b ∈ X.ex ∨ X.s₀.heap.get? b = none) ∧ b ≠ X.env.locals ∧ (∀ x c, X.env.cells.lookup x = some c → c ≠ b) ∧ ∀ p ∈ X.pn ++ pins, p.1 ≠ b)
    (keep : ∀ b o, b ≠ X.env.locals → b ∉ X.fs → b ∉ ch → s.heap.get? b = some o → H b = none → h'.get? b = some o)
    (slot : ∀ b o, b ≠ X.env.locals → b ∈ X.fs → b ∉ ch → s.heap.get? b = some o → H b = none → ∃ sl, h'.get? b = some { o with slots := sl }) (free : ∀ b o, b ∉ ch → s.heap.get? b = some o → H b = none → H' b = none)
    (there : ∀ b o, b ∉ ch → s.heap.get? b = some o → ∃ o', h'.get? b = some o')
    (tups : ∀ b xs, H b = some (.tup xs) → H' b = some (.tup xs)) (frzs : ∀ b o u, H b = some (.frz o u) → H' b = some (.frz o u)) (tbls : ∀ b ps, H b = some (.tbl ps) → ∃ more, H' b = some (.tbl (ps ++ more)))
    (ns : ∀ m, s.heap.Ns X.env.locals m → h'.Ns X.env.locals m) (hok : HOk X.prog X.w H' h') (hg : AllBare g') :
    Inv X pins σ H' { s with heap := h', gens := g', drawn := d', toks := t' } := by
  have neL : ∀ b o, X.s₀.heap.get? b = some o → b ≠ X.env.locals := fun b o e => Nat.ne_of_lt (Nat.lt_of_lt_of_le (Heap.lt_size e) I.ok.above)
  have neC : ∀ b o, X.s₀.heap.get? b = some o → b ∉ X.ex → b ∉ ch := fun b o e hx hb => by
    rcases (hch b hb).1 with z | z
    · exact hx z
    · rw [e] at z; cases z
  have cellK : ∀ x c, X.env.cells.lookup x = some c → ∀ v, s.heap.IsCell c v → h'.IsCell c v := fun x c e v ⟨o, ho, hd⟩ => by
    have nch : c ∉ ch := fun z => (hch c z).2.2.1 x c e rfl
    by_cases hc : c ∈ X.fs
    · obtain ⟨sl, q⟩ := slot c o (I.cne x c e) hc nch ho (I.freeC x c e)
      exact ⟨_, q, hd⟩
    · exact ⟨o, keep c o (I.cne x c e) hc nch ho (I.freeC x c e), hd⟩
  refine ⟨I.ok, I.os, hg, ⟨fun b o e n hb hx => ?_, fun b o e n hb hx => ?_, fun b o e n hx => ?_, fun b o e hx => ?_, fun b xs e => tups b xs (I.base.tups b xs e), fun b o xs e => frzs b o xs (I.base.frzs b o xs e), fun b ps e => ?_⟩, ?_, fun x c e => ?_, ?_, fun x c e => ?_, fun p hp => ?_, hok, I.len⟩
  · exact keep b o (neL b o e) hb (neC b o e hx) (I.base.keep b o e n hb hx) (I.base.free b o e n hx)
  · obtain ⟨sl, e1⟩ := I.base.slot b o e n hb hx
    obtain ⟨sl', e2⟩ := slot b _ (neL b o e) hb (neC b o e hx) e1 (I.base.free b o e n hx)
    exact ⟨sl', e2⟩
  · obtain ⟨o', e1⟩ := I.base.there b o e hx
    exact free b o' (neC b o e hx) e1 (I.base.free b o e n hx)
  · obtain ⟨o', e1⟩ := I.base.there b o e hx
    exact there b o' (neC b o e hx) e1
  · obtain ⟨m1, e1⟩ := I.base.tbls b ps e
    obtain ⟨m2, e2⟩ := tbls b _ e1
    exact ⟨m1 ++ m2, by rw [e2, Array.append_assoc]⟩
  · obtain ⟨m, hn, hl⟩ := I.loc
    refine ⟨m, ns m hn, fun i x v e1 e2 e3 => ?_⟩
    obtain ⟨u, r, l⟩ := hl i x v e1 e2 e3
    refine ⟨u, r, ?_⟩
    rcases l with l | ⟨k, c, e, z⟩
    · exact .inl l
    · exact .inr ⟨k, c, e, cellK x c e _ z⟩
  · obtain ⟨v, z⟩ := I.cell x c e
    exact ⟨v, cellK x c e v z⟩
  · obtain ⟨m, ⟨o, _, _, ho, _⟩, _⟩ := I.loc
    exact free _ o (fun z => (hch _ z).2.1 rfl) ho I.free
  · obtain ⟨v, o, ho, hd⟩ := I.cell x c e
    exact free c o (fun z => (hch c z).2.2.1 x c e rfl) ho (I.freeC x c e)
  · obtain ⟨e, n, ne, nf, d⟩ := I.pin p hp
    have nch : p.1 ∉ ch := fun z => (hch p.1 z).2.2.2 p hp rfl
    exact ⟨keep p.1 p.2 ne nf nch e n, free p.1 p.2 nch e n, ne, nf, d⟩
/-- .. where the frame's own object is kept too -/
theorem Inv.un {t' : Nat} (I : Inv X pins σ H s) (u : Un X.fs [] H H' s.heap h') (hok : HOk X.prog X.w H' h') : Inv X pins σ H' { s with heap := h', toks := t' } := by
  obtain ⟨m, ⟨o, es, ep, ho, r⟩, _⟩ := id I.loc
  obtain ⟨sl, hL⟩ := u.any ho I.free (by simp)
  exact I.step (g' := s.gens) (d' := s.drawn) (ch := []) (fun _ z => nomatch z) (fun b o _ hb _ e n => u.keep b o e n hb (by simp)) (fun b o _ hb _ e n => u.slot b o e n hb (by simp)) (fun b o _ e n => u.free b o e n (by simp)) (fun b o _ e => u.there b o e (by simp)) u.tups u.frzs u.tbls (fun m' hm => by
    obtain ⟨o', es', ep', ho', r'⟩ := hm
    rw [ho] at ho'; cases ho'
    exact ⟨_, es', ep', hL, r'⟩) hok I.bare
/-- behind a call (or a comprehension's block): the slots of this frame may have changed too, the records at ch may have turned -/
theorem Inv.call {g' : Array GenState} {t' : Nat} {d' : Drawn} {ch : List Addr} (I : Inv X pins σ H s) (u : Un (frs X.stack) ch H H' s.heap h') (hok : HOk X.prog X.w H' h') (hg : AllBare g')
    (hch : ∀ b ∈ ch, (b ∈ X.ex ∨ X.s₀.heap.objs.size ≤ b) ∧ b ≠ X.env.locals ∧ (∀ x c, X.env.cells.lookup x = some c → c ≠ b) ∧ ∀ p ∈ X.pn ++ pins, p.1 ≠ b) :
    Inv X pins σ H' { s with heap := h', gens := g', drawn := d', toks := t' } := by
  obtain ⟨m, ⟨o, es, ep, ho, r⟩, _⟩ := id I.loc
  obtain ⟨sl, hL⟩ := u.any ho I.free fun z => (hch _ z).2.1 rfl
  exact I.step (ch := ch) hch (fun b o hL hb hc e n => u.keep b o e n (fun z => (List.mem_cons.mp (I.stkSub b z)).elim hL hb) hc) (fun b o _ _ hc e n => u.any e n hc) (fun b o hc e n => u.free b o e n hc) (fun b o hc e => u.there b o e hc) u.tups u.frzs u.tbls (fun m' hm => by
    obtain ⟨o', es', ep', ho', r'⟩ := hm
    rw [ho] at ho'; cases ho'
    exact ⟨_, es', ep', hL, r'⟩) hok hg
/-- an untracked record of ours (an iterator) has turned -/
theorem Inv.turned {t' : Nat} {it : Addr} (I : Inv X pins σ H s) (k : ∀ b o, b ≠ it → s.heap.get? b = some o → h'.get? b = some o) (hn : H it = none) (hL : it ≠ X.env.locals)
    (h1 : it ∈ X.ex ∨ X.s₀.heap.objs.size ≤ it) (h2 : ∀ x c, X.env.cells.lookup x = some c → c ≠ it) (h3 : ∀ p ∈ X.pn ++ pins, p.1 ≠ it) : Inv X pins σ H { s with heap := h', toks := t' } := by
  have nit : ∀ b u, H b = some u → b ≠ it := fun b u e z => by rw [z, hn] at e; cases e
  refine I.step (g' := s.gens) (d' := s.drawn) (ch := [it]) (fun b hb => ?_) (fun b o _ _ hc e _ => k b o (fun z => hc (by simp [z])) e) (fun b o _ _ hc e _ => ⟨o.slots, k b o (fun z => hc (by simp [z])) e⟩) (fun _ _ _ _ n => n)
    (fun b o hc e => ⟨o, k b o (fun z => hc (by simp [z])) e⟩) (fun _ _ e => e) (fun _ _ _ e => e) (fun b ps e => ⟨#[], by rw [e]; simp⟩) (fun m hm => ?_) (fun b u e => ?_) I.bare
  · have e : b = it := by simpa using hb
    subst e
    exact ⟨h1, hL, h2, h3⟩
  · obtain ⟨o, es, ep, ho, r⟩ := hm
    exact ⟨o, es, ep, k _ o (Ne.symm hL) ho, r⟩
  · refine (I.hok b u e).stay (fun c v hc q => k c v ?_ q) (fun _ q => q) fun _ _ q => q
    rcases hc with z | z
    · rw [z]; exact nit b u e
    · exact nit c _ z
theorem Inv.tok (I : Inv X pins σ H s) (t : Nat) : Inv X pins σ H { s with toks := t } := I.un (h' := s.heap) (t' := t) Un.refl I.hok
/-- all objects kept -/
theorem Inv.kept {t' : Nat} (I : Inv X pins σ H s) (k : ∀ b u, s.heap.get? b = some u → h'.get? b = some u) : Inv X pins σ H { s with heap := h', toks := t' } := I.un (Un.kept k) (I.hok.kept k)
/-- a new object laid and tracked -/
theorem Inv.laid {a : Addr} {o : HO} {t' : Nat} (I : Inv X pins σ H s) (k : ∀ b u, s.heap.get? b = some u → h'.get? b = some u) (hp : s.heap.objs.size ≤ a) (new : ObjOk X.prog X.w (upd H a o) h' a o) :
    Inv X pins σ (upd H a o) { s with heap := h', toks := t' } := I.un (Un.laid k hp (I.hok.fresh hp)) (I.hok.laid k hp new)
/-- an object written -/
theorem Inv.write {x e : Addr} {o : HO} {t' : Nat} (I : Inv X pins σ H s) (mu : Mut (H x)) (he : e = x ∨ H e = some (.own x)) (k : ∀ b u, b ≠ e → s.heap.get? b = some u → h'.get? b = some u) (heo : ∃ u, h'.get? e = some u)
    (new : ObjOk X.prog X.w (upd H x o) h' x o) : Inv X pins σ (upd H x o) { s with heap := h', toks := t' } := I.un (Un.write mu he k heo) (I.hok.write mu he k heo new)
theorem Inv.pins_of {pins' : List (Addr × Obj)} (I : Inv X pins σ H s) (h : ∀ p ∈ pins', s.heap.get? p.1 = some p.2 ∧ H p.1 = none ∧ p.1 ≠ X.env.locals ∧ p.1 ∉ X.fs ∧ ∀ v, p.2.data ≠ .cell v) : Inv X pins' σ H s :=
  ⟨I.ok, I.os, I.bare, I.base, I.loc, I.cell, I.free, I.freeC, fun p hp => (List.mem_append.mp hp).elim (fun z => I.pin p (List.mem_append_left _ z)) (h p), I.hok, I.len⟩

theorem nodup_ix {N : List Str} (hN : N.Nodup) {i j : Nat} {x : Str} (a : N[i]? = some x) (b : N[j]? = some x) : i = j := by
  obtain ⟨h1, e1⟩ := List.getElem?_eq_some_iff.mp a
  obtain ⟨h2, e2⟩ := List.getElem?_eq_some_iff.mp b
  exact (List.getElem_inj hN).mp (e1.trans e2.symm)

/-- a name is stored; what changed -/
theorem store_ok2 {M : Model} {A : Around} {E : Value → Shared → Prop} {i : Nat} {x : Str} {v : V} {u : Value} {Q : Unit → Shared → Prop} (I : Inv X pins σ H s) (hN : X.N.Nodup) (hi : X.N[i]? = some x) (hx : Loc X.env.scope x) (r : RelV v u)
    (h : ∀ s', Inv X pins (σ.set i (some v)) H s' → (∃ a, Heap.SameBut a s.heap s'.heap ∧ (a = X.env.locals ∨ X.env.cells.lookup x = some a)) → Q () s') (hf : X.fn x = true ∨ X.env.scope.names.lookup x = some .local := by first | exact .inl rfl | exact .inr rfl | assumption) : wpAny M A (storeName X.env x u) Q E s := by
  obtain ⟨m, hn, hl⟩ := id I.loc
  have hcls : (X.env.scope.kind == .class || (X.env.scope.kind == .module && X.env.locals != X.env.globals)) = false := by rw [I.ok.kind]; rfl
  have hiσ : i < σ.length := by rw [I.len]; exact (List.getElem?_eq_some_iff.mp hi).1
  have cne := I.cne
  have tracked : ∀ {a : Addr} {h' : Heap}, (∃ o, s.heap.get? a = some o ∧ H a = none) → Heap.SameBut a s.heap h' → HOk X.prog X.w H h' := fun {a h'} ha hs b ob e => by
    obtain ⟨_, _, hfree⟩ := ha
    refine (I.hok b ob e).stay (fun c w' hc q => (hs.2 c ?_).trans q) (fun _ q => q) fun _ _ q => q
    rintro rfl
    rcases hc with rfl | hc
    · rw [hfree] at e; cases e
    · rw [hfree] at hc; cases hc
  rcases hx with hk | hk
  · refine wpAny_storeName_local hk hn (fun h' hn' hs => ?_) hcls
    obtain ⟨oL, _, _, hoL, _⟩ := id hn
    refine h _ ⟨I.ok, I.os, I.bare, ⟨fun b o e n hb hx => ?_, fun b o e n hb hx => ?_, I.base.free, fun b o e hx => ?_, I.base.tups, I.base.frzs, I.base.tbls⟩, ⟨_, hn', fun j y v' e1 e2 e3 => ?_⟩, fun y c e => ?_, I.free, I.freeC, fun p hp => ?_, tracked ⟨oL, hoL, I.free⟩ hs, by simpa using I.len⟩ ⟨_, hs, .inl rfl⟩
    · exact (hs.2 b (Nat.ne_of_lt (Nat.lt_of_lt_of_le (Heap.lt_size e) I.ok.above))).trans (I.base.keep b o e n hb hx)
    · obtain ⟨sl, e1⟩ := I.base.slot b o e n hb hx
      exact ⟨sl, (hs.2 b (Nat.ne_of_lt (Nat.lt_of_lt_of_le (Heap.lt_size e) I.ok.above))).trans e1⟩
    · obtain ⟨o', e1⟩ := I.base.there b o e hx
      exact ⟨o', (hs.2 b (Nat.ne_of_lt (Nat.lt_of_lt_of_le (Heap.lt_size e) I.ok.above))).trans e1⟩
    · by_cases hj : j = i
      · subst hj
        rw [hi] at e1; cases e1
        rw [List.getElem?_set_self hiσ] at e2
        cases e2
        exact ⟨u, r, .inl ⟨hk, by simp⟩⟩
      · rw [List.getElem?_set_ne (Ne.symm hj)] at e2
        obtain ⟨u', r', q⟩ := hl j y v' e1 e2 e3
        refine ⟨u', r', ?_⟩
        rcases q with ⟨k, e⟩ | ⟨k, c, e, z⟩
        · refine .inl ⟨k, ?_⟩
          have : y ≠ x := fun e => hj (nodup_ix hN e1 (e ▸ hi))
          simp [this, e]
        · exact .inr ⟨k, c, e, z.sameBut hs (cne y c e)⟩
    · obtain ⟨w', z⟩ := I.cell y c e
      exact ⟨w', z.sameBut hs (cne y c e)⟩
    · obtain ⟨e, n, ne, nf, d⟩ := I.pin p hp
      exact ⟨(hs.2 p.1 ne).trans e, n, ne, nf, d⟩
  · have hfn : X.fn x = true := by
      rcases hf with z | z
      · exact z
      · rw [z] at hk; cases hk
    obtain ⟨c, hc⟩ := I.ok.has x (.inl hk)
    obtain ⟨w', z⟩ := I.cell x c hc
    refine wpAny_storeName_cell I.ok.kind hk hc z (fun h' hc' hs => ?_)
    obtain ⟨oc, hoc, hocd⟩ := id z
    refine h { s with heap := h' } ⟨I.ok, I.os, I.bare, ⟨fun b o e n hb hx => ?_, fun b o e n hb hx => ?_, I.base.free, fun b o e hx => ?_, I.base.tups, I.base.frzs, I.base.tbls⟩, ⟨m, hn.sameBut hs (Ne.symm (cne x c hc)), fun j y v' e1 e2 e3 => ?_⟩, fun y c' e => ?_, I.free, I.freeC, fun p hp => ?_, tracked ⟨oc, hoc, I.freeC x c hc⟩ hs, by simpa using I.len⟩ ⟨c, hs, .inr hc⟩
    · exact (hs.2 b (Nat.ne_of_lt (Nat.lt_of_lt_of_le (Heap.lt_size e) (I.ok.cab x c hfn hc)))).trans (I.base.keep b o e n hb hx)
    · obtain ⟨sl, e1⟩ := I.base.slot b o e n hb hx
      exact ⟨sl, (hs.2 b (Nat.ne_of_lt (Nat.lt_of_lt_of_le (Heap.lt_size e) (I.ok.cab x c hfn hc)))).trans e1⟩
    · obtain ⟨o', e1⟩ := I.base.there b o e hx
      exact ⟨o', (hs.2 b (Nat.ne_of_lt (Nat.lt_of_lt_of_le (Heap.lt_size e) (I.ok.cab x c hfn hc)))).trans e1⟩
    · by_cases hj : j = i
      · subst hj
        rw [hi] at e1; cases e1
        rw [List.getElem?_set_self hiσ] at e2
        cases e2
        exact ⟨u, r, .inr ⟨.inl hk, c, hc, hc'⟩⟩
      · rw [List.getElem?_set_ne (Ne.symm hj)] at e2
        obtain ⟨u', r', q⟩ := hl j y v' e1 e2 e3
        refine ⟨u', r', ?_⟩
        rcases q with q | ⟨k, c', e, z'⟩
        · exact .inl q
        · refine .inr ⟨k, c', e, z'.sameBut hs ?_⟩
          rintro rfl
          exact hj (nodup_ix hN e1 (I.ok.inj _ _ _ e hc ▸ hi))
    · by_cases hcc : c' = c
      · subst hcc; exact ⟨_, hc'⟩
      · obtain ⟨w2, z2⟩ := I.cell y c' e
        exact ⟨w2, z2.sameBut hs hcc⟩
    · obtain ⟨e, n, ne, nf, d⟩ := I.pin p hp
      refine ⟨(hs.2 p.1 ?_).trans e, n, ne, nf, d⟩
      intro q
      rw [q, hoc] at e
      have q' : oc = p.2 := Option.some.inj e
      exact d w' (by rw [← q']; exact hocd)
theorem store_ok {M : Model} {A : Around} {E : Value → Shared → Prop} {i : Nat} {x : Str} {v : V} {u : Value} {Q : Unit → Shared → Prop} (I : Inv X pins σ H s) (hN : X.N.Nodup) (hi : X.N[i]? = some x) (hx : Loc X.env.scope x) (r : RelV v u)
    (h : ∀ s', Inv X pins (σ.set i (some v)) H s' → Q () s') (hf : X.fn x = true ∨ X.env.scope.names.lookup x = some .local := by first | exact .inl rfl | exact .inr rfl | assumption) : wpAny M A (storeName X.env x u) Q E s :=
  store_ok2 I hN hi hx r (fun s' I' _ => h s' I') hf
/-- behind a call or a block, the state as it is -/
theorem Inv.call' {s' : Shared} {ch : List Addr} (I : Inv X pins σ H s) (ho : s'.os = s.os) (u : Un (frs X.stack) ch H H' s.heap s'.heap) (hok : HOk X.prog X.w H' s'.heap) (hg : AllBare s'.gens)
    (hch : ∀ b ∈ ch, (b ∈ X.ex ∨ X.s₀.heap.objs.size ≤ b) ∧ b ≠ X.env.locals ∧ (∀ x c, X.env.cells.lookup x = some c → c ≠ b) ∧ ∀ p ∈ X.pn ++ pins, p.1 ≠ b) : Inv X pins σ H' s' := by
  obtain ⟨h', g', d', t', o'⟩ := s'
  have e : o' = s.os := ho
  subst e
  exact I.call (g' := g') (t' := t') (d' := d') u hok hg hch
end

/-! ### the judgements -/
/-- an exception: its class, its own dict's address (where it has one), the abstract heap behind it -/
abbrev XK := Value → Option Addr → Hp → Prop
abbrev St := List (Option V)
abbrev VK := V → Hp → Prop
/-- an expression's reading; a test's; an argument list's -/
abbrev TE := St → Hp → VK → Prop
abbrev TT := St → Hp → (Bool → Hp → Prop) → Prop
abbrev TA := St → Hp → (List V → Hp → Prop) → Prop
/-- what is wanted behind a statement -/
structure Ends where
  nx : St → Hp → Prop
  rt : VK
  bk : St → Hp → Prop := fun _ _ => False
  ct : St → Hp → Prop := fun _ _ => False
abbrev TS := Ends → St → Hp → Prop

def EP (X : Cx) (pins : List (Addr × Obj)) (σ : St) (Q : VK) (u : Value) (s' : Shared) : Prop := ∃ v H', Inv X pins σ H' s' ∧ RelV v u ∧ Q v H'
def TP (X : Cx) (pins : List (Addr × Obj)) (σ : St) (Q : Bool → Hp → Prop) (b : Bool) (s' : Shared) : Prop := ∃ H', Inv X pins σ H' s' ∧ Q b H'
def AP (X : Cx) (pins : List (Addr × Obj)) (σ : St) (Q : List V → Hp → Prop) (us : List Value) (s' : Shared) : Prop := ∃ vs H', Inv X pins σ H' s' ∧ Vals vs us ∧ Q vs H'
def SP (X : Cx) (pins : List (Addr × Obj)) (D : Ends) (f : Flow) (s' : Shared) : Prop :=
  match f with
  | .next => ∃ σ' H', Inv X pins σ' H' s' ∧ D.nx σ' H'
  | .brk => ∃ σ' H', Inv X pins σ' H' s' ∧ D.bk σ' H'
  | .cont => ∃ σ' H', Inv X pins σ' H' s' ∧ D.ct σ' H'
  | .ret u => ∃ v σ' H', Inv X pins σ' H' s' ∧ RelV v u ∧ D.rt v H'

def PE (X : Cx) (e : Expr) (t : TE) : Prop :=
  ∀ (pins : List (Addr × Obj)) (s : Shared) (σ : St) (H : Hp) (Q : VK), Inv X pins σ H s → t σ H Q → wpAny (model X.prog X.w) X.A (eval e X.env) (EP X pins σ Q) X.xe s
def PT (X : Cx) (e : Expr) (t : TT) : Prop :=
  ∀ (pins : List (Addr × Obj)) (s : Shared) (σ : St) (H : Hp) (Q : Bool → Hp → Prop), Inv X pins σ H s → t σ H Q → wpAny (model X.prog X.w) X.A (isTrue e X.env (eval e X.env)) (TP X pins σ Q) X.xe s
/-- a test whatever its 'whole' is (and, or) -/
def PW (X : Cx) (e : Expr) (t : TT) : Prop :=
  ∀ (whole : Sem Value) (pins : List (Addr × Obj)) (s : Shared) (σ : St) (H : Hp) (Q : Bool → Hp → Prop), Inv X pins σ H s → t σ H Q → wpAny (model X.prog X.w) X.A (isTrue e X.env whole) (TP X pins σ Q) X.xe s
theorem PW.pt {X : Cx} {e : Expr} {t : TT} (h : PW X e t) : PT X e t := h _
/-- an argument list (no star), from the left -/
def PA (X : Cx) (es : List Expr) (t : TA) : Prop :=
  ∀ (pos : Pos) (pins : List (Addr × Obj)) (s : Shared) (σ : St) (H : Hp) (Q : List V → Hp → Prop), Inv X pins σ H s → t σ H Q → wpAny (model X.prog X.w) X.A (spliced (backTo pos (starEach es X.env))) (AP X pins σ Q) X.xe s
def PS (X : Cx) (st : Stmt) (t : TS) : Prop :=
  ∀ (pins : List (Addr × Obj)) (s : Shared) (σ : St) (H : Hp) (D : Ends), Inv X pins σ H s → t D σ H → wpAny (model X.prog X.w) X.A (exec st X.env) (SP X pins D) X.xe s
def PSs (X : Cx) (st : List Stmt) (t : TS) : Prop :=
  ∀ (pins : List (Addr × Obj)) (s : Shared) (σ : St) (H : Hp) (D : Ends), Inv X pins σ H s → t D σ H → wpAny (model X.prog X.w) X.A (execs st X.env) (SP X pins D) X.xe s
/-- weaken the end -/
theorem thn {α : Type} {t : Sem α} {Q Q' : α → Shared → Prop} {M : Model} {A : Around} {E : Value → Shared → Prop} {s : Shared} (h : wpAny M A t Q E s) (hQ : ∀ a s, Q a s → Q' a s) : wpAny M A t Q' E s := wpAny_mono h hQ fun _ _ x => x
end L2

namespace L2
open PySem PySem.Spec PyProof.Rows
section
variable {X : Cx}

/-! ### names and constants -/
def tVar (i : Nat) : TE := fun σ H Q => ∃ v, σ[i]? = some (some v) ∧ Q v H
def tC (v : V) : TE := fun _ H Q => Q v H
theorem pe_var {i : Nat} {x : Str} {pos : Pos} (hN : X.N[i]? = some x) (hv : Vis X.env.scope x) (hd : (x == ("__debug__" : Str)) = false := by decide) (hcd : (x == ("__classdict__" : Str)) = false := by decide) : PE X (.Name x pos) (tVar i) := by
  intro pins s σ H Q I h
  obtain ⟨v, e, h⟩ := h
  obtain ⟨m, hn, hl⟩ := I.loc
  obtain ⟨u, r, l⟩ := hl i x v hN e hv
  have fin : EP X pins σ Q u s := ⟨v, H, I, r, h⟩
  rcases l with ⟨hk, hm⟩ | ⟨hk, c, hc, hcell⟩
  · exact wpAny_Name (wpAny_loadName_local I.ok.kind hk hn hm fin) hd
  · rcases hk with hk | hk
    · exact wpAny_Name (wpAny_loadName_cell I.ok.kind hk hc hcell fin) hd
    · exact wpAny_Name (wpAny_loadName_free I.ok.kind hk hc hcell fin hcd) hd
theorem pe_int {i j pos} : PE X (.Constant (.int i) j pos) (tC (.int i)) := fun _ _ _ H _ I h => wpAny_Constant_int ⟨.int i, H, I.tok _, ⟨_, rfl⟩, h⟩
theorem pe_bl {b j pos} : PE X (.Constant (.bool b) j pos) (tC (.bl b)) := fun _ _ _ H _ I h => Constant_bool ⟨.bl b, H, I, rfl, h⟩
theorem pe_non {j pos} : PE X (.Constant .none j pos) (tC .non) := fun _ _ _ H _ I h => Constant_none ⟨.non, H, I, rfl, h⟩
theorem pe_str {x j pos} : PE X (.Constant (.str x) j pos) (tC (.str x)) := fun _ _ _ H _ I h => Calls.Constant_str ⟨.str x, H, I.tok _, ⟨_, rfl⟩, h⟩

/-- a global name of the def -/
def Gl (X : Cx) (x : Str) : Prop := X.env.kindOf x = some .globalImplicit
theorem ld_glob {E : Value → Shared → Prop} {pins : List (Addr × Obj)} {s : Shared} {σ : St} {H : Hp} {x : Str} {u : Value} {pos : Pos} {Q : Value → Shared → Prop} (I : Inv X pins σ H s) (hg : Gl X x) (hm : X.mg x = some u) (h : Q u s)
    (hd : (x == ("__debug__" : Str)) = false := by decide) : wpAny (model X.prog X.w) X.A (eval (.Name x pos) X.env) Q E s :=
  Calls.Name_function_global I.ok.kind hg (Calls.loadGlobal_global (by rw [I.ok.glob]; exact I.mod.glob.keeps I.bk) hm h) hd
theorem ld_blt {E : Value → Shared → Prop} {pins : List (Addr × Obj)} {s : Shared} {σ : St} {H : Hp} {x : Str} {u : Value} {pos : Pos} {Q : Value → Shared → Prop} (I : Inv X pins σ H s) (hg : Gl X x) (hm : X.mg x = none) (hv : bootBuiltins x = some u) (h : Q u s)
    (hn : x ≠ "__name__" := by decide) (hd : (x == ("__debug__" : Str)) = false := by decide) : wpAny (model X.prog X.w) X.A (eval (.Name x pos) X.env) Q E s := by
  obtain ⟨mb, h1, h2⟩ := I.mod.blt
  exact Calls.Name_function_global I.ok.kind hg (Calls.loadGlobal_builtin (by rw [I.ok.glob]; exact I.mod.glob.keeps I.bk) hm (by rw [I.ok.blt]; exact h1.keeps I.bk) ((h2 x hn).trans hv) h) hd
/-- a module's constant, a class, a function, as a value -/
theorem pe_glob {x : Str} {v : V} {u : Value} {pos : Pos} (hg : Gl X x) (hm : X.mg x = some u) (r : RelV v u) (hd : (x == ("__debug__" : Str)) = false := by decide) : PE X (.Name x pos) (tC v) :=
  fun _ _ _ H _ I h => ld_glob I hg hm ⟨v, H, I, r, h⟩ hd
theorem pe_bltn {x : Str} {v : V} {u : Value} {pos : Pos} (hg : Gl X x) (hm : X.mg x = none) (hv : bootBuiltins x = some u) (r : RelV v u) (hn : x ≠ "__name__" := by decide) (hd : (x == ("__debug__" : Str)) = false := by decide) : PE X (.Name x pos) (tC v) :=
  fun _ _ _ H _ I h => ld_blt I hg hm hv ⟨v, H, I, r, h⟩ hn hd

/-! ### arithmetic -/
/-- two ints -/
def t2I (ta tb : TE) (k : Int → Int → Hp → Prop) : St → Hp → Prop := fun σ H => ta σ H fun x H1 => tb σ H1 fun y H2 => ∃ i j, x = .int i ∧ y = .int j ∧ k i j H2
def tAdd (ta tb : TE) : TE := fun σ H Q => t2I ta tb (fun i j H2 => Q (.int (i + j)) H2) σ H
def tSub (ta tb : TE) : TE := fun σ H Q => t2I ta tb (fun i j H2 => Q (.int (i - j)) H2) σ H
/-- the left factor below 2^64 -/
def tMul (ta tb : TE) : TE := fun σ H Q => t2I ta tb (fun i j H2 => (-(2 ^ 64) < i ∧ i < 2 ^ 64) ∧ Q (.int (i * j)) H2) σ H
variable {a b : Expr} {ta tb : TE} {pos : Pos}
/-! ### comparisons -/
def PC (X : Cx) (op : CmpOp) (a b : Expr) (t : TE) : Prop :=
  ∀ (pins : List (Addr × Obj)) (s : Shared) (σ : St) (H : Hp) (Q : VK), Inv X pins σ H s → t σ H Q →
    wpAny (model X.prog X.w) X.A (eval a X.env) (fun v s₁ => wpAny (model X.prog X.w) X.A (eval b X.env) (fun u s₂ => wpAny (model X.prog X.w) X.A (compareOp op v u) (EP X pins σ Q) X.xe s₂) X.xe s₁) X.xe s
theorem nobehind (b : Expr) {op : CmpOp} (h : op ≠ .In) (h2 : op ≠ .NotIn) : behindInMarks op b = false := by
  have e1 : (op == CmpOp.In) = false := by cases op <;> first | rfl | exact absurd rfl h
  have e2 : (op == CmpOp.NotIn) = false := by cases op <;> first | rfl | exact absurd rfl h2
  cases b <;> simp [behindInMarks, e1, e2]
def tCmp (p : Int → Int → Bool) (ta tb : TE) : TE := fun σ H Q => t2I ta tb (fun i j H2 => Q (.bl (p i j)) H2) σ H
abbrev tLt : TE → TE → TE := tCmp fun i j => decide (i < j)
abbrev tLe : TE → TE → TE := tCmp fun i j => decide (i ≤ j)
abbrev tGt : TE → TE → TE := tCmp fun i j => decide (j < i)
abbrev tGe : TE → TE → TE := tCmp fun i j => decide (j ≤ i)
abbrev tEqI : TE → TE → TE := tCmp fun i j => decide (i = j)
abbrev tNeI : TE → TE → TE := tCmp fun i j => !decide (i = j)
/-- is None -/
def tIsN (ta : TE) : TE := fun σ H Q => ta σ H fun x H1 => Q (.bl (decide (x = .non))) H1
def tNotN (ta : TE) : TE := fun σ H Q => ta σ H fun x H1 => Q (.bl (!decide (x = .non))) H1
theorem RelV.none_iff {x : V} {v : Value} (r : RelV x v) : (v == Value.none) = decide (x = .non) := by
  cases x with
  | non => cases r; rfl
  | bl _ => cases r; rfl
  | int _ => obtain ⟨t, rfl⟩ := r; rfl
  | str _ => obtain ⟨t, rfl⟩ := r; rfl
  | byt _ => obtain ⟨t, rfl⟩ := r; rfl
  | flt _ => obtain ⟨t, rfl⟩ := r; rfl
  | ref _ => cases r; rfl
  | ty _ => cases r; rfl
theorem pc_notN {j pos'} (ha : PE X a ta) : PC X .IsNot a (.Constant .none j pos') (tNotN ta) := by
  intro pins s σ H Q I h
  refine thn (ha pins s σ H _ I h) fun v s1 ⟨x, H1, I1, r1, q1⟩ => ?_
  exact Constant_none (isnot_none_gen ⟨.bl _, H1, I1, by rw [r1.none_iff]; rfl, q1⟩)
/-- a comparison as a value, as a test -/
def tB (t : TE) : TT := fun σ H Q => t σ H fun x H1 => ∃ c, x = .bl c ∧ Q c H1
theorem pt_cmp {op : CmpOp} {t : TE} (h : PC X op a b t) (h1 : behindInMarks op b = false := by first | exact nobehind _ (by decide) (by decide) | rfl) : PT X (.Compare a [op] [b] pos) (tB t) := by
  intro pins s σ H Q I hw
  refine wpAny_isTrue_Compare1 (thn (h pins s σ H _ I hw) fun v s1 h1 => thn h1 fun u s2 h2 => thn h2 fun c s3 ⟨x, H1, I1, r1, q1⟩ => ?_) h1
  obtain ⟨d, rfl, q⟩ := q1
  cases r1
  exact wpAny_truthy_bool ⟨H1, I1, q⟩
/-- an expression whose value is a bool, as a test -/
theorem pt_val {e : Expr} {t : TE} (h : PE X e t) (he : ∀ whole, isTrue e X.env whole = (do let v ← whole; standAt e.pos; holding [v] (truthy v)) := by intro _; rfl) : PT X e (tB t) := by
  intro pins s σ H Q I hw
  refine isTrue_plain (thn (h pins s σ H _ I hw) fun v s1 ⟨x, H1, I1, r1, q1⟩ => ?_) (he _)
  obtain ⟨d, rfl, q⟩ := q1
  cases r1
  exact wpAny_truthy_bool ⟨H1, I1, q⟩

/-! ### and, or, not -/
variable {tA tB' : TT} {rest : List Expr}
def tAnd (t u : TT) : TT := fun σ H Q => t σ H fun c H1 => if c = true then u σ H1 Q else Q false H1
def tOr (t u : TT) : TT := fun σ H Q => t σ H fun c H1 => if c = true then Q true H1 else u σ H1 Q
def tNot (t : TT) : TT := fun σ H Q => t σ H fun c H1 => Q (!c) H1
theorem pw_and1 (ha : PT X a tA) : PW X (.BoolOp .And [a] pos) tA := by
  intro wh pins s σ H Q I h
  refine isTrue_and (thn (ha pins s σ H Q I h) fun c s1 e => ?_)
  cases c with
  | true => exact isTrue_and_nil e
  | false => exact e
theorem pw_or1 (ha : PT X a tA) : PW X (.BoolOp .Or [a] pos) tA := by
  intro wh pins s σ H Q I h
  refine isTrue_or (thn (ha pins s σ H Q I h) fun c s1 e => ?_)
  cases c with
  | false => exact isTrue_or_nil e
  | true => exact e
theorem pw_and (ha : PT X a tA) (hb : PW X (.BoolOp .And (b :: rest) pos) tB') : PW X (.BoolOp .And (a :: b :: rest) pos) (tAnd tA tB') := by
  intro wh pins s σ H Q I h
  refine isTrue_and (thn (ha pins s σ H _ I h) fun c s1 ⟨H1, I1, q1⟩ => ?_)
  cases c with
  | true => exact hb wh pins s1 σ H1 Q I1 q1
  | false => exact ⟨H1, I1, q1⟩
theorem pw_or (ha : PT X a tA) (hb : PW X (.BoolOp .Or (b :: rest) pos) tB') : PW X (.BoolOp .Or (a :: b :: rest) pos) (tOr tA tB') := by
  intro wh pins s σ H Q I h
  refine isTrue_or (thn (ha pins s σ H _ I h) fun c s1 ⟨H1, I1, q1⟩ => ?_)
  cases c with
  | true => exact ⟨H1, I1, q1⟩
  | false => exact hb wh pins s1 σ H1 Q I1 q1
theorem pt_not (ha : PT X a tA) : PT X (.UnaryOp .Not a pos) (tNot tA) := by
  intro pins s σ H Q I h
  exact isTrue_not (ha pins s σ H (fun c H1 => Q (!c) H1) I h)
/-- .. as values (bools) -/
def tAndV (ta tb : TE) : TE := fun σ H Q => ta σ H fun x H1 => ∃ c, x = .bl c ∧ if c = true then tb σ H1 Q else Q (.bl false) H1
def tOrV (ta tb : TE) : TE := fun σ H Q => ta σ H fun x H1 => ∃ c, x = .bl c ∧ if c = true then Q (.bl true) H1 else tb σ H1 Q
def tNotV (ta : TE) : TE := fun σ H Q => ta σ H fun x H1 => ∃ c, x = .bl c ∧ Q (.bl (!c)) H1
theorem pe_one {op} {t : TE} (h : PE X a t) : PE X (.BoolOp op [a] pos) t := fun pins s σ H Q I hw => BoolOp_one (h pins s σ H Q I hw)
theorem pe_and (ha : PE X a ta) (hb : PE X (.BoolOp .And (b :: rest) pos) tb) : PE X (.BoolOp .And (a :: b :: rest) pos) (tAndV ta tb) := by
  intro pins s σ H Q I h
  refine BoolOp_and (thn (ha pins s σ H _ I h) fun v s1 ⟨x, H1, I1, r1, q1⟩ => ?_)
  obtain ⟨c, rfl, q1⟩ := q1
  cases r1
  refine wpAny_truthy_bool ?_
  cases c with
  | true => exact hb pins s1 σ H1 Q I1 q1
  | false => exact ⟨.bl false, H1, I1, rfl, q1⟩
theorem pe_or (ha : PE X a ta) (hb : PE X (.BoolOp .Or (b :: rest) pos) tb) : PE X (.BoolOp .Or (a :: b :: rest) pos) (tOrV ta tb) := by
  intro pins s σ H Q I h
  refine BoolOp_or (thn (ha pins s σ H _ I h) fun v s1 ⟨x, H1, I1, r1, q1⟩ => ?_)
  obtain ⟨c, rfl, q1⟩ := q1
  cases r1
  refine wpAny_truthy_bool ?_
  cases c with
  | false => exact hb pins s1 σ H1 Q I1 q1
  | true => exact ⟨.bl true, H1, I1, rfl, q1⟩
theorem pe_not (ha : PE X a ta) : PE X (.UnaryOp .Not a pos) (tNotV ta) := by
  intro pins s σ H Q I h
  refine UnaryOp_ (thn (ha pins s σ H _ I h) fun v s1 ⟨x, H1, I1, r1, q1⟩ => ?_)
  obtain ⟨c, rfl, q1⟩ := q1
  cases r1
  exact not_of (wpAny_truthy_bool ⟨.bl (!c), H1, I1, rfl, q1⟩)
/-- a if t else b -/
def tIf (t : TT) (ta tb : TE) : TE := fun σ H Q => t σ H fun c H1 => if c = true then ta σ H1 Q else tb σ H1 Q
theorem pe_ifExp {c : Expr} (hc : PT X c tA) (ha : PE X a ta) (hb : PE X b tb) : PE X (.IfExp c a b pos) (tIf tA ta tb) := by
  intro pins s σ H Q I h
  refine wpAny_IfExp (thn (hc pins s σ H _ I h) fun d s1 ⟨H1, I1, q1⟩ => ?_)
  cases d with
  | true => exact ha pins s1 σ H1 Q I1 q1
  | false => exact hb pins s1 σ H1 Q I1 q1
end
end L2

namespace L2
open PySem PySem.Spec PyProof.Rows

/-! ### a list, a tuple that is read: tracked, frozen, or an object of the module -/
def SqL (K : PySem.W.Frag) (H : Hp) (a : Addr) (xs : List V) : Prop :=
  Rd H a (.lst xs) ∨
    ∃ (o : Obj) (its : Array Value) (n : Nat), K.lookup a = some o ∧ o.cls = .type "list" ∧ o.dict = none ∧ o.data = .seq its n ∧ its.size ≤ sizeLine ∧ Vals xs its.toList
def SqT (K : PySem.W.Frag) (H : Hp) (a : Addr) (xs : List V) : Prop :=
  Rd H a (.tup xs) ∨
    ∃ (o : Obj) (its : Array Value) (n : Nat), K.lookup a = some o ∧ o.cls = .type "tuple" ∧ o.data = .seq its n ∧ its.size ≤ sizeLine ∧ Vals xs its.toList
def absV : Value → Option V
  | .none => some .non
  | .bool b => some (.bl b)
  | .int i _ => some (.int i)
  | .str x _ => some (.str x)
  | .bytes b _ => some (.byt b)
  | .float b _ => some (.flt b)
  | .ref a => some (.ref a)
  | .type n => some (.ty n)
  | _ => none
theorem RelV.abs {x : V} {u : Value} (r : RelV x u) : absV u = some x := by
  cases x with
  | non => cases r; rfl
  | bl _ => cases r; rfl
  | int _ => obtain ⟨t, rfl⟩ := r; rfl
  | str _ => obtain ⟨t, rfl⟩ := r; rfl
  | byt _ => obtain ⟨t, rfl⟩ := r; rfl
  | flt _ => obtain ⟨t, rfl⟩ := r; rfl
  | ref _ => cases r; rfl
  | ty _ => cases r; rfl
theorem RelV.inj {x y : V} {u : Value} (r : RelV x u) (q : RelV y u) : x = y := Option.some.inj (r.abs.symm.trans q.abs)
theorem Vals.inj : ∀ {xs ys : List V} {us : List Value}, Vals xs us → Vals ys us → xs = ys
  | _, _, _, .nil, .nil => rfl
  | _, _, _, .cons r t, .cons r' t' => by rw [r.inj r', Vals.inj t t']
section
variable {X : Cx} {pins : List (Addr × Obj)} {σ : St} {H : Hp} {s : Shared} {a : Addr} {xs ys : List V}
theorem SqL.of {K : PySem.W.Frag} (h : H a = some (.lst xs)) : SqL K H a xs := .inl (.inl h)
theorem SqT.of {K : PySem.W.Frag} (h : H a = some (.tup xs)) : SqT K H a xs := .inl (.inl h)
theorem Inv.list (I : Inv X pins σ H s) (h : SqL X.K H a xs) : ∃ its : List Value, Vals xs its ∧ PlainL s.heap a its.toArray ∧ xs.length ≤ sizeLine := by
  rcases h with h | ⟨o, its, n, hk, hc, hd, hs, hz, r⟩
  · obtain ⟨z, its, n, r, e⟩ := h.ok I.hok
    exact ⟨its, r, ⟨_, n, e, rfl, rfl, rfl⟩, z⟩
  · refine ⟨its.toList, r, ⟨o, n, I.kIn a o hk, hc, hd, by simpa using hs⟩, ?_⟩
    have e := r.length
    simp only [Array.length_toList] at e
    omega
theorem Inv.tuple (I : Inv X pins σ H s) (h : SqT X.K H a xs) : ∃ its : List Value, Vals xs its ∧ IsTup s.heap a its.toArray ∧ xs.length ≤ sizeLine := by
  rcases h with h | ⟨o, its, n, hk, hc, hs, hz, r⟩
  · obtain ⟨z, its, r, p⟩ := h.ok I.hok
    exact ⟨its, r, p, z⟩
  · refine ⟨its.toList, r, ⟨o, I.kIn a o hk, hc, n, by simpa using hs⟩, ?_⟩
    have e := r.length
    simp only [Array.length_toList] at e
    omega
theorem Inv.list_inj (I : Inv X pins σ H s) (h : SqL X.K H a xs) (h' : SqL X.K H a ys) : xs = ys := by
  obtain ⟨its, r, ⟨o, n, e, _, _, d⟩, _⟩ := I.list h
  obtain ⟨its', r', ⟨o', n', e', _, _, d'⟩, _⟩ := I.list h'
  rw [e] at e'; cases e'
  rw [d] at d'
  injection d' with d1 _
  have : its = its' := by simpa using congrArg Array.toList d1
  subst this
  exact r.inj r'
theorem Inv.tuple_inj (I : Inv X pins σ H s) (h : SqT X.K H a xs) (h' : SqT X.K H a ys) : xs = ys := by
  obtain ⟨its, r, ⟨o, e, _, n, d⟩, _⟩ := I.tuple h
  obtain ⟨its', r', ⟨o', e', _, n', d'⟩, _⟩ := I.tuple h'
  rw [e] at e'; cases e'
  rw [d] at d'
  injection d' with d1 _
  have : its = its' := by simpa using congrArg Array.toList d1
  subst this
  exact r.inj r'
end

/-! ### another wish about exceptions -/
abbrev Cx.wish (X : Cx) (E : Value → Shared → Prop) : Cx := { X with xe := E }
/-- no exception leaves -/
abbrev Cx.nox (X : Cx) : Cx := X.wish fun _ _ => False
theorem Cx.Ok.wish {X : Cx} (ok : X.Ok) (E : Value → Shared → Prop) : (X.wish E).Ok :=
  ⟨ok.mod, ok.kind, ok.glob, ok.blt, ok.above, ok.inj, ok.has, ok.cab, ok.hd, ok.frames, ok.stk, ok.exf, ok.bs, ok.bsz, ok.noex, ok.exfs, ok.funs, ok.frf⟩
theorem Cx.Ok.unwish {X : Cx} {E : Value → Shared → Prop} (ok : (X.wish E).Ok) : X.Ok :=
  ⟨ok.mod, ok.kind, ok.glob, ok.blt, ok.above, ok.inj, ok.has, ok.cab, ok.hd, ok.frames, ok.stk, ok.exf, ok.bs, ok.bsz, ok.noex, ok.exfs, ok.funs, ok.frf⟩
section
variable {X : Cx} {pins : List (Addr × Obj)} {σ : St} {H : Hp} {s : Shared} {E : Value → Shared → Prop}
theorem Inv.wish (I : Inv X pins σ H s) (E : Value → Shared → Prop) : Inv (X.wish E) pins σ H s := ⟨I.ok.wish E, I.os, I.bare, I.base, I.loc, I.cell, I.free, I.freeC, I.pin, I.hok, I.len⟩
theorem Inv.unwish (I : Inv (X.wish E) pins σ H s) : Inv X pins σ H s := ⟨I.ok.unwish, I.os, I.bare, I.base, I.loc, I.cell, I.free, I.freeC, I.pin, I.hok, I.len⟩
theorem SP.unwish {D : Ends} {f : Flow} {s' : Shared} (h : SP (X.wish E) pins D f s') : SP X pins D f s' := by
  cases f with
  | next => obtain ⟨σ', H', I, q⟩ := h; exact ⟨σ', H', I.unwish, q⟩
  | brk => obtain ⟨σ', H', I, q⟩ := h; exact ⟨σ', H', I.unwish, q⟩
  | cont => obtain ⟨σ', H', I, q⟩ := h; exact ⟨σ', H', I.unwish, q⟩
  | ret u => obtain ⟨v, σ', H', I, r, q⟩ := h; exact ⟨v, σ', H', I.unwish, r, q⟩
theorem PE.nox {e : Expr} {t : TE} (h : PE X.nox e t) : PE X e t := fun pins s σ H Q I hw =>
  wpAny_mono (h pins s σ H Q (I.wish _) hw) (fun _ _ ⟨v, H', I', r, q⟩ => ⟨v, H', I'.unwish, r, q⟩) fun _ _ z => False.elim z
theorem PT.nox {e : Expr} {t : TT} (h : PT X.nox e t) : PT X e t := fun pins s σ H Q I hw =>
  wpAny_mono (h pins s σ H Q (I.wish _) hw) (fun _ _ ⟨H', I', q⟩ => ⟨H', I'.unwish, q⟩) fun _ _ z => False.elim z
theorem PSs.nox {st : List Stmt} {t : TS} (h : PSs X.nox st t) : PSs X st t := fun pins s σ H D I hw =>
  wpAny_mono (h pins s σ H D (I.wish _) hw) (fun _ _ q => q.unwish) fun _ _ z => False.elim z
end

/-! ### blocks and small statements -/
section
variable {X : Cx} {st : Stmt} {rest : List Stmt} {t u : TS} {e : Expr} {te : TE} {pos : Pos}
def tNext : TS := fun D σ H => D.nx σ H
def tSeq (t u : TS) : TS := fun D σ H => t { D with nx := u D } σ H
theorem pss_nil : PSs X [] tNext := fun _ _ σ H _ I h => wpAny_execs_nil ⟨σ, H, I, h⟩
theorem pss_cons (h1 : PS X st t) (h2 : PSs X rest u) : PSs X (st :: rest) (tSeq t u) := by
  intro pins s σ H D I h
  refine wpAny_execs_cons (thn (h1 pins s σ H { D with nx := u D } I h) fun f s1 q => ?_)
  cases f with
  | next =>
    obtain ⟨σ', H', I', q⟩ := q
    exact h2 pins s1 σ' H' D I' q
  | ret v => exact q
  | brk => exact q
  | cont => exact q
theorem pss_one (h1 : PS X st t) : PSs X [st] t := by
  intro pins s σ H D I h
  refine wpAny_execs_cons (thn (h1 pins s σ H D I h) fun f s1 q => ?_)
  cases f with
  | next => exact wpAny_execs_nil q
  | ret v => exact q
  | brk => exact q
  | cont => exact q
def tBreak : TS := fun D σ H => D.bk σ H
def tCont : TS := fun D σ H => D.ct σ H
theorem ps_break : PS X (.Break pos) tBreak := fun _ _ σ H _ I h => wpAny_Break ⟨σ, H, I, h⟩
/-- in a def's body nothing is shown -/
theorem Inv.quiet {pins : List (Addr × Obj)} {σ : St} {H : Hp} {s : Shared} (I : Inv X pins σ H s) : interactive X.env = false := by simp [interactive, I.ok.kind]
/-- an expression whose value is dropped -/
def tDrop (te : TE) : TS := fun D σ H => te σ H fun _ H1 => D.nx σ H1
theorem ps_expr (he : PE X e te) (hs : swapsWith e none pos.line X.env = pure false := by rfl) : PS X (.Expr e pos) (tDrop te) := by
  intro pins s σ H D I h
  exact wpAny_Expr_any (thn (he pins s σ H _ I h) fun v s1 ⟨x, H1, I1, r1, q1⟩ => ⟨σ, H1, I1, q1⟩) I.quiet hs
def tRet (te : TE) : TS := fun D σ H => te σ H D.rt
theorem ps_ret (he : PE X e te) : PS X (.Return (some e) pos) (tRet te) := by
  intro pins s σ H D I h
  exact wpAny_Return_some (thn (he pins s σ H _ I h) fun v s1 ⟨x, H1, I1, r1, q1⟩ => ⟨x, σ, H1, I1, r1, q1⟩)
def tRetN : TS := fun D _ H => D.rt .non H
def tIfS (c : TT) (t u : TS) : TS := fun D σ H => c σ H fun b H1 => if b = true then t D σ H1 else u D σ H1
theorem ps_if {c : Expr} {a b : List Stmt} {tc : TT} (hc : PT X c tc) (ha : PSs X a t) (hb : PSs X b u) : PS X (.If c a b pos) (tIfS tc t u) := by
  intro pins s σ H D I h
  refine wpAny_If (thn (hc pins s σ H _ I h) fun d s1 ⟨H1, I1, q1⟩ => ?_)
  cases d with
  | true => exact ha pins s1 σ H1 D I1 q1
  | false => exact hb pins s1 σ H1 D I1 q1
/-- code that the proof never comes to -/
def tNever : TS := fun _ _ _ => False
theorem ps_never : PS X st tNever := fun _ _ _ _ _ _ h => h.elim
end

/-! ### targets -/
abbrev TG := V → St → Hp → (St → Hp → Prop) → Prop
abbrev TGs := List V → St → Hp → (St → Hp → Prop) → Prop
def PG (X : Cx) (target : Expr) (t : TG) : Prop :=
  ∀ (pins : List (Addr × Obj)) (s : Shared) (σ : St) (H : Hp) (v : V) (u : Value) (Q : St → Hp → Prop), Inv X pins σ H s → RelV v u → t v σ H Q →
    wpAny (model X.prog X.w) X.A (assign target X.env u) (fun _ s' => ∃ σ' H', Inv X pins σ' H' s' ∧ Q σ' H') X.xe s
/-- several targets, one after another -/
def PGs (X : Cx) (ts : List Expr) (t : TGs) : Prop :=
  ∀ (pins : List (Addr × Obj)) (s : Shared) (σ : St) (H : Hp) (vs : List V) (us : List Value) (Q : St → Hp → Prop), Inv X pins σ H s → Vals vs us → t vs σ H Q →
    wpAny (model X.prog X.w) X.A (assignInOrder ((assignEach ts X.env).map (·.2)) us) (fun _ s' => ∃ σ' H', Inv X pins σ' H' s' ∧ Q σ' H') X.xe s
/-- o[i] = v, by values -/
abbrev TSet := V → V → V → Hp → (Hp → Prop) → Prop
def PSet (X : Cx) (t : TSet) : Prop :=
  ∀ (pins : List (Addr × Obj)) (s : Shared) (σ : St) (H : Hp) (o i v : V) (ov iv u : Value) (Q : Hp → Prop), Inv X pins σ H s → RelV o ov → RelV i iv → RelV v u → t o i v H Q →
    wpAny (model X.prog X.w) X.A (setItem ov iv u) (fun _ s' => ∃ H', Inv X pins σ H' s' ∧ Q H') X.xe s
/-- a op= b, by values -/
abbrev TIp := V → V → Hp → VK → Prop
def PIp (X : Cx) (op : Operator) (t : TIp) : Prop :=
  ∀ (pins : List (Addr × Obj)) (s : Shared) (σ : St) (H : Hp) (x y : V) (v u : Value) (Q : VK), Inv X pins σ H s → RelV x v → RelV y u → t x y H Q →
    wpAny (model X.prog X.w) X.A (inplaceOp op v u) (EP X pins σ Q) X.xe s
section
variable {X : Cx} {pos : Pos}
def gName (i : Nat) : TG := fun v σ H Q => Q (σ.set i (some v)) H
theorem pg_name {i : Nat} {x : Str} (hN : X.N.Nodup) (hi : X.N[i]? = some x) (hx : Loc X.env.scope x) (hf : X.fn x = true ∨ X.env.scope.names.lookup x = some .local := by first | exact .inl rfl | exact .inr rfl | assumption) : PG X (.Name x pos) (gName i) := by
  intro pins s σ H v u Q I r h
  exact wpAny_assign_Name (store_ok I hN hi hx r (fun s' I' => ⟨_, H, I', h⟩) hf)
def gNil : TGs := fun vs σ H Q => vs = [] ∧ Q σ H
def gCons (t : TG) (u : TGs) : TGs := fun vs σ H Q => ∃ v r, vs = v :: r ∧ t v σ H fun σ' H' => u r σ' H' Q
theorem pgs_nil : PGs X [] gNil := by
  intro pins s σ H vs us Q I r h
  obtain ⟨e, h⟩ := h
  subst e
  cases r
  exact assignInOrder_nil ⟨σ, H, I, h⟩
theorem pgs_cons {e : Expr} {es : List Expr} {t : TG} {u : TGs} (h1 : PG X e t) (h2 : PGs X es u)
    (hs : (assignEach (e :: es) X.env).map (·.2) = assign e X.env :: (assignEach es X.env).map (·.2) := by rfl) : PGs X (e :: es) (gCons t u) := by
  intro pins s σ H vs us Q I r h
  obtain ⟨v, vr, e1, h⟩ := h
  subst e1
  cases r with
  | cons r rr =>
    rw [hs]
    refine assignInOrder_cons (thn (h1 pins s σ H _ _ _ I r h) fun _ s1 ⟨σ1, H1, I1, q1⟩ => ?_)
    exact h2 pins s1 σ1 H1 _ _ Q I1 rr q1
/-- (a, b, ..) = a tuple of that length -/
def gTup (K : PySem.W.Frag) (n : Nat) (t : TGs) : TG := fun v σ H Q => ∃ a xs, v = .ref a ∧ SqT K H a xs ∧ xs.length = n ∧ t xs σ H Q
theorem pg_tup {es : List Expr} {k : Nat} {t : TGs} {n : Nat} (hc : X.calm = true) (h : PGs X es t)
    (hn : (assignEach es X.env).length = n := by rfl) (hst : (assignEach es X.env).findIdx? (·.1) = none := by rfl) : PG X (.Tuple es k pos) (gTup X.K n t) := by
  intro pins s σ H v u Q I r hw
  obtain ⟨a, xs, e1, hq, hl, hw⟩ := hw
  subst e1
  cases r
  obtain ⟨its, rv, ht, hz⟩ := I.tuple hq
  refine QQ.assign_Tuple_q I.hq ht (by simp [hn, ← hl, rv.length]) hst fun h' hx => ?_
  have I1 : Inv X pins σ H { s with heap := h' } := I.kept (t' := s.toks) fun b o e => hx b o (Nat.ne_of_lt (Heap.lt_size e)) e
  exact h pins _ σ H xs _ Q I1 (by simpa using rv) hw
/-- o[i] = .. -/
def gSub (to ti : TE) (t : TSet) : TG := fun v σ H Q => to σ H fun o H1 => ti σ H1 fun i H2 => t o i v H2 fun H3 => Q σ H3
/-- target = value -/
def tAsg (te : TE) (g : TG) : TS := fun D σ H => te σ H fun x H1 => g x σ H1 D.nx
theorem ps_asg {tg e : Expr} {te : TE} {g : TG} (he : PE X e te) (hg : PG X tg g) (hs : swapsWithSole [tg] e pos.line X.env = pure false := by rfl) (hw : swappedStores [tg] e X.env = pure none := by rfl)
    (h1 : (assignEach [tg] X.env).map (·.2) = [assign tg X.env] := by rfl) : PS X (.Assign [tg] e pos) (tAsg te g) := by
  intro pins s σ H D I h
  refine wpAny_Assign_stores (thn (he pins s σ H _ I h) fun v s1 ⟨x, H1, I1, r1, q1⟩ => ?_) hs hw
  rw [h1]
  exact thn (hg pins s1 σ H1 x v _ I1 r1 q1) fun _ s2 q => q
/-- name = value -/
theorem ps_set {i : Nat} {x : Str} {e : Expr} {te : TE} {pos' : Pos} (hN : X.N.Nodup) (hi : X.N[i]? = some x) (hx : Loc X.env.scope x) (he : PE X e te) (hs : swapsWith e (some (.Name x pos')) pos.line X.env = pure false := by rfl) (hf : X.fn x = true ∨ X.env.scope.names.lookup x = some .local := by first | exact .inl rfl | exact .inr rfl | assumption) :
    PS X (.Assign [.Name x pos'] e pos) (tAsg te (gName i)) := by
  intro pins s σ H D I h
  refine wpAny_Assign_Name (thn (he pins s σ H _ I h) fun v s1 ⟨y, H1, I1, r1, q1⟩ => ?_) hs
  exact store_ok I1 hN hi hx r1 (fun s2 I2 => ⟨_, H1, I2, q1⟩) hf
/-- a, b = x, y with plain local names: stored from the right; the pair itself is not tracked (the opening rows as in PyProof/Rows/TupAssign.lean:23) -/
def tPar (i j : Nat) (ta : TA) : TS := fun D σ H => ta σ H fun vs H1 => ∃ v w, vs = [v, w] ∧ D.nx ((σ.set i (some v)).set j (some w)) H1
/-- name op= e -/
def tAug (i : Nat) (te : TE) (ti : TIp) : TS := fun D σ H => ∃ x, σ[i]? = some (some x) ∧ te σ H fun y H1 => ti x y H1 fun z H2 => D.nx (σ.set i (some z)) H2
theorem ps_aug {i : Nat} {x : Str} {e : Expr} {te : TE} {op : Operator} {ti : TIp} {pos' : Pos} (hN : X.N.Nodup) (hi : X.N[i]? = some x) (hx : Loc X.env.scope x) (he : PE X e te) (ho : PIp X op ti) (hf : X.fn x = true ∨ X.env.scope.names.lookup x = some .local := by first | exact .inl rfl | exact .inr rfl | assumption) :
    PS X (.AugAssign (.Name x pos') op e pos) (tAug i te ti) := by
  intro pins s σ H D I h
  obtain ⟨v, e1, h⟩ := h
  obtain ⟨m, hn, hl⟩ := I.loc
  have vis : Vis X.env.scope x := by rcases hx with k | k; exact .inl k; exact .inr (.inl k)
  obtain ⟨u, r, l⟩ := hl i x v hi e1 vis
  refine wpAny_AugAssign_Name ?_
  have go : wpAny (model X.prog X.w) X.A (eval e X.env) (fun w s₂ => wpAny (model X.prog X.w) X.A (inplaceOp op u w) (fun r s₃ => wpAny (model X.prog X.w) X.A (storeName X.env x r) (fun _ => SP X pins D .next) X.xe s₃) X.xe s₂) X.xe s := by
    refine thn (he pins s σ H _ I h) fun w s1 ⟨y, H1, I1, r1, q1⟩ => ?_
    refine thn (ho pins s1 σ H1 v y u w _ I1 r r1 q1) fun z s2 ⟨zv, H2, I2, r2, q2⟩ => ?_
    exact store_ok I2 hN hi hx r2 (fun s3 I3 => ⟨_, H2, I3, q2⟩) hf
  rcases l with ⟨hk, hm⟩ | ⟨hk, c, hc, hcell⟩
  · exact wpAny_loadName_local I.ok.kind hk hn hm go
  · rcases hk with hk | hk
    · exact wpAny_loadName_cell I.ok.kind hk hc hcell go
    · rcases hx with k | k
      · have : X.env.scope.names.lookup x = some .free := hk
        rw [k] at this; cases this
      · have : X.env.scope.names.lookup x = some .free := hk
        rw [k] at this; cases this
/-- o[i] op= e -/
def tAugS (to ti te : TE) (tget : V → V → Hp → VK → Prop) (tip : TIp) (tset : TSet) : TS := fun D σ H => to σ H fun o H1 => ti σ H1 fun i H2 => tget o i H2 fun x H3 => te σ H3 fun y H4 => tip x y H4 fun z H5 => tset o i z H5 fun H6 => D.nx σ H6
/-- o[i], by values -/
def PGet (X : Cx) (t : V → V → Hp → VK → Prop) : Prop :=
  ∀ (pins : List (Addr × Obj)) (s : Shared) (σ : St) (H : Hp) (o i : V) (ov iv : Value) (Q : VK), Inv X pins σ H s → RelV o ov → RelV i iv → t o i H Q →
    wpAny (model X.prog X.w) X.A (getItem ov iv) (EP X pins σ Q) X.xe s
/-- ints -/
def ipI (f : Int → Int → Int) : TIp := fun x y H Q => ∃ i j, x = .int i ∧ y = .int j ∧ Q (.int (f i j)) H
theorem ip_add : PIp X .Add (ipI fun i j => i + j) := by
  intro pins s σ H x y v u Q I r1 r2 h
  obtain ⟨i, j, e1, e2, q⟩ := h
  subst e1; subst e2
  obtain ⟨t, rfl⟩ := r1
  obtain ⟨t', rfl⟩ := r2
  exact iadd_int ⟨.int _, H, I.tok _, ⟨_, rfl⟩, q⟩
end

/-! ### while -/
section
variable {X : Cx} {pos : Pos}
/-- the invariant W with its measure -/
def tWhile (c : TT) (tb : TS) : TS := fun D σ H => ∃ W : Nat → St → Hp → Prop, (∃ m, W m σ H) ∧ ∀ m σ H, W m σ H →
  c σ H fun b H1 => if b = true then ∃ N : St → Hp → Prop, (∀ σ' H', N σ' H' → ∃ m', m' < m ∧ W m' σ' H') ∧ tb { D with nx := N, ct := N, bk := D.nx } σ H1 else D.nx σ H1
theorem ps_while {c : Expr} {body : List Stmt} {tc : TT} {tb : TS} (hp : PassesOwn (model X.prog X.w) X.A X.env X.xe) (hc : PT X c tc) (hb : PSs X body tb) : PS X (.While c body [] pos) (tWhile tc tb) := by
  intro pins s σ H D I h
  obtain ⟨W, ⟨m0, w0⟩, turn⟩ := h
  refine wpAny_While (codeAny_whileLoop (fun n s' => ∃ σ' H', Inv X pins σ' H' s' ∧ W n σ' H') ?_ m0 ⟨σ, H, I, w0⟩)
  rintro n s1 ⟨σ1, H1, I1, w1⟩
  refine wpAny_passesOwn hp (thn (hc pins s1 σ1 H1 _ I1 (turn n σ1 H1 w1)) fun b s2 ⟨H2, I2, q2⟩ => ?_)
  cases b with
  | true =>
    obtain ⟨N, hN, q2⟩ := q2
    rw [if_pos rfl]
    refine wpAny_passesOwn hp (thn (hb pins s2 σ1 H2 _ I2 q2) fun f s3 q3 => ?_)
    cases f with
    | next =>
      obtain ⟨σ3, H3, I3, n3⟩ := q3
      obtain ⟨m', hm, w3⟩ := hN σ3 H3 n3
      exact ⟨m', hm, σ3, H3, I3, w3⟩
    | cont =>
      obtain ⟨σ3, H3, I3, n3⟩ := q3
      obtain ⟨m', hm, w3⟩ := hN σ3 H3 n3
      exact ⟨m', hm, σ3, H3, I3, w3⟩
    | brk => exact q3
    | ret v => exact q3
  | false =>
    rw [if_neg Bool.false_ne_true]
    exact wpAny_execs_nil ⟨σ1, H2, I2, q2⟩
end

/-! ### what a loop or a comprehension walks -/
/-- at turn i: it yields x (the heap may grow), or it stops -/
structure It where
  go : Nat → Hp → Prop
  yld : Nat → Hp → V → Hp → Prop
  stop : Nat → Hp → Prop
/-- the iterator's own objects may turn: they are not the frame's, not pinned, younger than the entry (or a comprehension's own) -/
def FpOk (X : Cx) (pins : List (Addr × Obj)) (H : Hp) (b : Addr) : Prop :=
  H b = none ∧ b ≠ X.env.locals ∧ b ∉ X.fs ∧ (b ∈ X.ex ∨ X.s₀.heap.objs.size ≤ b) ∧ (∀ x c, X.env.cells.lookup x = some c → c ≠ b) ∧ ∀ p ∈ X.pn ++ pins, p.1 ≠ b
theorem Inv.fpOk {X : Cx} {pins : List (Addr × Obj)} {σ : St} {H H' : Hp} {s : Shared} {b : Addr} (I : Inv X pins σ H s) (hb : s.heap.objs.size ≤ b) (hn : H' b = none) : FpOk X pins H' b := by
  refine ⟨hn, Nat.ne_of_gt (Nat.lt_of_lt_of_le I.lt hb), I.nofs hb, .inr (Nat.le_trans I.sz hb), fun x c e z => ?_, fun p hp z => ?_⟩
  · obtain ⟨v, q⟩ := I.cell x c e
    exact absurd (Nat.lt_of_lt_of_le q.lt (by rw [z]; exact hb)) (Nat.lt_irrefl _)
  · exact absurd (Nat.lt_of_lt_of_le (Heap.lt_size (I.pin p hp).1) (by rw [z]; exact hb)) (Nat.lt_irrefl _)
structure Turn (P : Program) (w : World) (K : PySem.W.Frag) (tg : Expr) (J : It) (fp : List Addr) (it : Addr) (tn : Nat → Heap → Prop) : Prop where
  mem : it ∈ fp
  obj : ∀ i h, tn i h → ∀ b ∈ fp, ∃ o, h.get? b = some o ∧ ∀ v, o.data ≠ .cell v
  keep : ∀ i h h', tn i h → (∀ b ∈ fp, ∀ o, h.get? b = some o → h'.get? b = some o) → tn i h'
  item : ∀ (X : Cx), X.prog = P → X.w = w → X.K = K → X.calm = true → ∀ (i : Nat) (pins : List (Addr × Obj)) (s : Shared) (σ : St) (H : Hp) (E : Value → Shared → Prop), Inv X pins σ H s → (∀ b ∈ fp, FpOk X pins H b) → tn i s.heap → J.go i H →
    wpAny (model P w) X.A (pyNext (.ref it)) (fun r s1 => ∃ u, r = some u ∧
      wpAny (model P w) X.A (letOwnedTupleGo tg (.ref it) u) (fun _ s2 => ∃ x H', Inv X pins σ H' s2 ∧ RelV x u ∧ J.yld i H x H' ∧ tn (i + 1) s2.heap ∧ ∀ b ∈ fp, H' b = none) E s1) E s
  done : ∀ (X : Cx), X.prog = P → X.w = w → X.K = K → X.calm = true → ∀ (i : Nat) (pins : List (Addr × Obj)) (s : Shared) (σ : St) (H : Hp) (E : Value → Shared → Prop), Inv X pins σ H s → (∀ b ∈ fp, FpOk X pins H b) → tn i s.heap → J.stop i H →
    wpAny (model P w) X.A (pyNext (.ref it)) (fun r s1 => r = none ∧ Inv X pins σ H s1) E s
  self : ∀ (A : Around) (i : Nat) (s : Shared) (Q : Value → Shared → Prop) (E : Value → Shared → Prop), tn i s.heap → Q (.ref it) s → wpAny (model P w) A (pyIter (.ref it)) Q E s
abbrev TI := St → Hp → (It → Hp → Prop) → Prop
/-- an iterator has come -/
def PIE (X : Cx) (pins : List (Addr × Obj)) (σ : St) (tg : Expr) (R : It → Hp → Prop) (itv : Value) (s2 : Shared) : Prop :=
  ∃ (it : Addr) (fp : List Addr) (tn : Nat → Heap → Prop) (J : It) (H' : Hp), itv = .ref it ∧ Inv X pins σ H' s2 ∧ Turn X.prog X.w X.K tg J fp it tn ∧ tn 0 s2.heap ∧ (∀ b ∈ fp, FpOk X pins H' b) ∧ R J H'
def PI (X : Cx) (tg iter : Expr) (wi : TI) : Prop :=
  ∀ (pins : List (Addr × Obj)) (s : Shared) (σ : St) (H : Hp) (R : It → Hp → Prop), Inv X pins σ H s → wi σ H R →
    wpAny (model X.prog X.w) X.A (eval iter X.env) (fun v s1 => wpAny (model X.prog X.w) X.A (pyIter v) (PIE X pins σ tg R) X.xe s1) X.xe s

/-- the step ahead of the store is nothing for an iterator that keeps no tuple -/
theorem go_of {M : Model} {A : Around} {E : Value → Shared → Prop} {s : Shared} {tg : Expr} {it : Addr} {u : Value} {o : Obj} {n : String} {vs : Array Value} {Q : Unit → Shared → Prop} (ho : s.heap.get? it = some o) (hc : o.cls = .type n) (hd : o.data = .fields vs)
    (hn : ["enumerate", "zip", "dict_itemiterator", "dict_reverseitemiterator", "odict_iterator", "itertools.zip_longest", "itertools.pairwise"].contains n = false) (hQ : Q () s) : wpAny M A (letOwnedTupleGo tg (.ref it) u) Q E s := by
  unfold letOwnedTupleGo
  cases tg <;> first
    | exact wpAny_pure hQ
    | (cases u <;> first
        | exact wpAny_pure hQ
        | (refine wpAny_bind (wpAny_load ho ?_)
           rw [hc, hd]
           show wpAny M A (if (["enumerate", "zip", "dict_itemiterator", "dict_reverseitemiterator", "odict_iterator", "itertools.zip_longest", "itertools.pairwise"].contains n && vs[0]? == some (rawInt _)) = true then _ else _) Q E s
           rw [if_neg (by intro h; rw [hn, Bool.false_and] at h; cases h)]
           exact wpAny_pure hQ))

/-- the list at a, as it stands at each turn (a loop may append to it) -/
def Itl (K : PySem.W.Frag) (a : Addr) : It :=
  ⟨fun i H => ∃ xs x, SqL K H a xs ∧ xs[i]? = some x, fun i H x H' => H' = H ∧ ∀ xs, SqL K H a xs → xs[i]? = some x, fun i H => ∃ xs, SqL K H a xs ∧ xs.length ≤ i⟩
def Itt (K : PySem.W.Frag) (a : Addr) : It :=
  ⟨fun i H => ∃ xs x, SqT K H a xs ∧ xs[i]? = some x, fun i H x H' => H' = H ∧ ∀ xs, SqT K H a xs → xs[i]? = some x, fun i H => ∃ xs, SqT K H a xs ∧ xs.length ≤ i⟩
/-- lo, lo + 1, .. (n of them) -/
def Itr (lo : Int) (n : Nat) : It := ⟨fun i _ => i < n, fun i H x H' => H' = H ∧ x = .int (lo + i), fun i _ => n ≤ i⟩
theorem turn_list {P : Program} {w : World} {K : PySem.W.Frag} {tg : Expr} (a it : Addr) : Turn P w K tg (Itl K a) [it] it (fun i h => h.IsListIter it a i) where
  mem := by simp
  obj := fun i h st b hb => by
    have e : b = it := by simpa using hb
    subst e
    obtain ⟨o, e, c, d⟩ := st
    exact ⟨o, e, fun v z => by rw [d] at z; cases z⟩
  keep := fun i h h' st k => st.at fun o e => k it (by simp) o e
  item := by
    intro X hP hw hK hc i pins s σ H E I hf st hg
    subst hP hw hK
    obtain ⟨xs, x, hq, hx⟩ := hg
    obtain ⟨its, rv, p, hz⟩ := I.list hq
    obtain ⟨u, hu, ru⟩ := rv.get hx
    obtain ⟨f0, f1, f2, f3, f4, f5⟩ := hf it (by simp)
    refine wpAny_pyNext_list_item st p.isList (x := u) (by simpa using hu) fun h' st' sb => ?_
    have I1 : Inv X pins σ H { s with heap := h' } := I.turned (t' := s.toks) (fun b o hb e => (sb.2 b hb).trans e) f0 f1 f3 f4 f5
    obtain ⟨o, e, c, d⟩ := id st'
    exact ⟨u, rfl, go_of (s := { s with heap := h' }) e c d (by decide) ⟨x, H, I1, ru, ⟨rfl, fun ys hy => by rw [I.list_inj hy hq]; exact hx⟩, st', fun b hb => (hf b hb).1⟩⟩
  done := by
    intro X hP hw hK hc i pins s σ H E I hf st hg
    subst hP hw hK
    obtain ⟨xs, hq, hx⟩ := hg
    obtain ⟨its, rv, p, hz⟩ := I.list hq
    obtain ⟨f0, f1, f2, f3, f4, f5⟩ := hf it (by simp)
    have hl := rv.length
    exact QQ.list_end_q I.hq st p.isList (by simp; omega) fun h' eb => ⟨rfl, I.turned (t' := s.toks) (fun b o hb e => eb b o hb e) f0 f1 f3 f4 f5⟩
  self := fun _ _ _ _ _ st h => wpAny_pyIter_listiter st h
theorem turn_tuple {P : Program} {w : World} {K : PySem.W.Frag} {tg : Expr} (a it : Addr) : Turn P w K tg (Itt K a) [it] it (fun i h => h.IsTupleIter it a i) where
  mem := by simp
  obj := fun i h st b hb => by
    have e : b = it := by simpa using hb
    subst e
    obtain ⟨o, e, c, d⟩ := st
    exact ⟨o, e, fun v z => by rw [d] at z; cases z⟩
  keep := fun i h h' st k => st.at fun o e => k it (by simp) o e
  item := by
    intro X hP hw hK hc i pins s σ H E I hf st hg
    subst hP hw hK
    obtain ⟨xs, x, hq, hx⟩ := hg
    obtain ⟨its, rv, p, hz⟩ := I.tuple hq
    obtain ⟨u, hu, ru⟩ := rv.get hx
    obtain ⟨f0, f1, f2, f3, f4, f5⟩ := hf it (by simp)
    refine wpAny_pyNext_tuple_item st (show s.heap.IsTuple a its.toArray from p) (x := u) (by simpa using hu) fun h' st' sb => ?_
    have I1 : Inv X pins σ H { s with heap := h' } := I.turned (t' := s.toks) (fun b o hb e => (sb.2 b hb).trans e) f0 f1 f3 f4 f5
    obtain ⟨o, e, c, d⟩ := id st'
    exact ⟨u, rfl, go_of (s := { s with heap := h' }) e c d (by decide) ⟨x, H, I1, ru, ⟨rfl, fun ys hy => by rw [I.tuple_inj hy hq]; exact hx⟩, st', fun b hb => (hf b hb).1⟩⟩
  done := by
    intro X hP hw hK hc i pins s σ H E I hf st hg
    subst hP hw hK
    obtain ⟨xs, hq, hx⟩ := hg
    obtain ⟨its, rv, p, hz⟩ := I.tuple hq
    obtain ⟨f0, f1, f2, f3, f4, f5⟩ := hf it (by simp)
    have hl := rv.length
    exact QQ.tuple_end_q I.hq st (show s.heap.IsTuple a its.toArray from p) (by simp; omega) fun h' eb => ⟨rfl, I.turned (t' := s.toks) (fun b o hb e => eb b o hb e) f0 f1 f3 f4 f5⟩
  self := fun _ _ _ _ _ st h => wpAny_pyIter_tupleiter st h
theorem turn_range {P : Program} {w : World} {K : PySem.W.Frag} {tg : Expr} (it : Addr) (lo : Int) (n : Nat) : Turn P w K tg (Itr lo n) [it] it (fun i h => IsRangeIter h it (lo + (i : Nat) * 1) ((n : Int) - (i : Nat)) 1) where
  mem := by simp
  obj := fun i h st b hb => by
    have e : b = it := by simpa using hb
    subst e
    exact ⟨_, st, fun v z => by
      have z' : Data.fields _ = Data.cell v := z
      cases z'⟩
  keep := fun i h h' st k => k it (by simp) _ st
  item := by
    intro X hP hw hK hc i pins s σ H E I hf st hg
    subst hP hw hK
    obtain ⟨f0, f1, f2, f3, f4, f5⟩ := hf it (by simp)
    refine wpAny_pyNext_range_item st (by have : i < n := hg; omega) fun h' st1 sb => ?_
    have st' : IsRangeIter h' it (lo + ((i + 1 : Nat) : Int) * 1) ((n : Int) - ((i + 1 : Nat) : Int)) 1 := by
      have e1 : lo + ((i + 1 : Nat) : Int) * 1 = lo + (i : Int) * 1 + 1 := by omega
      have e2 : (n : Int) - ((i + 1 : Nat) : Int) = (n : Int) - (i : Int) - 1 := by omega
      rw [e1, e2]; exact st1
    have I1 : Inv X pins σ H { s with heap := h', toks := s.toks + 1 } := I.turned (fun b o hb e => sb.extBut b o hb e) f0 f1 f3 f4 f5
    refine ⟨_, rfl, go_of (s := { s with heap := h', toks := s.toks + 1 }) (n := "range_iterator") st' rfl rfl (by decide) ⟨.int (lo + i), H, I1, ⟨s.toks, ?_⟩, ⟨rfl, rfl⟩, st', fun b hb => (hf b hb).1⟩⟩
    rw [Int.mul_one]
  done := by
    intro X hP hw hK hc i pins s σ H E I hf st hg
    subst hP hw hK
    obtain ⟨f0, f1, f2, f3, f4, f5⟩ := hf it (by simp)
    exact QQ.range_end_q I.hq st (by have : n ≤ i := hg; omega) fun h' eb => ⟨rfl, I.turned (t' := s.toks) (fun b o hb e => eb b o hb e) f0 f1 f3 f4 f5⟩
  self := fun _ _ _ _ _ st h => wpAny_pyIter_rangeiter st h
end L2

namespace L2
open PySem PySem.Spec PyProof.Rows
section
variable {X : Cx} {tg : Expr}
def iList (K : PySem.W.Frag) (tl : TE) : TI := fun σ H R => tl σ H fun x H1 => ∃ a, x = .ref a ∧ (∃ xs, SqL K H1 a xs) ∧ R (Itl K a) H1
def iTup (K : PySem.W.Frag) (tl : TE) : TI := fun σ H R => tl σ H fun x H1 => ∃ a, x = .ref a ∧ (∃ xs, SqT K H1 a xs) ∧ R (Itt K a) H1
theorem pi_list {l : Expr} {tl : TE} (hl : PE X l tl) : PI X tg l (iList X.K tl) := by
  intro pins s σ H R I h
  refine thn (hl pins s σ H _ I h) fun v s1 ⟨x, H1, I1, r1, q1⟩ => ?_
  obtain ⟨a, e, ⟨xs, hq⟩, q⟩ := q1
  subst e
  cases r1
  obtain ⟨its, rv, p, hz⟩ := I1.list hq
  refine wpAny_pyIter_list p.isList ?_
  refine ⟨s1.heap.objs.size, [s1.heap.objs.size], _, _, H1, rfl, I1.kept (t' := s1.toks) fun b o e => Heap.get?_push_of_some _ e, turn_list a _, ⟨_, Heap.get?_push_size _ rfl, rfl, rfl⟩, fun b hb => ?_, q⟩
  have e : b = s1.heap.objs.size := by simpa using hb
  subst e
  exact I1.fpOk (Nat.le_refl _) (I1.hok.fresh (Nat.le_refl _))
theorem pi_tup {l : Expr} {tl : TE} (hl : PE X l tl) : PI X tg l (iTup X.K tl) := by
  intro pins s σ H R I h
  refine thn (hl pins s σ H _ I h) fun v s1 ⟨x, H1, I1, r1, q1⟩ => ?_
  obtain ⟨a, e, ⟨xs, hq⟩, q⟩ := q1
  subst e
  cases r1
  obtain ⟨its, rv, p, hz⟩ := I1.tuple hq
  refine wpAny_pyIter_tuple (show s1.heap.IsTuple a its.toArray from p) ?_
  refine ⟨s1.heap.objs.size, [s1.heap.objs.size], _, _, H1, rfl, I1.kept (t' := s1.toks) fun b o e => Heap.get?_push_of_some _ e, turn_tuple a _, ⟨_, Heap.get?_push_size _ rfl, rfl, rfl⟩, fun b hb => ?_, q⟩
  have e : b = s1.heap.objs.size := by simpa using hb
  subst e
  exact I1.fpOk (Nat.le_refl _) (I1.hok.fresh (Nat.le_refl _))
/-- a range object just made, walked -/
theorem range_it {pins : List (Addr × Obj)} {σ : St} {H : Hp} {s : Shared} {R : It → Hp → Prop} {E : Value → Shared → Prop} {lo hi : Int} {t u v : Tok} {tk : Nat} (I : Inv X pins σ H s) (h1 : -(2 ^ 62) ≤ lo) (h2 : lo < 2 ^ 62) (h3 : -(2 ^ 62) ≤ hi) (h4 : hi < 2 ^ 62)
    (q : R (Itr lo (hi - lo).toNat) H) : wpAny (model X.prog X.w) X.A (pyIter (.ref s.heap.objs.size)) (PIE X pins σ tg R) E { s with heap := s.heap.push { cls := .type "range", data := .fields #[.int lo t, .int hi u, .int 1 v] }, toks := tk } := by
  refine wpAny_pyIter_range (IsRange.new ..) (small_one h1 h2 h3 h4) ?_
  have I1 : Inv X pins σ H { s with heap := s.heap.push { cls := .type "range", data := .fields #[.int lo t, .int hi u, .int 1 v] }, toks := tk } := I.kept fun b o e => Heap.get?_push_of_some _ e
  refine ⟨(s.heap.push { cls := .type "range", data := .fields #[.int lo t, .int hi u, .int 1 v] }).objs.size, [(s.heap.push { cls := .type "range", data := .fields #[.int lo t, .int hi u, .int 1 v] }).objs.size], _, _, H, rfl,
    I1.kept (t' := tk) fun b o e => Heap.get?_push_of_some _ e, turn_range _ lo (hi - lo).toNat, ?_, fun b hb => ?_, q⟩
  · have e1 : lo + ((0 : Nat) : Int) * 1 = lo := by simp
    have e2 : (((hi - lo).toNat : Nat) : Int) - ((0 : Nat) : Int) = Builtin.Range.rangeSize lo hi 1 := by rw [rangeSize_one]; split <;> omega
    show IsRangeIter _ _ (lo + ((0 : Nat) : Int) * 1) ((((hi - lo).toNat : Nat) : Int) - ((0 : Nat) : Int)) 1
    rw [e1, e2]
    exact Heap.get?_push_size _ rfl
  · have e : b = (s.heap.push { cls := .type "range", data := .fields #[.int lo t, .int hi u, .int 1 v] }).objs.size := by simpa using hb
    subst e
    exact I1.fpOk (Nat.le_refl _) (I1.hok.fresh (Nat.le_refl _))
def iRng1 (ta : TA) : TI := fun σ H R => ta σ H fun vs H1 => ∃ j : Int, vs = [.int j] ∧ -(2 ^ 62) ≤ j ∧ j < 2 ^ 62 ∧ R (Itr 0 j.toNat) H1
def iRng2 (ta : TA) : TI := fun σ H R => ta σ H fun vs H1 => ∃ i j : Int, vs = [.int i, .int j] ∧ (-(2 ^ 62) ≤ i ∧ i < 2 ^ 62 ∧ -(2 ^ 62) ≤ j ∧ j < 2 ^ 62) ∧ R (Itr i (j - i).toNat) H1
theorem pi_range1 {a : Expr} {ta : TA} {p pos : Pos} (hg : Gl X "range") (hm : X.mg "range" = none) (ha : PA X [a] ta) (hs : starEach [a] X.env = [(false, eval a X.env)] := by rfl) : PI X tg (.Call (.Name "range" p) [a] [] pos) (iRng1 ta) := by
  intro pins s σ H R I h
  refine Call_ (ld_blt I hg hm boot_range (PyProof.Rows.callWith_type1 (thn (ha pos pins s σ H _ I h) fun us s1 ⟨vs, H1, I1, r1, q1⟩ => ?_) hs rfl))
  obtain ⟨j, e, q1, q2, q⟩ := q1
  subst e
  cases r1 with
  | cons r rr =>
    cases rr
    obtain ⟨t, rfl⟩ := r
    exact call_range_1 (range_it I1 (by omega) (by omega) q1 q2 (by simpa using q))
theorem pi_range2 {a b : Expr} {ta : TA} {p pos : Pos} (hg : Gl X "range") (hm : X.mg "range" = none) (ha : PA X [a, b] ta) (hs : starEach [a, b] X.env = [(false, eval a X.env), (false, eval b X.env)] := by rfl) (hs2 : starEach [b] X.env = [(false, eval b X.env)] := by rfl) :
    PI X tg (.Call (.Name "range" p) [a, b] [] pos) (iRng2 ta) := by
  intro pins s σ H R I h
  refine Call_ (ld_blt I hg hm boot_range (PyProof.Rows.callWith_type1 (thn (ha pos pins s σ H _ I h) fun us s1 ⟨vs, H1, I1, r1, q1⟩ => ?_) (by rw [hs, hs2]) (by rw [hs2]; rfl)))
  obtain ⟨i, j, e, ⟨q1, q2, q3, q4⟩, q⟩ := q1
  subst e
  cases r1 with
  | cons r rr =>
    cases rr with
    | cons r' rr =>
      cases rr
      obtain ⟨t, rfl⟩ := r
      obtain ⟨t', rfl⟩ := r'
      exact call_range_2 (range_it I1 q1 q2 q3 q4 q)

/-! ### for -/
/-- W: the invariant by the turn and a measure; N: what the body is to reach -/
def tFor (wi : TI) (g : TG) (tb : TS) : TS := fun D σ H => wi σ H fun J H1 => ∃ W : Nat → Nat → St → Hp → Prop, (∃ m, W 0 m σ H1) ∧ ∀ i m σ H, W i m σ H →
  (J.stop i H ∧ D.nx σ H) ∨ (J.go i H ∧ ∃ N : St → Hp → Prop, (∀ σ' H', N σ' H' → ∃ m', m' < m ∧ W (i + 1) m' σ' H') ∧ ∀ x H', J.yld i H x H' → g x σ H' fun σ2 H2 => tb { D with nx := N, ct := N, bk := D.nx } σ2 H2)
/-- the records at fp as they stand -/
def pinsAt (fp : List Addr) (h : Heap) : List (Addr × Obj) := fp.filterMap fun b => (h.get? b).map fun o => (b, o)
theorem mem_pinsAt {fp : List Addr} {h : Heap} {b : Addr} {o : Obj} (hb : b ∈ fp) (e : h.get? b = some o) : (b, o) ∈ pinsAt fp h := List.mem_filterMap.mpr ⟨b, hb, by rw [e]; rfl⟩
theorem of_pinsAt {fp : List Addr} {h : Heap} {p : Addr × Obj} (hp : p ∈ pinsAt fp h) : p.1 ∈ fp ∧ h.get? p.1 = some p.2 := by
  obtain ⟨b, hb, e⟩ := List.mem_filterMap.mp hp
  cases q : h.get? b with
  | none => rw [q] at e; cases e
  | some o =>
    rw [q] at e
    have e' : (b, o) = p := Option.some.inj e
    subst e'
    exact ⟨hb, q⟩
theorem Inv.pinned {pins : List (Addr × Obj)} {σ : St} {H : Hp} {s : Shared} {fp : List Addr} (I : Inv X pins σ H s) (hf : ∀ b ∈ fp, FpOk X pins H b) (ho : ∀ b ∈ fp, ∃ o, s.heap.get? b = some o ∧ ∀ v, o.data ≠ .cell v) : Inv X (pins ++ pinsAt fp s.heap) σ H s :=
  I.pins_of fun p hp => (List.mem_append.mp hp).elim (fun z => I.pin p (List.mem_append_right _ z)) fun z => by
    obtain ⟨hb, e⟩ := of_pinsAt z
    obtain ⟨f0, f1, f2, _⟩ := hf p.1 hb
    obtain ⟨o, e', d⟩ := ho p.1 hb
    rw [e] at e'; cases e'
    exact ⟨e, f0, f1, f2, d⟩
theorem Inv.unpinned {pins pl : List (Addr × Obj)} {σ : St} {H : Hp} {s : Shared} (I : Inv X (pins ++ pl) σ H s) : Inv X pins σ H s := I.pins_of fun p hp => I.pin p (List.mem_append_right _ (List.mem_append_left _ hp))
theorem ps_for {iter : Expr} {body : List Stmt} {wi : TI} {g : TG} {tb : TS} {pos : Pos} (hp : PassesOwn (model X.prog X.w) X.A X.env X.xe) (hc : X.calm = true) (hi : PI X tg iter wi) (hg : PG X tg g) (hb : PSs X body tb)
    (hs : ∀ x, foldedSetIterable iter X.env x = pure x := by intro _; rfl) : PS X (.For tg iter body [] pos) (tFor wi g tb) := by
  intro pins s σ H D I h
  refine wpAny_For (thn (hi pins s σ H _ I h) fun v s1 h1 => thn h1 fun itv s2 h2 => ?_) hs
  obtain ⟨it, fp, tn, J, H2, e, I2, T, st2, f2, W, ⟨m0, w0⟩, turn⟩ := h2
  subst e
  -- what stays true of the iterator's objects through the loop
  have stat : ∀ {H' : Hp}, (∀ b ∈ fp, H' b = none) → ∀ b ∈ fp, FpOk X pins H' b := fun hn b hb => ⟨hn b hb, (f2 b hb).2⟩
  refine codeAny_forLoop_any (fun n s' => ∃ i σ' H', Inv X pins σ' H' s' ∧ tn i s'.heap ∧ (∀ b ∈ fp, H' b = none) ∧ W i n σ' H') ?_ m0 ⟨0, σ, H2, I2, st2, fun b hb => (f2 b hb).1, w0⟩
  rintro n s3 ⟨i, σ3, H3, I3, st3, fr3, w3⟩
  rcases turn i n σ3 H3 w3 with ⟨stop, qn⟩ | ⟨go, N, hN, step⟩
  · refine wpAny_passesOwn hp (thn (T.done X rfl rfl rfl hc i pins s3 σ3 H3 X.xe I3 (stat fr3) st3 stop) fun r s4 ⟨hr, I4⟩ => ?_)
    subst hr
    exact wpAny_execs_nil ⟨σ3, H3, I4, qn⟩
  · refine wpAny_passesOwn hp (thn (T.item X rfl rfl rfl hc i pins s3 σ3 H3 X.xe I3 (stat fr3) st3 go) fun r s4 ⟨u, hr, h4⟩ => ?_)
    subst hr
    refine wpAny_passesOwn hp (thn h4 fun _ s5 ⟨x, H5, I5, r5, y5, st5, fr5⟩ => ?_)
    have I5' := I5.pinned (stat fr5) (T.obj _ _ st5)
    refine wpAny_passesOwn hp (thn (hg _ s5 σ3 H5 x u _ I5' r5 (step x H5 y5)) fun _ s6 ⟨σ6, H6, I6, q6⟩ => ?_)
    refine wpAny_passesOwn hp (thn (hb _ s6 σ6 H6 _ I6 q6) fun f s7 q7 => ?_)
    have again : ∀ {σ7 : St} {H7 : Hp}, Inv X (pins ++ pinsAt fp s5.heap) σ7 H7 s7 → N σ7 H7 → ∃ m, m < n ∧ ∃ i σ' H', Inv X pins σ' H' s7 ∧ tn i s7.heap ∧ (∀ b ∈ fp, H' b = none) ∧ W i m σ' H' := fun {σ7 H7} I7 n7 => by
      obtain ⟨m', hm, w7⟩ := hN σ7 H7 n7
      refine ⟨m', hm, i + 1, σ7, H7, I7.unpinned, T.keep _ _ _ st5 fun b hb o e => (I7.pin (b, o) (List.mem_append_right _ (List.mem_append_right _ (mem_pinsAt hb e)))).1, fun b hb => ?_, w7⟩
      obtain ⟨o, e, d⟩ := T.obj _ _ st5 b hb
      exact (I7.pin (b, o) (List.mem_append_right _ (List.mem_append_right _ (mem_pinsAt hb e)))).2.1
    cases f with
    | next => obtain ⟨σ7, H7, I7, n7⟩ := q7; exact again I7 n7
    | cont => obtain ⟨σ7, H7, I7, n7⟩ := q7; exact again I7 n7
    | brk => obtain ⟨σ7, H7, I7, q7⟩ := q7; exact ⟨σ7, H7, I7.unpinned, q7⟩
    | ret v => obtain ⟨x7, σ7, H7, I7, r7, q7⟩ := q7; exact ⟨x7, σ7, H7, I7.unpinned, r7, q7⟩
end

/-! ### the forms one uses -/
/-- over a list that the body leaves as it is -/
theorem for_list {K : PySem.W.Frag} {a : Addr} {xs : List V} {g : TG} {tb : TS} {D : Ends} {σ : St} {H : Hp} (Pv : Nat → St → Hp → Prop) (h0 : Pv 0 σ H) (hl : ∀ i σ H, i ≤ xs.length → Pv i σ H → SqL K H a xs)
    (hs : ∀ i x σ H, xs[i]? = some x → Pv i σ H → g x σ H fun σ2 H2 => tb { D with nx := Pv (i + 1), ct := Pv (i + 1), bk := D.nx } σ2 H2) (hd : ∀ σ H, Pv xs.length σ H → D.nx σ H) :
    ∃ W : Nat → Nat → St → Hp → Prop, (∃ m, W 0 m σ H) ∧ ∀ i m σ H, W i m σ H →
      ((Itl K a).stop i H ∧ D.nx σ H) ∨ ((Itl K a).go i H ∧ ∃ N : St → Hp → Prop, (∀ σ' H', N σ' H' → ∃ m', m' < m ∧ W (i + 1) m' σ' H') ∧ ∀ x H', (Itl K a).yld i H x H' → g x σ H' fun σ2 H2 => tb { D with nx := N, ct := N, bk := D.nx } σ2 H2) := by
  refine ⟨fun i m σ H => m = xs.length - i ∧ i ≤ xs.length ∧ Pv i σ H, ⟨xs.length, by simp, Nat.zero_le _, h0⟩, ?_⟩
  rintro i m σ H ⟨rfl, hi, p⟩
  have q := hl i σ H hi p
  by_cases hlt : i < xs.length
  · refine .inr ⟨⟨xs, xs[i], q, by simp [hlt]⟩, Pv (i + 1), fun σ' H' p' => ⟨xs.length - (i + 1), by omega, rfl, hlt, p'⟩, fun x H' y => ?_⟩
    obtain ⟨e, y⟩ := y
    subst e
    exact hs i x σ _ (y xs q) p
  · have e : i = xs.length := by omega
    subst e
    exact .inl ⟨⟨xs, q, Nat.le_refl _⟩, hd σ H p⟩
theorem for_tup {K : PySem.W.Frag} {a : Addr} {xs : List V} {g : TG} {tb : TS} {D : Ends} {σ : St} {H : Hp} (Pv : Nat → St → Hp → Prop) (h0 : Pv 0 σ H) (hl : ∀ i σ H, i ≤ xs.length → Pv i σ H → SqT K H a xs)
    (hs : ∀ i x σ H, xs[i]? = some x → Pv i σ H → g x σ H fun σ2 H2 => tb { D with nx := Pv (i + 1), ct := Pv (i + 1), bk := D.nx } σ2 H2) (hd : ∀ σ H, Pv xs.length σ H → D.nx σ H) :
    ∃ W : Nat → Nat → St → Hp → Prop, (∃ m, W 0 m σ H) ∧ ∀ i m σ H, W i m σ H →
      ((Itt K a).stop i H ∧ D.nx σ H) ∨ ((Itt K a).go i H ∧ ∃ N : St → Hp → Prop, (∀ σ' H', N σ' H' → ∃ m', m' < m ∧ W (i + 1) m' σ' H') ∧ ∀ x H', (Itt K a).yld i H x H' → g x σ H' fun σ2 H2 => tb { D with nx := N, ct := N, bk := D.nx } σ2 H2) := by
  refine ⟨fun i m σ H => m = xs.length - i ∧ i ≤ xs.length ∧ Pv i σ H, ⟨xs.length, by simp, Nat.zero_le _, h0⟩, ?_⟩
  rintro i m σ H ⟨rfl, hi, p⟩
  have q := hl i σ H hi p
  by_cases hlt : i < xs.length
  · refine .inr ⟨⟨xs, xs[i], q, by simp [hlt]⟩, Pv (i + 1), fun σ' H' p' => ⟨xs.length - (i + 1), by omega, rfl, hlt, p'⟩, fun x H' y => ?_⟩
    obtain ⟨e, y⟩ := y
    subst e
    exact hs i x σ _ (y xs q) p
  · have e : i = xs.length := by omega
    subst e
    exact .inl ⟨⟨xs, q, Nat.le_refl _⟩, hd σ H p⟩
theorem for_range {lo : Int} {n : Nat} {g : TG} {tb : TS} {D : Ends} {σ : St} {H : Hp} (Pv : Nat → St → Hp → Prop) (h0 : Pv 0 σ H)
    (hs : ∀ i σ H, i < n → Pv i σ H → g (.int (lo + i)) σ H fun σ2 H2 => tb { D with nx := Pv (i + 1), ct := Pv (i + 1), bk := D.nx } σ2 H2) (hd : ∀ σ H, Pv n σ H → D.nx σ H) :
    ∃ W : Nat → Nat → St → Hp → Prop, (∃ m, W 0 m σ H) ∧ ∀ i m σ H, W i m σ H →
      ((Itr lo n).stop i H ∧ D.nx σ H) ∨ ((Itr lo n).go i H ∧ ∃ N : St → Hp → Prop, (∀ σ' H', N σ' H' → ∃ m', m' < m ∧ W (i + 1) m' σ' H') ∧ ∀ x H', (Itr lo n).yld i H x H' → g x σ H' fun σ2 H2 => tb { D with nx := N, ct := N, bk := D.nx } σ2 H2) := by
  refine ⟨fun i m σ H => m = n - i ∧ i ≤ n ∧ Pv i σ H, ⟨n, by simp, Nat.zero_le _, h0⟩, ?_⟩
  rintro i m σ H ⟨rfl, hi, p⟩
  by_cases hlt : i < n
  · refine .inr ⟨hlt, Pv (i + 1), fun σ' H' p' => ⟨n - (i + 1), by omega, rfl, hlt, p'⟩, fun x H' y => ?_⟩
    obtain ⟨e, y⟩ := y
    subst e y
    exact hs i σ _ hlt p
  · have e : i = n := by omega
    subst e
    exact .inl ⟨Nat.le_refl _, hd σ H p⟩
end L2

namespace L2
open PySem PySem.Spec PyProof.Rows

abbrev R2 := V → V → Hp → VK → Prop
/-- a two-place operation on values: f is binaryOp op, inplaceOp op or compareOp op -/
def OpR (X : Cx) (f : Value → Value → Sem Value) (r : R2) : Prop :=
  ∀ (pins : List (Addr × Obj)) (s : Shared) (σ : St) (H : Hp) (x y : V) (v u : Value) (Q : VK), Inv X pins σ H s → RelV x v → RelV y u → r x y H Q →
    wpAny (model X.prog X.w) X.A (f v u) (EP X pins σ Q) X.xe s
/-- a one-place operation -/
def UnR (X : Cx) (f : Value → Sem Value) (r : V → Hp → VK → Prop) : Prop :=
  ∀ (pins : List (Addr × Obj)) (s : Shared) (σ : St) (H : Hp) (x : V) (v : Value) (Q : VK), Inv X pins σ H s → RelV x v → r x H Q →
    wpAny (model X.prog X.w) X.A (f v) (EP X pins σ Q) X.xe s
/-- a call of a value that is known (a builtin, a type) with values -/
def CallR (X : Cx) (f : Value) (r : List V → Hp → VK → Prop) : Prop :=
  ∀ (pins : List (Addr × Obj)) (s : Shared) (σ : St) (H : Hp) (xs : List V) (us : List Value) (Q : VK), Inv X pins σ H s → Vals xs us → r xs H Q →
    wpAny (model X.prog X.w) X.A (call f us) (EP X pins σ Q) X.xe s
/-- a value's truth -/
def TruR (X : Cx) (r : V → Hp → (Bool → Hp → Prop) → Prop) : Prop :=
  ∀ (pins : List (Addr × Obj)) (s : Shared) (σ : St) (H : Hp) (x : V) (v : Value) (Q : Bool → Hp → Prop), Inv X pins σ H s → RelV x v → r x H Q →
    wpAny (model X.prog X.w) X.A (truthy v) (TP X pins σ Q) X.xe s

def tOp (r : R2) (ta tb : TE) : TE := fun σ H Q => ta σ H fun x H1 => tb σ H1 fun y H2 => r x y H2 Q
def tUn (r : V → Hp → VK → Prop) (ta : TE) : TE := fun σ H Q => ta σ H fun x H1 => r x H1 Q
/-- ints in, under C, and a value out -/
def rI (C : Int → Int → Prop) (g : Int → Int → V) : R2 := fun x y H Q => ∃ i j, x = .int i ∧ y = .int j ∧ C i j ∧ Q (g i j) H
def rI0 (g : Int → Int → V) : R2 := fun x y H Q => ∃ i j, x = .int i ∧ y = .int j ∧ Q (g i j) H
def rU (g : Int → V) : V → Hp → VK → Prop := fun x H Q => ∃ i, x = .int i ∧ Q (g i) H

section
variable {X : Cx} {a b c : Expr} {ta tb tc : TE} {pos : Pos}

theorem binT (ha : PE X a ta) (hb : PE X b tb) {pins : List (Addr × Obj)} {s : Shared} {σ : St} {H : Hp} {R : V → V → Hp → Prop} (I : Inv X pins σ H s)
    (h : ta σ H fun x H1 => tb σ H1 fun y H2 => R x y H2) {Q : Value → Shared → Prop} {f : Value → Value → Sem Value}
    (hf : ∀ v u s2 x y H2, Inv X pins σ H2 s2 → RelV x v → RelV y u → R x y H2 → wpAny (model X.prog X.w) X.A (f v u) Q X.xe s2) :
    wpAny (model X.prog X.w) X.A (eval a X.env) (fun v s₁ => wpAny (model X.prog X.w) X.A (eval b X.env) (fun u s₂ => wpAny (model X.prog X.w) X.A (f v u) Q X.xe s₂) X.xe s₁) X.xe s := by
  refine thn (ha pins s σ H _ I h) fun v s1 ⟨x, H1, I1, r1, q1⟩ => ?_
  refine thn (hb pins s1 σ H1 _ I1 q1) fun u s2 ⟨y, H2, I2, r2, q2⟩ => ?_
  exact hf v u s2 x y H2 I2 r1 r2 q2

theorem pe_op {op : Operator} {r : R2} (ho : OpR X (binaryOp op) r) (ha : PE X a ta) (hb : PE X b tb) : PE X (.BinOp a op b pos) (tOp r ta tb) := by
  intro pins s σ H Q I h
  exact wpAny_BinOp (binT ha hb I h fun v u s2 x y H2 I2 rx ry q => ho pins s2 σ H2 x y v u Q I2 rx ry q)
theorem pe_un {op : UnaryOp} {r : V → Hp → VK → Prop} (ho : UnR X (unaryOp op) r) (ha : PE X a ta) : PE X (.UnaryOp op a pos) (tUn r ta) := by
  intro pins s σ H Q I h
  exact UnaryOp_ (thn (ha pins s σ H _ I h) fun v s1 ⟨x, H1, I1, r1, q1⟩ => ho pins s1 σ H1 x v Q I1 r1 q1)
/-! ### ints -/
theorem opI {f : Value → Value → Sem Value} {C : Int → Int → Prop} {g : Int → Int → Int}
    (rule : ∀ (i j : Int) (t u : Tok) (s : Shared) (Q : Value → Shared → Prop) (E : Value → Shared → Prop), C i j → Q (.int (g i j) s.toks) { s with toks := s.toks + 1 } → wpAny (model X.prog X.w) X.A (f (.int i t) (.int j u)) Q E s) :
    OpR X f (rI C fun i j => .int (g i j)) := by
  intro pins s σ H x y v u Q I rx ry h
  obtain ⟨i, j, rfl, rfl, hc, q⟩ := h
  obtain ⟨t, rfl⟩ := rx
  obtain ⟨t', rfl⟩ := ry
  exact rule i j t t' s _ _ hc ⟨.int (g i j), H, I.tok _, ⟨_, rfl⟩, q⟩
theorem opI0 {f : Value → Value → Sem Value} {g : Int → Int → Int}
    (rule : ∀ (i j : Int) (t u : Tok) (s : Shared) (Q : Value → Shared → Prop) (E : Value → Shared → Prop), Q (.int (g i j) s.toks) { s with toks := s.toks + 1 } → wpAny (model X.prog X.w) X.A (f (.int i t) (.int j u)) Q E s) :
    OpR X f (rI0 fun i j => .int (g i j)) := by
  intro pins s σ H x y v u Q I rx ry h
  obtain ⟨i, j, rfl, rfl, q⟩ := h
  obtain ⟨t, rfl⟩ := rx
  obtain ⟨t', rfl⟩ := ry
  exact rule i j t t' s _ _ ⟨.int (g i j), H, I.tok _, ⟨_, rfl⟩, q⟩
theorem opB0 {f : Value → Value → Sem Value} {g : Int → Int → Bool}
    (rule : ∀ (i j : Int) (t u : Tok) (s : Shared) (Q : Value → Shared → Prop) (E : Value → Shared → Prop), Q (.bool (g i j)) s → wpAny (model X.prog X.w) X.A (f (.int i t) (.int j u)) Q E s) :
    OpR X f (rI0 fun i j => .bl (g i j)) := by
  intro pins s σ H x y v u Q I rx ry h
  obtain ⟨i, j, rfl, rfl, q⟩ := h
  obtain ⟨t, rfl⟩ := rx
  obtain ⟨t', rfl⟩ := ry
  exact rule i j t t' s _ _ ⟨.bl (g i j), H, I, rfl, q⟩

def CDiv (i j : Int) : Prop := 0 < j ∧ j < 1073741824
def CDivN (i j : Int) : Prop := j ≠ 0 ∧ j.natAbs < 1073741824
def CPow (i j : Int) : Prop := 0 ≤ j ∧ j ≤ 1000000 ∧ i.natAbs < 2 ^ 64
def CMul (i j : Int) : Prop := (-(2 ^ 64) < i ∧ i < 2 ^ 64) ∨ (-(2 ^ 64) < j ∧ j < 2 ^ 64)
theorem CMul.ok {i j : Int} (h : CMul i j) : IntMulOk i j := by
  rcases h with ⟨h1, h2⟩ | ⟨h1, h2⟩
  · exact .of_left (intBits_le_64 h1 h2)
  · exact .of_right (intBits_le_64 h1 h2)
theorem two_pow_nn (k : Nat) : (0 : Int) ≤ 2 ^ k := by
  rw [two_pow_cast]
  exact Int.natCast_nonneg _

theorem op_add : OpR X (binaryOp .Add) (rI0 fun i j => .int (i + j)) := opI0 fun _ _ _ _ _ _ _ q => add_int q
theorem op_sub : OpR X (binaryOp .Sub) (rI0 fun i j => .int (i - j)) := opI0 fun _ _ _ _ _ _ _ q => sub_int q
theorem op_mul : OpR X (binaryOp .Mult) (rI CMul fun i j => .int (i * j)) := opI fun _ _ _ _ _ _ _ hc q => mul_int q hc.ok
/-- // by a positive divisor -/
theorem op_fdiv : OpR X (binaryOp .FloorDiv) (rI CDiv fun i j => .int (i / j)) := opI fun i j _ _ _ _ _ hc q => by
  have h1 : (0 : Int) < j := hc.1
  have h2 : j < 1073741824 := hc.2
  exact floordiv_int (by omega) (by rw [Int.fdiv_eq_ediv_of_nonneg i (by omega)]; exact q) (.inl (PyProof.noPylong_small (by omega)))
/-- % by a positive divisor of any size -/
theorem op_mod : OpR X (binaryOp .Mod) (rI (fun _ j => 0 < j) fun i j => .int (i % j)) := opI fun i j _ _ _ _ _ hc q => by
  have h1 : (0 : Int) < j := hc
  exact mod_int' (by omega) (by rw [Int.fmod_eq_emod_of_nonneg i (by omega)]; exact q)
theorem op_shl : OpR X (binaryOp .LShift) (rI CPow fun i j => .int (i * 2 ^ j.toNat)) := opI fun _ _ _ _ _ _ _ hc q => lshift_int_small hc.1 hc.2.1 hc.2.2 q
theorem op_shr : OpR X (binaryOp .RShift) (rI (fun _ j => 0 ≤ j) fun i j => .int (i / 2 ^ j.toNat)) := opI fun i j _ _ _ _ _ hc q =>
  rshift_int hc (by rw [Int.fdiv_eq_ediv_of_nonneg i (two_pow_nn _)]; exact q)
theorem op_and : OpR X (binaryOp .BitAnd) (rI0 fun i j => .int (Builtin.bitAnd i j)) := opI0 fun _ _ _ _ _ _ _ q => and_int q
theorem op_xor : OpR X (binaryOp .BitXor) (rI0 fun i j => .int (Builtin.bitXor i j)) := opI0 fun _ _ _ _ _ _ _ q => xor_int q

theorem unI {f : Value → Sem Value} {g : Int → Int}
    (rule : ∀ (i : Int) (t : Tok) (s : Shared) (Q : Value → Shared → Prop) (E : Value → Shared → Prop), Q (.int (g i) s.toks) { s with toks := s.toks + 1 } → wpAny (model X.prog X.w) X.A (f (.int i t)) Q E s) :
    UnR X f (rU fun i => .int (g i)) := by
  intro pins s σ H x v Q I rx h
  obtain ⟨i, rfl, q⟩ := h
  obtain ⟨t, rfl⟩ := rx
  exact rule i t s _ _ ⟨.int (g i), H, I.tok _, ⟨_, rfl⟩, q⟩
theorem un_neg : UnR X (unaryOp .USub) (rU fun i => .int (-i)) := unI fun _ _ _ _ _ q => neg_int q
/-! ### bools among ints: n += (a < b) -/
end

/-! ### comparisons -/
/-- the scalars that == tells apart as data does -/
def scal : V → V → Bool
  | .non, .non => true | .non, .int _ => true | .int _, .non => true | .non, .bl _ => true | .bl _, .non => true | .non, .str _ => true | .str _, .non => true
  | .int _, .int _ => true | .bl _, .bl _ => true | .str _, .str _ => true | .byt _, .byt _ => true
  | .int _, .str _ => true | .str _, .int _ => true | .bl _, .str _ => true | .str _, .bl _ => true
  | _, _ => false
def rEq : R2 := fun x y H Q => scal x y = true ∧ Q (.bl (decide (x = y))) H
def rNe : R2 := fun x y H Q => scal x y = true ∧ Q (.bl (!decide (x = y))) H

theorem dec_int {i j : Int} : decide (V.int i = V.int j) = (i == j) := by
  rw [Bool.eq_iff_iff]
  simp
theorem dec_bl {i j : Bool} : decide (V.bl i = V.bl j) = (i == j) := by
  rw [Bool.eq_iff_iff]
  simp
theorem dec_str {i j : Str} : decide (V.str i = V.str j) = (i == j) := by
  rw [Bool.eq_iff_iff]
  simp
theorem dec_byt {i j : Array UInt8} : decide (V.byt i = V.byt j) = (i.toList == j.toList) := by
  rw [Bool.eq_iff_iff]
  cases i
  cases j
  simp

section
variable {X : Cx} {a b c : Expr} {ta tb tc : TE} {pos : Pos}
theorem fin_bl {pins : List (Addr × Obj)} {σ : St} {H : Hp} {s : Shared} {Q : VK} {k k' : Bool} (I : Inv X pins σ H s) (q : Q (.bl k) H) (e : k = k') : EP X pins σ Q (.bool k') s := by
  subst e
  exact ⟨.bl k, H, I, rfl, q⟩
theorem op_eq : OpR X (compareOp .Eq) rEq := by
  intro pins s σ H x y v u Q I rx ry h
  obtain ⟨hs, q⟩ := h
  cases x with
  | non =>
    cases rx
    cases y with
    | non => cases ry; exact PySem.EqNone.eq_none_none (fin_bl I q (by simp))
    | bl j => cases ry; exact PySem.EqNone.eq_none_bool (fin_bl I q (by simp))
    | int j => obtain ⟨t', rfl⟩ := ry; exact PySem.EqNone.eq_none_int (fin_bl I q (by simp))
    | str j => obtain ⟨t', rfl⟩ := ry; exact PySem.EqNone.eq_none_str (fin_bl I q (by simp))
    | _ => exact absurd (show false = true from hs) Bool.false_ne_true
  | bl i =>
    cases rx
    cases y with
    | non => cases ry; exact PySem.EqNone.eq_bool_none (fin_bl I q (by simp))
    | bl j => cases ry; exact eq_bool (fin_bl I q dec_bl)
    | str j => obtain ⟨t', rfl⟩ := ry; exact PySem.EqMixed.eq_bool_str (fin_bl I q (by simp))
    | _ => exact absurd (show false = true from hs) Bool.false_ne_true
  | int i =>
    obtain ⟨t, rfl⟩ := rx
    cases y with
    | non => cases ry; exact PySem.EqNone.eq_int_none (fin_bl I q (by simp))
    | int j => obtain ⟨t', rfl⟩ := ry; exact eq_int (fin_bl I q dec_int)
    | str j => obtain ⟨t', rfl⟩ := ry; exact PySem.EqMixed.eq_int_str (fin_bl I q (by simp))
    | _ => exact absurd (show false = true from hs) Bool.false_ne_true
  | str i =>
    obtain ⟨t, rfl⟩ := rx
    cases y with
    | non => cases ry; exact PySem.EqNone.eq_str_none (fin_bl I q (by simp))
    | bl j => cases ry; exact PySem.EqMixed.eq_str_bool (fin_bl I q (by simp))
    | int j => obtain ⟨t', rfl⟩ := ry; exact PySem.EqMixed.eq_str_int (fin_bl I q (by simp))
    | str j => obtain ⟨t', rfl⟩ := ry; exact eq_str (fin_bl I q dec_str)
    | _ => exact absurd (show false = true from hs) Bool.false_ne_true
  | byt i =>
    obtain ⟨t, rfl⟩ := rx
    cases y with
    | byt j => obtain ⟨t', rfl⟩ := ry; exact PySem.W.eq_bytes (fin_bl I q dec_byt)
    | _ => exact absurd (show false = true from hs) Bool.false_ne_true
  | _ => cases y <;> exact absurd (show false = true from hs) Bool.false_ne_true
theorem op_ne : OpR X (compareOp .NotEq) rNe := by
  intro pins s σ H x y v u Q I rx ry h
  obtain ⟨hs, q⟩ := h
  cases x with
  | non =>
    cases rx
    cases y with
    | non => cases ry; exact PySem.EqNone.ne_none_none (fin_bl I q (by simp))
    | bl j => cases ry; exact PySem.EqNone.ne_none_bool (fin_bl I q (by simp))
    | int j => obtain ⟨t', rfl⟩ := ry; exact PySem.EqNone.ne_none_int (fin_bl I q (by simp))
    | str j => obtain ⟨t', rfl⟩ := ry; exact PySem.EqNone.ne_none_str (fin_bl I q (by simp))
    | _ => exact absurd (show false = true from hs) Bool.false_ne_true
  | bl i =>
    cases rx
    cases y with
    | non => cases ry; exact PySem.EqNone.ne_bool_none (fin_bl I q (by simp))
    | bl j => cases ry; exact ne_bool (fin_bl I q (congrArg not dec_bl))
    | str j => obtain ⟨t', rfl⟩ := ry; exact PySem.EqMixed.ne_bool_str (fin_bl I q (by simp))
    | _ => exact absurd (show false = true from hs) Bool.false_ne_true
  | int i =>
    obtain ⟨t, rfl⟩ := rx
    cases y with
    | non => cases ry; exact PySem.EqNone.ne_int_none (fin_bl I q (by simp))
    | int j => obtain ⟨t', rfl⟩ := ry; exact ne_int (fin_bl I q (congrArg not dec_int))
    | str j => obtain ⟨t', rfl⟩ := ry; exact PySem.EqMixed.ne_int_str (fin_bl I q (by simp))
    | _ => exact absurd (show false = true from hs) Bool.false_ne_true
  | str i =>
    obtain ⟨t, rfl⟩ := rx
    cases y with
    | non => cases ry; exact PySem.EqNone.ne_str_none (fin_bl I q (by simp))
    | bl j => cases ry; exact PySem.EqMixed.ne_str_bool (fin_bl I q (by simp))
    | int j => obtain ⟨t', rfl⟩ := ry; exact PySem.EqMixed.ne_str_int (fin_bl I q (by simp))
    | str j => obtain ⟨t', rfl⟩ := ry; exact ne_str (fin_bl I q (congrArg not dec_str))
    | _ => exact absurd (show false = true from hs) Bool.false_ne_true
  | byt i =>
    obtain ⟨t, rfl⟩ := rx
    cases y with
    | byt j => obtain ⟨t', rfl⟩ := ry; exact PySem.W.ne_bytes (fin_bl I q (congrArg not dec_byt))
    | _ => exact absurd (show false = true from hs) Bool.false_ne_true
  | _ => cases y <;> exact absurd (show false = true from hs) Bool.false_ne_true

theorem op_lt : OpR X (compareOp .Lt) (rI0 fun i j => .bl (decide (i < j))) := opB0 fun _ _ _ _ _ _ _ q => lt_int q
theorem op_le : OpR X (compareOp .LtE) (rI0 fun i j => .bl (decide (i ≤ j))) := opB0 fun _ _ _ _ _ _ _ q => le_int q
theorem op_gt : OpR X (compareOp .Gt) (rI0 fun i j => .bl (decide (j < i))) := opB0 fun _ _ _ _ _ _ _ q => gt_int q
theorem op_ge : OpR X (compareOp .GtE) (rI0 fun i j => .bl (decide (j ≤ i))) := opB0 fun _ _ _ _ _ _ _ q => ge_int q
/-- is None, is not None: the right side a value none -/
theorem op_isN : OpR X (compareOp .Is) (fun x y H Q => y = .non ∧ Q (.bl (decide (x = .non))) H) := by
  intro pins s σ H x y v u Q I rx ry h
  obtain ⟨rfl, q⟩ := h
  cases ry
  refine is_none_gen (fin_bl I q ?_)
  cases x <;> first
    | (cases rx; rfl)
    | (obtain ⟨t, rfl⟩ := rx; rfl)
/-- is, is not of two objects that are tracked lists or instances -/
def isObj : HO → Bool
  | .lst _ => true
  | .ins _ _ _ => true
  | _ => false
/-- two rules for one operation: by cases -/
theorem OpR.or {f : Value → Value → Sem Value} {r r' : R2} (h : OpR X f r) (h' : OpR X f r') : OpR X f (fun x y H Q => r x y H Q ∨ r' x y H Q) := by
  intro pins s σ H x y v u Q I rx ry q
  rcases q with q | q
  · exact h pins s σ H x y v u Q I rx ry q
  · exact h' pins s σ H x y v u Q I rx ry q

theorem nomark (b : Expr) {op : CmpOp} (h : op ≠ .In := by decide) (h2 : op ≠ .NotIn := by decide) : behindInMarks op b = false := by
  have e1 : (op == CmpOp.In) = false := by cases op <;> first | rfl | exact absurd rfl h
  have e2 : (op == CmpOp.NotIn) = false := by cases op <;> first | rfl | exact absurd rfl h2
  cases b <;> simp [behindInMarks, e1, e2]
/-- a comparison as a value; hm: nomark b, or (for in, not in) by with_unfolding_all rfl -/
theorem pe_cmpR {op : CmpOp} {r : R2} (ho : OpR X (compareOp op) r) (ha : PE X a ta) (hb : PE X b tb) (hm : behindInMarks op b = false) : PE X (.Compare a [op] [b] pos) (tOp r ta tb) := by
  intro pins s σ H Q I h
  exact wpAny_Compare1 (binT ha hb I h fun v u s2 x y H2 I2 rx ry q => ho pins s2 σ H2 x y v u Q I2 rx ry q) hm
/-- a reading of a value as a test -/
def tTest (t : TE) : TT := fun σ H Q => t σ H fun x H' => ∃ k, x = .bl k ∧ Q k H'
theorem pt_cmpR {op : CmpOp} {r : R2} (ho : OpR X (compareOp op) r) (ha : PE X a ta) (hb : PE X b tb) (hm : behindInMarks op b = false) : PT X (.Compare a [op] [b] pos) (tTest (tOp r ta tb)) := by
  intro pins s σ H Q I h
  refine wpAny_isTrue_Compare1 (thn (ha pins s σ H _ I h) fun v s1 ⟨x, H1, I1, r1, q1⟩ => thn (hb pins s1 σ H1 _ I1 q1) fun u s2 ⟨y, H2, I2, r2, q2⟩ =>
    thn (ho pins s2 σ H2 x y v u _ I2 r1 r2 q2) fun c s3 ⟨z, H3, I3, r3, k, e, q3⟩ => ?_) hm
  subst e
  cases r3
  exact wpAny_truthy_bool ⟨H3, I3, q3⟩
/-- a op1 b op2 c -/
def tChain (r r' : R2) (ta tb tc : TE) : TE := fun σ H Q => ta σ H fun x H1 => tb σ H1 fun y H2 => r x y H2 fun z H3 => ∃ k, z = .bl k ∧
  (if k = true then tc σ H3 fun w' H4 => r' y w' H4 Q else Q (.bl false) H3)
theorem pe_chain {op op' : CmpOp} {r r' : R2} (ho : OpR X (compareOp op) r) (ho' : OpR X (compareOp op') r') (ha : PE X a ta) (hb : PE X b tb) (hc : PE X c tc)
    (hm : lastMarks [op, op'] [b, c] = false := by with_unfolding_all rfl) : PE X (.Compare a [op, op'] [b, c] pos) (tChain r r' ta tb tc) := by
  intro pins s σ H Q I h
  refine Compare_chain (thn (ha pins s σ H _ I h) fun v s1 ⟨x, H1, I1, r1, q1⟩ => chain_link (thn (hb pins s1 σ H1 _ I1 q1) fun u s2 ⟨y, H2, I2, r2, q2⟩ =>
    thn (ho pins s2 σ H2 x y v u _ I2 r1 r2 q2) fun d s3 ⟨z, H3, I3, r3, k, e, q3⟩ => ?_)) hm
  subst e
  cases r3
  refine wpAny_truthy_bool ?_
  cases k with
  | false => exact ite_ff ⟨.bl false, H3, I3, rfl, q3⟩
  | true => exact ite_tt (chain_last (thn (hc pins s3 σ H3 _ I3 q3) fun w' s4 ⟨z', H4, I4, r4, q4⟩ => ho' pins s4 σ H4 y z' u w' Q I4 r2 r4 q4))
/-! ### truth -/
/-- a value's truth by the abstract heap -/
def TruV (K : PySem.W.Frag) (x : V) (H : Hp) (k : Bool) : Prop :=
  match x with
  | .non => k = false
  | .bl b => k = b
  | .int i => k = (i != 0)
  | .str y => y.length ≤ sizeLine ∧ k = ((y.length : Int) != 0)
  | .byt y => y.size ≤ sizeLine ∧ k = ((y.size : Int) != 0)
  | .ref p => (∃ xs, SqL K H p xs ∧ k = !xs.isEmpty) ∨ (∃ xs, SqT K H p xs ∧ k = !xs.isEmpty) ∨ ∃ kvs, H p = some (.dK kvs) ∧ k = !kvs.isEmpty
  | _ => False
theorem line63 : (sizeLine : Nat) < 2 ^ 63 := by rw [sizeLine_eq]; decide
/-! ### strs and bytes -/
def PlainIxT (b : Expr) : Prop := ∀ o i, subscripted b false o i = operate [o, i] (getItem o i)
/-! ### scalar builtins, by CallR -/
theorem vals1 {x : V} {us : List Value} (r : Vals [x] us) : ∃ u, us = [u] ∧ RelV x u := by
  cases r with
  | cons r1 r2 => cases r2; exact ⟨_, rfl, r1⟩
theorem vals2 {x y : V} {us : List Value} (r : Vals [x, y] us) : ∃ u w', us = [u, w'] ∧ RelV x u ∧ RelV y w' := by
  cases r with
  | cons r1 r2 =>
    cases r2 with
    | cons r3 r4 => cases r4; exact ⟨_, _, rfl, r1, r3⟩
theorem call_min2 (hc : X.A.handled = none) : CallR X (.builtin "min") (fun xs H Q => ∃ i j, xs = [.int i, .int j] ∧ Q (.int (if j < i then j else i)) H) := by
  intro pins s σ H xs us Q I r h
  obtain ⟨i, j, rfl, q⟩ := h
  obtain ⟨u, w', rfl, ⟨t, rfl⟩, ⟨t', rfl⟩⟩ := vals2 r
  refine min_two_ints hc fun h' tk k => ⟨_, H, I.kept k, ?_, q⟩
  by_cases hj : j < i
  · rw [if_pos hj, if_pos hj]; exact ⟨_, rfl⟩
  · rw [if_neg hj, if_neg hj]; exact ⟨_, rfl⟩
theorem call_int1 : CallR X (.type "int") (fun xs H Q => (∃ i, xs = [.int i] ∧ Q (.int i) H) ∨ ∃ k, xs = [.bl k] ∧ Q (.int (if k then 1 else 0)) H) := by
  intro pins s σ H xs us Q I r h
  rcases h with ⟨i, rfl, q⟩ | ⟨k, rfl, q⟩
  · obtain ⟨u, rfl, t, rfl⟩ := vals1 r
    exact call_int_int ⟨.int i, H, I, ⟨_, rfl⟩, q⟩
  · obtain ⟨u, rfl, r1⟩ := vals1 r
    cases r1
    exact call_int_bool ⟨.int (if k then 1 else 0), H, I.tok _, ⟨_, rfl⟩, q⟩
/-- len of a str, a bytes, a list, a tuple -/
def LenV (K : PySem.W.Frag) (x : V) (H : Hp) (n : Nat) : Prop :=
  match x with
  | .str y => y.length ≤ sizeLine ∧ n = y.length
  | .byt y => y.size ≤ sizeLine ∧ n = y.size
  | .ref p => (∃ xs, SqL K H p xs ∧ n = xs.length) ∨ ∃ xs, SqT K H p xs ∧ n = xs.length
  | _ => False
end
end L2

namespace L2
open PySem PySem.Spec PyProof.Rows

/-! ### an instance, its attributes a map -/
structure ObjM (h : Heap) (x dx C : Addr) (mA : Str → Option Value) : Prop where
  obj : h.get? x = some (PySem.W.instObj C dx)
  ns : h.Ns1 dx mA
  ne : dx ≠ x

theorem lookIn_ns {h : Heap} {dx : Addr} {mA : Str → Option Value} (n : h.Ns1 dx mA) : ∃ od, h.get? dx = some od ∧ ∀ name, PySem.W.lookIn name od = some (mA name) := by
  obtain ⟨o, es, ep, ho, hd, hk, _, hm⟩ := n
  refine ⟨o, ho, fun name => ?_⟩
  have e := hm name
  unfold nsFind findBy at e
  rw [← Array.find?_toList] at e
  unfold PySem.W.lookIn
  rw [hd]
  dsimp only
  split
  · rename_i y q
    rw [q] at e
    exact congrArg some e
  · rename_i q
    rw [q] at e
    have a : es.toList.any (·.refKey) = false := by
      rw [List.any_eq_false]
      intro y hy
      obtain ⟨z, t, hkey⟩ := hk y (Array.mem_toList_iff.mp hy)
      simp [DictEntry.refKey, hkey]
    have a' : ¬ es.toList.any (·.refKey) = true := by rw [a]; exact Bool.false_ne_true
    rw [if_neg a']
    exact congrArg some e

theorem ObjM.look {h : Heap} {x dx C : Addr} {mA : Str → Option Value} (I : ObjM h x dx C mA) : ∃ od, PySem.W.InstAt h x (PySem.W.instObj C dx) C (some od) ∧ ∀ name, PySem.W.lookIn name od = some (mA name) :=
  let ⟨od, ho, hl⟩ := lookIn_ns I.ns
  ⟨od, ⟨I.obj, rfl, rfl, ho⟩, hl⟩

section
variable {prog : Program} {w : World} {A : Around} {E : Value → Shared → Prop} {s : Shared} {K : PySem.W.Frag} {x dx C f : Addr} {mA : Str → Option Value} {name : Str} {v : Value}

theorem get_map {expr : Bool} {Q : Value → Shared → Prop} (X : K.In s.heap) (I : ObjM s.heap x dx C mA) (hg : PySem.W.plainGet K C name = true) (hh : PySem.W.hasDictIn K C = true)
    (ha : PySem.W.findIn K (.ref C) name = some none) (hv : mA name = some v) (hv' : PySem.W.handedIn v = true) (h : Q v { s with toks := s.toks + 1 }) :
    wpAny (model prog w) A (getAttr (.ref x) name expr) Q E s := by
  obtain ⟨od, J, hl⟩ := I.look
  exact PySem.W.get_value X J (PySem.W.plainGet_of hg).1 (PySem.W.findObj_own hh ha rfl (by rw [hl, hv])) hv' h

theorem get_meth {pl : Sem Bool} {Q : Value × List Value → Shared → Prop} (X : K.In s.heap) (I : ObjM s.heap x dx C mA) (hg : PySem.W.plainGet K C name = true)
    (hf : PySem.W.findIn K (.ref C) name = some (some (.ref f))) (ht : PySem.W.isFn K (.ref f) = true) (hv : mA name = none) (h : Q (.ref f, [.ref x]) s) :
    wpAny (model prog w) A (getMethod (.ref x) name pl) Q E s := by
  obtain ⟨od, J, hl⟩ := I.look
  exact PySem.W.method_fn X J (PySem.W.plainGet_of hg).1 (PySem.W.plainGet_of hg).2 hf (beq_iff_eq.mp ht) (by show (PySem.W.lookIn name od).map (·.isSome) = some false; rw [hl, hv]; rfl) h

theorem set_map {ns : List Str} {Q : Unit → Shared → Prop} (X : K.In s.heap) (I : ObjM s.heap x dx C mA)
    (hs : PySem.W.findIn K (.ref C) "__setattr__" = some (some (.builtin "object.__setattr__"))) (hp : PySem.W.plainOver K C = true) (ht : PySem.W.takerIn K C name = some none) (hh : PySem.W.hasDictIn K C = true)
    (hw : PySem.Within mA ns) (hsz : ns.length ≤ sizeLine)
    (h : ∀ h', ObjM h' x dx C (fun y => if y = name then some v else mA y) → Heap.SameBut dx s.heap h' → Q () { s with heap := h', toks := s.toks + 2 }) :
    wpAny (model prog w) A (setAttr (.ref x) name v) Q E s := by
  obtain ⟨od, J, hl⟩ := I.look
  refine PySem.W.set_plain X J hs (PySem.W.osa_open (s := { s with toks := s.toks + 1 }) (r := none) X J hp ht fun b => ?_)
  obtain ⟨cd, hc, hd'⟩ := PySem.W.any_some hh
  have hx : s.heap.get? x = some ⟨.ref C, some dx, .plain, #[]⟩ := I.obj
  refine wpAny_bind (wpAny_pure (wpAny_bind (wpAny_bind (wpAny_loadPart hx (wpAny_bind (PySem.W.Looks.here (s := { s with toks := s.toks + 1 }) (PySem.W.looks_clsIn X hc) ?_))))))
  rw [hd']
  refine wpAny_pure (a := some dx) (wpAny_bind (wpAny_pure (wpAny_bind ?_)))
  refine wpAny_nsSet1 (s := { s with toks := s.toks + 1 }) I.ns fun h' hn2 hs2 => ?_
  obtain ⟨oD, esD, epD, hoD, hdD, hcD⟩ := hn2.count (PySem.Within.cons name v hw)
  refine wpAny_bind (wpAny_lookBehind hoD (by rw [hdD]; exact pastItsLine_dict (Nat.le_trans hcD (by rw [List.length_cons]; omega))) ?_)
  exact wpAny_pure (h _ ⟨(hs2.2 _ (Ne.symm I.ne)).trans I.obj, hn2, I.ne⟩ hs2)

/-- C(..): the dict at the heap's end, the instance behind it; then its __init__ -/
theorem make_map {R : Result → Shared → Prop} {vs : List Value} {kw : List (Str × Value)} (X : K.In s.heap) (hm : PySem.W.makesIn K C = true)
    (hi : PySem.W.findIn K (.ref C) "__init__" = some (some (.ref f))) (hf : PySem.W.typeIn K (.ref f) = some (.type "function"))
    (h : codeAny (model prog w) (A.under (.builtin "type.__call__" ⟨.ref C :: vs, kw⟩)) (.call (.ref f) ⟨.ref (s.heap.objs.size + 1) :: vs, kw⟩) (PySem.W.InitBack (s.heap.objs.size + 1) R)
      { s with heap := (s.heap.push PySem.W.emptyDict).push (PySem.W.instObj C s.heap.objs.size) }) :
    codeAny (model prog w) A (.call (.ref C) ⟨vs, kw⟩) R s := by
  obtain ⟨hh, g, d, t, os⟩ := s
  exact PySem.W.make_core (PySem.W.makes_of X hm) (PySem.W.looks_findIn X hi) (fun self => PySem.W.bind_fn X self hf) (.inl rfl) h
end

/-! ### the attributes as a list of pairs -/
def putF (f : Str) (v : V) : List (Str × V) → List (Str × V)
  | [] => [(f, v)]
  | (g, x) :: r => if g = f then (g, v) :: r else (g, x) :: putF f v r
theorem lookup_putF (f g : Str) (v : V) : ∀ fs : List (Str × V), (putF f v fs).lookup g = if g = f then some v else fs.lookup g
  | [] => by
    show List.lookup g [(f, v)] = _
    by_cases h : g = f
    · have hb : (g == f) = true := beq_iff_eq.mpr h
      simp only [List.lookup, hb, if_pos h]
    · have hb : (g == f) = false := beq_eq_false_iff_ne.mpr h
      simp only [List.lookup, hb, if_neg h]
  | (k, x) :: r => by
    have ih := lookup_putF f g v r
    rw [show putF f v ((k, x) :: r) = (if k = f then (k, v) :: r else (k, x) :: putF f v r) from rfl]
    by_cases hk : k = f
    · rw [if_pos hk]
      by_cases h : g = k
      · have hb : (g == k) = true := beq_iff_eq.mpr h
        simp only [List.lookup, hb, if_pos (h.trans hk)]
      · have hb : (g == k) = false := beq_eq_false_iff_ne.mpr h
        simp only [List.lookup, hb, if_neg (fun e : g = f => h (e.trans hk.symm))]
    · rw [if_neg hk]
      by_cases h : g = k
      · have hb : (g == k) = true := beq_iff_eq.mpr h
        simp only [List.lookup, hb, if_neg (fun e : g = f => hk (h.symm.trans e))]
      · have hb : (g == k) = false := beq_eq_false_iff_ne.mpr h
        simp only [List.lookup, hb]
        exact ih
theorem keys_putF (f : Str) (v : V) : ∀ fs : List (Str × V), f ∈ (putF f v fs).map (·.1) ∧ ∀ g, g ∈ fs.map (·.1) → g ∈ (putF f v fs).map (·.1)
  | [] => ⟨by simp [putF], fun g h => by simp at h⟩
  | (k, x) :: r => by
    obtain ⟨i1, i2⟩ := keys_putF f v r
    rw [show putF f v ((k, x) :: r) = (if k = f then (k, v) :: r else (k, x) :: putF f v r) from rfl]
    by_cases hk : k = f
    · rw [if_pos hk]
      subst hk
      exact ⟨by simp, fun g h => by simpa using h⟩
    · rw [if_neg hk]
      refine ⟨?_, fun g h => ?_⟩
      · rw [List.map_cons]
        exact List.mem_cons_of_mem _ i1
      · rw [List.map_cons] at h ⊢
        rcases List.mem_cons.mp h with e | e
        · exact List.mem_cons.mpr (.inl e)
        · exact List.mem_cons_of_mem _ (i2 g e)
theorem length_putF (f : Str) (v : V) : ∀ fs : List (Str × V), (putF f v fs).length ≤ fs.length + 1
  | [] => by simp [putF]
  | (k, x) :: r => by
    have ih := length_putF f v r
    rw [show putF f v ((k, x) :: r) = (if k = f then (k, v) :: r else (k, x) :: putF f v r) from rfl]
    by_cases hk : k = f
    · rw [if_pos hk, List.length_cons, List.length_cons]; omega
    · rw [if_neg hk, List.length_cons, List.length_cons]; omega

theorem RelO.some_of {v : V} {o : Option Value} (r : RelO (some v) o) : ∃ u, o = some u ∧ RelV v u := by
  cases o with
  | none => exact (show False from r).elim
  | some u => exact ⟨u, rfl, r⟩
theorem RelO.none_of {o : Option Value} (r : RelO none o) : o = none := by
  cases o with
  | none => rfl
  | some u => exact (show False from r).elim
theorem handed_of {v : V} {u : Value} (r : RelV v u) : PySem.W.handedIn u = true := by
  cases v with
  | non => cases (show u = Value.none from r); rfl
  | bl b => cases (show u = Value.bool b from r); rfl
  | int i => obtain ⟨t, e⟩ := (show ∃ t, u = Value.int i t from r); cases e; rfl
  | str x => obtain ⟨t, e⟩ := (show ∃ t, u = Value.str x t from r); cases e; rfl
  | byt b => obtain ⟨t, e⟩ := (show ∃ t, u = Value.bytes b t from r); cases e; rfl
  | flt b => obtain ⟨t, e⟩ := (show ∃ t, u = Value.float b t from r); cases e; rfl
  | ref a => cases (show u = Value.ref a from r); rfl
  | ty n => cases (show u = Value.type n from r); rfl

section
variable {P : Program} {w : World} {H H' : Hp} {h h' : Heap} {a C dx : Addr} {fs fs' : List (Str × V)}
theorem ins_get (hok : HOk P w H h) (e : H a = some (.ins C dx fs)) : ∃ mA, ObjM h a dx C mA ∧ (∀ f, RelO (fs.lookup f) (mA f)) ∧ PySem.Within mA (fs.map (·.1)) ∧ fs.length ≤ 1000 ∧ H dx = some (.own a) := by
  obtain ⟨d, z, ne, ob, mA, n, r, q⟩ := (show ObjOk P w H h a (.ins C dx fs) from hok a _ e)
  exact ⟨mA, ⟨ob, n, ne⟩, r, q, z, d⟩
end

/-! ### what of the text a class must have -/
structure Cls (K : PySem.W.Frag) (C : Addr) : Prop where
  pg : PySem.W.plainGet K C Str.empty = true
  hd : PySem.W.hasDictIn K C = true
  po : PySem.W.plainOver K C = true
  sa : PySem.W.findIn K (.ref C) "__setattr__" = some (some (.builtin "object.__setattr__"))
theorem Cls.get {K : PySem.W.Frag} {C : Addr} (c : Cls K C) (f : Str) : PySem.W.plainGet K C f = true := c.pg
/-- no class of it has the name -/
def NoAttr (K : PySem.W.Frag) (C : Addr) (f : Str) : Prop := PySem.W.findIn K (.ref C) f = some none
theorem NoAttr.taker {K : PySem.W.Frag} {C : Addr} {f : Str} (n : NoAttr K C f) : PySem.W.takerIn K C f = some none := by
  unfold PySem.W.takerIn
  rw [show PySem.W.findIn K (.ref C) f = some none from n]
  rfl
/-- a constant of the class -/
structure Con (K : PySem.W.Frag) (C : Addr) (f : Str) (v : V) (u : Value) : Prop where
  at_ : PySem.W.findIn K (.ref C) f = some (some u)
  rel : RelV v u
  get : PySem.W.specialIn K u "__get__" = some none
  cp : PySem.W.copiedNames.contains f = false
/-- a method: a plain def of the class or of one above it -/
structure Meth (K : PySem.W.Frag) (C : Addr) (m : Str) (f : Addr) : Prop where
  at_ : PySem.W.findIn K (.ref C) m = some (some (.ref f))
  fn : PySem.W.isFn K (.ref f) = true
  kp : PySem.W.keepIn K (.ref f) = true

section
variable {X : Cx} {pins : List (Addr × Obj)} {σ : St} {H : Hp} {s : Shared} {a C dx : Addr} {fs : List (Str × V)} {f : Str} {v : V} {A : Around} {E : Value → Shared → Prop}

theorem getattr_ok {b : Bool} {Q : Value → Shared → Prop} (I : Inv X pins σ H s) (e : H a = some (.ins C dx fs)) (c : Cls X.K C) (n : NoAttr X.K C f) (l : fs.lookup f = some v)
    (h : ∀ u s', Inv X pins σ H s' → RelV v u → Q u s') : wpAny (model X.prog X.w) A (getAttr (.ref a) f b) Q E s := by
  obtain ⟨mA, O, r, _, _, _⟩ := ins_get I.hok e
  obtain ⟨u, hu, ru⟩ := RelO.some_of (v := v) (o := mA f) (by rw [← l]; exact r f)
  exact get_map I.kIn O (c.get f) c.hd n hu (handed_of ru) (h u _ (I.tok _) ru)

theorem getmeth_ok {m : Str} {g : Addr} {pl : Sem Bool} {Q : Value × List Value → Shared → Prop} (I : Inv X pins σ H s) (e : H a = some (.ins C dx fs)) (c : Cls X.K C) (k : Meth X.K C m g) (l : fs.lookup m = none)
    (h : Q (.ref g, [.ref a]) s) : wpAny (model X.prog X.w) A (getMethod (.ref a) m pl) Q E s := by
  obtain ⟨mA, O, r, _, _, _⟩ := ins_get I.hok e
  have hn : mA m = none := RelO.none_of (by rw [← l]; exact r m)
  exact get_meth I.kIn O (c.get m) k.at_ k.fn hn h

theorem setattr_ok {y : V} {u : Value} {Q : Unit → Shared → Prop} (I : Inv X pins σ H s) (e : H a = some (.ins C dx fs)) (c : Cls X.K C) (n : NoAttr X.K C f) (hl : fs.length < 1000) (ry : RelV y u)
    (h : ∀ s', Inv X pins σ (upd H a (.ins C dx (putF f y fs))) s' → Q () s') : wpAny (model X.prog X.w) A (setAttr (.ref a) f u) Q E s := by
  obtain ⟨mA, O, r, wi, _, ho⟩ := ins_get I.hok e
  have hz : (fs.map (·.1)).length ≤ sizeLine := by rw [List.length_map, sizeLine_eq]; omega
  refine set_map I.kIn O c.sa c.po n.taker c.hd wi hz fun h' O' sb => h _ ?_
  have hd : ∃ o, h'.get? dx = some o := let ⟨o, _, _, e', _⟩ := O'.ns; ⟨o, e'⟩
  refine I.write (x := a) (e := dx) (by rw [e]; exact True.intro) (.inr ho) (fun b q hb z => (sb.2 b hb).trans z) hd ?_
  refine ⟨by rw [upd_ne O.ne]; exact ho, ?_, O.ne, O'.obj, _, O'.ns, fun g => ?_, fun g hg => ?_⟩
  · have := length_putF f y fs; omega
  · show RelO ((putF f y fs).lookup g) (if g = f then some u else mA g)
    rw [lookup_putF]
    by_cases q : g = f
    · rw [if_pos q, if_pos q]; exact ry
    · rw [if_neg q, if_neg q]; exact r g
  · by_cases q : g = f
    · rw [q]; exact (keys_putF f y fs).1
    · refine (keys_putF f y fs).2 g (wi g fun z => hg ?_)
      show (if g = f then some u else mA g) = none
      rw [if_neg q]; exact z

/-- a new instance, tracked, without attributes -/
theorem Inv.made (I : Inv X pins σ H s) : Inv X pins σ (upd (upd H s.heap.objs.size (.own (s.heap.objs.size + 1))) (s.heap.objs.size + 1) (.ins C s.heap.objs.size []))
    { s with heap := (s.heap.push PySem.W.emptyDict).push (PySem.W.instObj C s.heap.objs.size) } := by
  have e1 : (s.heap.push PySem.W.emptyDict).get? s.heap.objs.size = some PySem.W.emptyDict := Heap.get?_push_size s.heap rfl
  have e2 : ((s.heap.push PySem.W.emptyDict).push (PySem.W.instObj C s.heap.objs.size)).get? (s.heap.objs.size + 1) = some (PySem.W.instObj C s.heap.objs.size) := by
    have := Heap.get?_push_size (s.heap.push PySem.W.emptyDict) (o := PySem.W.instObj C s.heap.objs.size) rfl
    rwa [Heap.size_push] at this
  have e3 : (s.heap.push PySem.W.emptyDict).Ns s.heap.objs.size (fun _ => none) := ⟨PySem.W.emptyDict, #[], _, e1, rfl, (fun e he => absurd he (by simp)), fun _ => rfl⟩
  have I1 := I.laid (a := s.heap.objs.size) (o := .own (s.heap.objs.size + 1)) (h' := s.heap.push PySem.W.emptyDict) (t' := s.toks) (fun b u q => Heap.get?_push_of_some _ q) (Nat.le_refl _) ⟨_, e1⟩
  refine I1.laid (a := s.heap.objs.size + 1) (o := .ins C s.heap.objs.size []) (t' := s.toks) (fun b u q => Heap.get?_push_of_some _ q) (Nat.le_of_eq (Heap.size_push _ _)) ?_
  have ne : s.heap.objs.size ≠ s.heap.objs.size + 1 := Nat.ne_of_lt (Nat.lt_succ_self _)
  refine ⟨by rw [upd_ne ne, upd_same], Nat.zero_le _, ne, e2, fun _ => none, (Heap.Ns1.of_empty e3).at fun o q => Heap.get?_push_of_some _ q, fun _ => True.intro, fun y hy => absurd rfl hy⟩

/-- e.f where nothing but the object is asked: through attributeBase (super) and the last hold -/
theorem attr_of {prog : Program} {w : World} {env : Env} {e : Expr} {f : Str} {pos : Pos} {s : Shared} {Q : Value → Shared → Prop} (hb : attributeBase e f env (eval e env) = eval e env)
    (h : wpAny (model prog w) A (eval e env) (fun o s₁ => wpAny (model prog w) A (getAttr o f true) Q E s₁) E s) : wpAny (model prog w) A (eval (.Attribute e f pos) env) Q E s :=
  Attribute_any_ h (by rw [arm_eval_Attribute, hb])
end

/-! ### readings and rules -/
/-- e.f, an attribute of the instance -/
def tFld (K : PySem.W.Frag) (ta : TE) (f : Str) : TE := fun σ H Q => ta σ H fun x H1 => ∃ a C dx fs v, x = .ref a ∧ H1 a = some (.ins C dx fs) ∧ Cls K C ∧ NoAttr K C f ∧ fs.lookup f = some v ∧ Q v H1
/-- e.f, a constant of the class -/
def tCon (K : PySem.W.Frag) (ta : TE) (f : Str) : TE := fun σ H Q => ta σ H fun x H1 => ∃ a C dx fs v u, x = .ref a ∧ H1 a = some (.ins C dx fs) ∧ Cls K C ∧ Con K C f v u ∧ fs.lookup f = none ∧ Q v H1
/-- e.f = value -/
def sFld (K : PySem.W.Frag) (ta tv : TE) (f : Str) : TS := fun D σ H => tv σ H fun y H1 => ta σ H1 fun x H2 => ∃ a C dx fs, x = .ref a ∧ H2 a = some (.ins C dx fs) ∧ Cls K C ∧ NoAttr K C f ∧ fs.length < 1000 ∧
  D.nx σ (upd H2 a (.ins C dx (putF f y fs)))
/-- an augmented operator on two values -/
def InOp (X : Cx) (op : Operator) (rd : V → V → Hp → VK → Prop) : Prop :=
  ∀ (pins : List (Addr × Obj)) (s : Shared) (σ : St) (H : Hp) (x y : V) (u v : Value) (Q : VK), Inv X pins σ H s → RelV x u → RelV y v → rd x y H Q → wpAny (model X.prog X.w) X.A (inplaceOp op u v) (EP X pins σ Q) X.xe s
/-- e.f op= value -/
def sFldAug (K : PySem.W.Frag) (ta tv : TE) (rd : V → V → Hp → VK → Prop) (f : Str) : TS := fun D σ H => ta σ H fun x H1 => ∃ a C dx fs v, x = .ref a ∧ H1 a = some (.ins C dx fs) ∧ Cls K C ∧ NoAttr K C f ∧ fs.lookup f = some v ∧
  tv σ H1 fun y H2 => rd v y H2 fun z H3 => ∃ dx' fs', H3 a = some (.ins C dx' fs') ∧ fs'.length < 1000 ∧ D.nx σ (upd H3 a (.ins C dx' (putF f z fs')))

section
variable {X : Cx} {o e value : Expr} {f : Str} {pos pos' tpos : Pos} {ta tv : TE}
theorem pe_fld (he : PE X e ta) (hb : attributeBase e f X.env (eval e X.env) = eval e X.env) : PE X (.Attribute e f pos) (tFld X.K ta f) := by
  intro pins s σ H Q I h
  refine attr_of hb (thn (he pins s σ H _ I h) fun u s1 ⟨x, H1, I1, rx, a, C, dx, fs, v, ex, ea, c, n, l, q⟩ => ?_)
  subst ex
  obtain rfl : u = Value.ref a := rx
  exact getattr_ok I1 ea c n l fun u' s2 I2 ru => ⟨v, H1, I2, ru, q⟩
theorem ps_fld (ha : PE X o ta) (hv : PE X value tv) (hs : swapsWith value (some (.Attribute o f pos')) pos.line X.env = pure false) : PS X (.Assign [.Attribute o f pos'] value pos) (sFld X.K ta tv f) := by
  intro pins s σ H D I h
  refine plainObj_wpAny_Assign_Attribute (thn (hv pins s σ H _ I h) fun u s1 ⟨y, H1, I1, ry, q⟩ => thn (ha pins s1 σ H1 _ I1 q) fun ov s2 ⟨x, H2, I2, rx, a, C, dx, fs, ex, ea, c, n, l, q2⟩ => ?_) hs
  subst ex
  obtain rfl : ov = Value.ref a := rx
  exact setattr_ok I2 ea c n l ry fun s3 I3 => ⟨σ, _, I3, q2⟩
def rAdd : V → V → Hp → VK → Prop := fun x y H Q => ∃ i j, x = .int i ∧ y = .int j ∧ Q (.int (i + j)) H
def rSub : V → V → Hp → VK → Prop := fun x y H Q => ∃ i j, x = .int i ∧ y = .int j ∧ Q (.int (i - j)) H
end

/-! ### isinstance -/
section
variable {X : Cx} {pins : List (Addr × Obj)} {σ : St} {H : Hp} {s : Shared} {A : Around} {E : Value → Shared → Prop} {Q : Value → Shared → Prop} {c : Value} {b : Bool}
/-- the type of a value, as the fragment's deciders take it; for an instance its class -/
inductive TyOf (K : PySem.W.Frag) (H : Hp) : V → Value → Prop where
  | non : TyOf K H .non (.type "NoneType")
  | bl (x : Bool) : TyOf K H (.bl x) (.type "bool")
  | int (i : Int) : TyOf K H (.int i) (.type "int")
  | str (x : Str) : TyOf K H (.str x) (.type "str")
  | flt (x : UInt64) : TyOf K H (.flt x) (.type "float")
  | lst {a : Addr} {xs : List V} (e : H a = some (.lst xs)) : TyOf K H (.ref a) (.type "list")
  | frz {a : Addr} {o : Obj} {xs : List V} (e : H a = some (.frz o (.lst xs))) : TyOf K H (.ref a) (.type "list")
  | tup {a : Addr} {xs : List V} (e : H a = some (.tup xs)) : TyOf K H (.ref a) (.type "tuple")
  | dK {a : Addr} {kvs : List (Key × V)} (e : H a = some (.dK kvs)) : TyOf K H (.ref a) (.type "dict")
  | dT {a : Addr} {kvs : List (List Key × V)} (e : H a = some (.dT kvs)) : TyOf K H (.ref a) (.type "dict")
  | ins {a C dx : Addr} {fs : List (Str × V)} (e : H a = some (.ins C dx fs)) (cl : Cls K C) (ha : PySem.W.findIn K (.ref C) "__class__" = some (some (.builtin "object.__class__")))
      (hn : PySem.W.specialIn K (.builtin "object.__class__") "__get__" = some (some (.builtin "getset_descriptor.__get__"))) (htk : PySem.W.takesIn K (.builtin "object.__class__") = some true)
      (hm : PySem.W.mroIn K C (.type "object") = some true) : TyOf K H (.ref a) (.ref C)
/-- isinstance(x, c) for one class c, a built-in or an own one: kitOne's answer -/
theorem isinst_ok {x : V} {u t : Value} (I : Inv X pins σ H s) (rx : RelV x u) (ty : TyOf X.K H x t) (e : PySem.W.kitOne X.K t c = some b) (h : ∀ tk, Q (.bool b) { s with toks := tk }) :
    wpAny (model X.prog X.w) A (call (.builtin "isinstance") [u, c]) Q E s := by
  cases ty with
  | non => cases (show u = Value.none from rx); exact PySem.W.kia_one PySem.W.kitx_none I.kIn True.intro e (fun z => nomatch z) h
  | bl y => cases (show u = Value.bool y from rx); exact PySem.W.kia_one PySem.W.kitx_bool I.kIn True.intro e (fun z => nomatch z) h
  | int i => obtain ⟨t, q⟩ := (show ∃ t, u = Value.int i t from rx); cases q; exact PySem.W.kia_one PySem.W.kitx_int I.kIn True.intro e (fun z => nomatch z) h
  | str y => obtain ⟨t, q⟩ := (show ∃ t, u = Value.str y t from rx); cases q; exact PySem.W.kia_one PySem.W.kitx_str I.kIn True.intro e (fun z => nomatch z) h
  | flt y => obtain ⟨t, q⟩ := (show ∃ t, u = Value.float y t from rx); cases q; exact PySem.W.kia_one PySem.W.kitx_float I.kIn True.intro e (fun z => nomatch z) h
  | @lst a xs ea =>
    cases (show u = Value.ref a from rx)
    obtain ⟨_, _, n, _, h1⟩ := (show ObjOk X.prog X.w H s.heap a (.lst xs) from I.hok a _ ea)
    exact PySem.W.kia_one PySem.W.kitx_list I.kIn ⟨_, h1, rfl⟩ e (fun z => nomatch z) h
  | @frz a ob xs ea =>
    cases (show u = Value.ref a from rx)
    obtain ⟨_, _, _, n, _, h1⟩ := (show ObjOk X.prog X.w H s.heap a (.frz ob (.lst xs)) from I.hok a _ ea)
    exact PySem.W.kia_one PySem.W.kitx_list I.kIn ⟨_, h1, rfl⟩ e (fun z => nomatch z) h
  | @tup a xs ea =>
    cases (show u = Value.ref a from rx)
    obtain ⟨_, _, _, p⟩ := (show ObjOk X.prog X.w H s.heap a (.tup xs) from I.hok a _ ea)
    obtain ⟨o, h1, h2, _⟩ := p
    exact PySem.W.kia_one PySem.W.kitx_tuple I.kIn ⟨o, h1, h2⟩ e (fun z => nomatch z) h
  | @dK a kvs ea =>
    cases (show u = Value.ref a from rx)
    obtain ⟨_, _, vs, _, p⟩ := (show ObjOk X.prog X.w H s.heap a (.dK kvs) from I.hok a _ ea)
    obtain ⟨o, es, ep, h1, h2, _⟩ := p
    exact PySem.W.kia_one PySem.W.kitx_dict I.kIn ⟨o, h1, h2.1⟩ e (fun z => nomatch z) h
  | @dT a kvs ea =>
    cases (show u = Value.ref a from rx)
    obtain ⟨_, _, xs, _, o, es, ep, h1, h2, _⟩ := (show ObjOk X.prog X.w H s.heap a (.dT kvs) from I.hok a _ ea)
    exact PySem.W.kia_one PySem.W.kitx_dict I.kIn ⟨o, h1, h2.1⟩ e (fun z => nomatch z) h
  | @ins a C dx fs ea cl ha hn htk hm =>
    cases (show u = Value.ref a from rx)
    obtain ⟨mA, O, _⟩ := ins_get I.hok ea
    obtain ⟨od, J, _⟩ := O.look
    exact PySem.W.kia_one (PySem.W.kitx_own (cl.get _) cl.hd ha hn htk hm) I.kIn J e (fun z => nomatch z) h
end
end L2

namespace L2
open PySem PySem.Spec PyProof.Rows

/-! ### room -/
structure Room (k : Nat) (A : Around) : Prop where
  hd : 30 ≤ k → A.handled = none
  dp : A.depth + 3 * k + 5 < recursionLimit
  un : A.units + 16 * k + 200 < cLine
theorem Room.mono {j k : Nat} {A : Around} (r : Room k A) (h : j ≤ k) : Room j A := ⟨fun z => r.hd (by omega), by have := r.dp; omega, by have := r.un; omega⟩
theorem Room.deeper {k : Nat} {A : Around} (r : Room (k + 1) A) (env : Env) : Room k (A.deeper env) :=
  ⟨fun z => r.hd (by omega), by have := r.dp; show A.depth + 1 + 3 * k + 5 < _; omega, by have := r.un; show A.units + 3 + 16 * k + 200 < _; omega⟩
theorem Room.in1 {k : Nat} {A : Around} (r : Room (k + 1) A) : Room k A.in1 :=
  ⟨fun z => r.hd (by omega), by have := r.dp; show A.depth + 3 * k + 5 < _; omega, by have := r.un; show A.units + 1 + 16 * k + 200 < _; omega⟩
theorem make_depth {A : Around} {C : Addr} {us : List Value} {kw : List (Str × Value)} : (A.under (.builtin "type.__call__" ⟨.ref C :: us, kw⟩)).depth = A.depth + 1 := by
  first | rfl | simp [Around.under, Code.weight, Code.isCreation, Code.isGuard, Code.isCaller, Code.frames, Code.isFrame, guardIds]
theorem make_units {A : Around} {C : Addr} {us : List Value} {kw : List (Str × Value)} : (A.under (.builtin "type.__call__" ⟨.ref C :: us, kw⟩)).units = A.units + 1 := by
  first | rfl | simp [Around.under, Code.cUnits, Code.frames, Code.isFrame]
theorem Room.make {k : Nat} {A : Around} (r : Room (k + 1) A) (C : Addr) (us : List Value) (kw : List (Str × Value)) : Room k (A.under (.builtin "type.__call__" ⟨.ref C :: us, kw⟩)) :=
  ⟨fun z => r.hd (by omega), by have := r.dp; rw [make_depth]; omega, by have := r.un; rw [make_units]; omega⟩
theorem Room.depth {k : Nat} {A : Around} (r : Room k A) : A.depth < recursionLimit := by have := r.dp; omega
theorem Room.units {k : Nat} {A : Around} (r : Room k A) : A.units + 64 < cLine := by have := r.un; omega
theorem Room.units0 {k : Nat} {A : Around} (r : Room k A) : A.units < cLine := by have := r.un; omega

/-! ### argument lists and displays -/
def tNil : TA := fun _ H Q => Q [] H
def tCons (ta : TE) (tr : TA) : TA := fun σ H Q => ta σ H fun x H1 => tr σ H1 fun xs H2 => Q (x :: xs) H2
section
variable {X : Cx} {e : Expr} {es : List Expr} {te : TE} {t : TA} {pos : Pos}
theorem pa_nil : PA X [] tNil := fun _ _ _ _ H Q I h => Calls.spliced_nil ⟨[], H, I, .nil, h⟩
theorem pa_cons (ha : PE X e te) (hr : PA X es t) (hs : starEach (e :: es) X.env = (false, eval e X.env) :: starEach es X.env := by rfl) : PA X (e :: es) (tCons te t) := by
  intro pos pins s σ H Q I h
  rw [hs]
  show wpAny _ _ (spliced ((false, eval e X.env) :: backTo pos (starEach es X.env))) _ _ s
  refine Calls.spliced_cons (thn (ha pins s σ H _ I h) fun u s1 ⟨x, H1, I1, r1, q1⟩ => ?_)
  exact thn (hr pos pins s1 σ H1 _ I1 q1) fun us s2 ⟨xs, H2, I2, r2, q2⟩ => ⟨x :: xs, H2, I2, .cons r1 r2, q2⟩

/-- a tuple, a list of written items -/
def tTup (t : TA) : TE := fun σ H Q => t σ H fun xs H1 => xs.length ≤ sizeLine ∧ ∀ p, H1 p = none → Q (.ref p) (upd H1 p (.tup xs))
def tLst (t : TA) : TE := fun σ H Q => t σ H fun xs H1 => xs.length ≤ sizeLine ∧ ∀ p, H1 p = none → Q (.ref p) (upd H1 p (.lst xs))
theorem pe_tup {x1} (h : PA X es t) : PE X (.Tuple es x1 pos) (tTup t) := by
  intro pins s σ H Q I hq
  refine wpAny_Tuple_spliced (thn (h pos pins s σ H _ I hq) fun us s1 ⟨xs, H1, I1, r, z, q⟩ => ⟨by rw [← r.length]; exact z, ?_⟩)
  have hf : H1 s1.heap.objs.size = none := I1.hok.fresh (Nat.le_refl _)
  refine ⟨.ref s1.heap.objs.size, upd H1 s1.heap.objs.size (.tup xs), I1.laid (t' := s1.toks) (fun b u e => Heap.get?_push_of_some _ e) (Nat.le_refl _) ?_, rfl, q _ hf⟩
  exact ⟨z, us, r, ⟨_, Heap.get?_push_size _ rfl, rfl, _, rfl⟩⟩
theorem pe_lst (h : PA X es t) : PE X (.List es pos) (tLst t) := by
  intro pins s σ H Q I hq
  refine wpAny_List_spliced (thn (h pos pins s σ H _ I hq) fun us s1 ⟨xs, H1, I1, r, z, q⟩ => ⟨by rw [← r.length]; exact z, ?_⟩)
  have hf : H1 s1.heap.objs.size = none := I1.hok.fresh (Nat.le_refl _)
  refine ⟨.ref s1.heap.objs.size, upd H1 s1.heap.objs.size (.lst xs), I1.laid (t' := s1.toks) (fun b u e => Heap.get?_push_of_some _ e) (Nat.le_refl _) ?_, rfl, q _ hf⟩
  exact ⟨z, us, 0, r, Heap.get?_push_size _ rfl⟩
end

/-! ### what a def promises -/
/-- a def's promise: the bound arguments in the parameters' order, the heap, the wanted end, the wanted exception -/
abbrev Sp := List V → Hp → VK → XK → Prop
/-- how an exception lies behind a call (file 08 gives it): the callers' frames, abstract heap and state ahead of the call, the wish, the exception, the state -/
abbrev CXT := List Env → Hp → Shared → XK → Value → Shared → Prop

/-- the state at a call -/
structure Env0 (P : Program) (w : World) (K : PySem.W.Frag) (mg : Str → Option Value) (base : Heap) (A : Around) (outer : List Env) (s : Shared) (H : Hp) : Prop where
  frames : A.frames = some outer
  mod : Mod K mg base
  bs : ∀ b o, base.get? b = some o → s.heap.get? b = some o ∧ H b = none
  bsz : base.objs.size ≤ s.heap.objs.size
  funs : s.heap.FunFrames base outer
  frf : ∀ b ∈ frs outer, H b = none
  hok : HOk P w H s.heap
  bare : AllBare s.gens
  qt : Qt A H
/-- a call's end -/
def CE (outer : List Env) (P : Program) (w : World) (H : Hp) (s : Shared) (Q : VK) (u : Value) (s' : Shared) : Prop :=
  ∃ v H', s'.os = s.os ∧ AllBare s'.gens ∧ Un (frs outer) [] H H' s.heap s'.heap ∧ HOk P w H' s'.heap ∧ RelV v u ∧ Q v H'
def CR (CX : CXT) (outer : List Env) (P : Program) (w : World) (H : Hp) (s : Shared) (Q : VK) (E : XK) (r : Result) (s' : Shared) : Prop :=
  match r with
  | .ok (.ret u) => CE outer P w H s Q u s'
  | .ok _ => False
  | .error e => CX outer H s E e s'
structure FnOk (P : Program) (w : World) (K : PySem.W.Frag) (mg : Str → Option Value) (base : Heap) (CX : CXT) (k : Nat) (f : Addr) (fd : FuncData) (ps : List Str) (sp : Sp) : Prop where
  len : ∀ vs H Q E, sp vs H Q E → vs.length = ps.length
  run : ∀ (A : Around) (outer : List Env) (s : Shared) (H : Hp) (args : Args) (us : List Value) (vs : List V) (Q : VK) (E : XK), Room k A → Env0 P w K mg base A outer s H → BindsTo s fd args (ps.zip us) → Vals vs us → sp vs H Q E →
    codeAny (model P w) A (.call (.ref f) args) (CR CX outer P w H s Q E) s
theorem FnOk.mono {P : Program} {w : World} {K : PySem.W.Frag} {mg : Str → Option Value} {base : Heap} {CX : CXT} {j k : Nat} {f : Addr} {fd : FuncData} {ps : List Str} {sp : Sp} (F : FnOk P w K mg base CX j f fd ps sp) (h : j ≤ k) :
    FnOk P w K mg base CX k f fd ps sp := ⟨F.len, fun A outer s H args us vs Q E hr => F.run A outer s H args us vs Q E (hr.mono h)⟩
theorem Env0.make {P : Program} {w : World} {K : PySem.W.Frag} {mg : Str → Option Value} {base : Heap} {A : Around} {outer : List Env} {s : Shared} {H : Hp} (e : Env0 P w K mg base A outer s H) (C : Addr) (us : List Value) (kw : List (Str × Value)) :
    Env0 P w K mg base (A.under (.builtin "type.__call__" ⟨.ref C :: us, kw⟩)) outer s H := ⟨by first | exact e.frames | (simpa [Around.under, Code.envs, Code.isFrame, pushEnvs] using e.frames), e.mod, e.bs, e.bsz, e.funs, e.frf, e.hok, e.bare, e.qt⟩
theorem Env0.in1 {P : Program} {w : World} {K : PySem.W.Frag} {mg : Str → Option Value} {base : Heap} {A : Around} {outer : List Env} {s : Shared} {H : Hp} (e : Env0 P w K mg base A outer s H) :
    Env0 P w K mg base A.in1 outer s H := ⟨e.frames, e.mod, e.bs, e.bsz, e.funs, e.frf, e.hok, e.bare, e.qt⟩

section
variable {X : Cx} {pins : List (Addr × Obj)} {σ : St} {H : Hp} {s s' : Shared}
/-- from a body: what a callee wants -/
theorem Inv.env0 (I : Inv X pins σ H s) : Env0 X.prog X.w X.K X.mg X.base X.A X.stack s H :=
  ⟨I.ok.frames, I.ok.mod, I.bs, Nat.le_trans I.ok.bsz I.sz, I.stack, I.stkFree, I.hok, I.bare, I.qt⟩
/-- behind a call -/
theorem Inv.after {Q : VK} {u : Value} (I : Inv X pins σ H s) (h : CE X.stack X.prog X.w H s Q u s') : EP X pins σ Q u s' := by
  obtain ⟨v, H', os, bare, un, hok, r, q⟩ := h
  obtain ⟨hh, g, d, t, os'⟩ := s'
  obtain rfl : os' = s.os := os
  exact ⟨v, H', I.call (h' := hh) (g' := g) (d' := d) (t' := t) (ch := []) un hok bare (fun b z => absurd z (by simp)), r, q⟩
end

/-! ### calls -/
/-- f(..): the written arguments, then the defaults dvs; E: what is wanted of an exception -/
def tCall (sp : Sp) (dvs : List V) (E : XK) (t : TA) : TE := fun σ H Q => t σ H fun vs H1 => sp (vs ++ dvs) H1 Q E
/-- o.m(..) of an instance of the class at C -/
def tMeth (C : Addr) (m : Str) (sp : Sp) (dvs : List V) (E : XK) (ta : TE) (t : TA) : TE := fun σ H Q => ta σ H fun x H1 => ∃ a dx fs, x = .ref a ∧ H1 a = some (.ins C dx fs) ∧ fs.lookup m = none ∧
  t σ H1 fun vs H2 => sp (x :: (vs ++ dvs)) H2 Q E
/-- C(..): a new instance and its dict, then __init__ -/
def tMake (C : Addr) (sp : Sp) (dvs : List V) (E : XK) (t : TA) : TE := fun σ H Q => t σ H fun vs H1 => ∀ x dx, H1 x = none → H1 dx = none → dx ≠ x →
  sp (.ref x :: (vs ++ dvs)) (upd (upd H1 dx (.own x)) x (.ins C dx [])) (fun v H2 => v = .non ∧ Q (.ref x) H2) E

/-- how the parameters are bound: us the positional arguments, kw the keywords' values by name, ds the defaults that fill up -/
def Binds (K : PySem.W.Frag) (fd : FuncData) (ps : List Str) (ds : List Value) : Prop :=
  ∀ (s : Shared) (us : List Value), K.In s.heap → (us ++ ds).length = ps.length → BindsTo s fd ⟨us, []⟩ (ps.zip (us ++ ds))
/-- every parameter is given -/
theorem Binds.all {K : PySem.W.Frag} {fd : FuncData} {ps : List Str} (h : ∀ us : List Value, us.length = ps.length → bindArgs fd ⟨us, []⟩ = pure (ps.zip us)) : Binds K fd ps [] := fun s us _ hl => by
  rw [List.append_nil] at hl ⊢
  exact .of_eq (h us hl)

/-- an exception of a callee reaches what this body wants of exceptions -/
def Passes (CX : CXT) (X : Cx) (E : XK) : Prop := ∀ (pins : List (Addr × Obj)) (σ : St) (H : Hp) (s : Shared) (e : Value) (s' : Shared), Inv X pins σ H s → CX X.stack H s E e s' → X.xe e s'

section
variable {X : Cx} {CX : CXT} {k : Nat} {f C : Addr} {fd : FuncData} {ps : List Str} {sp : Sp} {dvs : List V} {ds : List Value} {E : XK} {x m : Str} {p pos apos : Pos} {e o : Expr} {es : List Expr} {ta : TE} {t : TA}

/-- the callee runs -/
theorem run_fn {pins : List (Addr × Obj)} {σ : St} {H : Hp} {s : Shared} {Q : VK} {us : List Value} {vs : List V} (F : FnOk X.prog X.w X.K X.mg X.base CX k f fd ps sp) (hr : Room k X.A) (hb : Binds X.K fd ps ds) (hd : Vals dvs ds) (hx : Passes CX X E)
    (I : Inv X pins σ H s) (r : Vals vs us) (h : sp (vs ++ dvs) H Q E) : wpAny (model X.prog X.w) X.A (call (.ref f) us) (EP X pins σ Q) X.xe s := by
  have r2 : Vals (vs ++ dvs) (us ++ ds) := r.append hd
  have hl : (us ++ ds).length = ps.length := by rw [← r2.length]; exact F.len _ _ _ _ h
  refine wpAny_call (codeAny_mono (F.run X.A X.stack s H ⟨us, []⟩ (us ++ ds) (vs ++ dvs) Q E hr I.env0 (hb s us I.kIn hl) r2 h) fun r s' hq => ?_)
  cases r with
  | error e => exact hx pins σ H s e s' I hq
  | ok fl =>
    cases fl with
    | ret u => exact I.after hq
    | next => exact False.elim hq
    | brk => exact False.elim hq
    | cont => exact False.elim hq

theorem pe_call (F : FnOk X.prog X.w X.K X.mg X.base CX k f fd ps sp) (hr : Room k X.A) (hg : Gl X x) (hm : X.mg x = some (.ref f)) (hk : PySem.W.keepIn X.K (.ref f) = true) (hb : Binds X.K fd ps ds) (hd : Vals dvs ds) (hx : Passes CX X E)
    (ha : PA X (e :: es) t) (hdb : (x == ("__debug__" : Str)) = false := by decide) (he : starEach (e :: es) X.env = (false, eval e X.env) :: starEach es X.env := by rfl) (hpl : (backTo pos (starEach es X.env)).any (·.1) = false := by rfl) :
    PE X (.Call (.Name x p) (e :: es) [] pos) (tCall sp dvs E t) := by
  intro pins s σ H Q I h
  refine wpAny_Call_Name_kw (ld_glob I hg hm ?_ hdb)
  refine PySem.W.callWith_K (h₀ := X.base) I.ok.mod.kin hk (thn (ha pos pins s σ H _ I h) fun us s1 ⟨vs, H1, I1, r, q⟩ => ⟨I1.kIn, ?_⟩) he hpl
  exact run_fn F hr hb hd hx I1 r q
/-- o.m(e, ..) -/
theorem pe_meth {pl : Sem Bool} (he : PE X o ta) (c : Cls X.K C) (hm : Meth X.K C m f) (F : FnOk X.prog X.w X.K X.mg X.base CX k f fd ps sp) (hr : Room k X.A) (hb : Binds X.K fd ps ds) (hd : Vals dvs ds) (hx : Passes CX X E) (ha : PA X (e :: es) t)
    (hst : starEach (e :: es) X.env = (false, eval e X.env) :: starEach es X.env := by rfl) (hpl : (backTo pos (starEach es X.env)).any (·.1) = false := by rfl)
    (ht : eval (.Call (.Attribute o m apos) (e :: es) [] pos) X.env = (do
      let ov ← eval o X.env
      standAt apos.atName
      let (f, first) ← holding [ov] (getMethod ov m pl)
      callWith pos f first (backTo pos (starEach (e :: es) X.env)) (backToKw pos (keywordEach [] X.env))) := by rfl) :
    PE X (.Call (.Attribute o m apos) (e :: es) [] pos) (tMeth C m sp dvs E ta t) := by
  intro pins s σ H Q I h
  refine PySem.W.methodCall_KW (pl := pl) (thn (he pins s σ H _ I h) fun u s1 ⟨x, H1, I1, rx, a, dx, fs, ex, ea, l, q⟩ => ?_) ht
  subst ex
  obtain rfl : u = Value.ref a := rx
  refine getmeth_ok I1 ea c hm l ?_
  refine PySem.W.callWith_K (first := [.ref a]) (h₀ := X.base) I.ok.mod.kin hm.kp (thn (ha pos pins s1 σ H1 _ I1 q) fun us s2 ⟨vs, H2, I2, r, q2⟩ => ⟨I2.kIn, ?_⟩) hst hpl
  exact run_fn (us := .ref a :: us) (vs := .ref a :: vs) F hr hb hd hx I2 (.cons rfl r) q2
/-- o.m() -/
theorem pe_meth0 {pl : Sem Bool} (he : PE X o ta) (c : Cls X.K C) (hm : Meth X.K C m f) (F : FnOk X.prog X.w X.K X.mg X.base CX k f fd ps sp) (hr : Room k X.A) (hb : Binds X.K fd ps ds) (hd : Vals dvs ds) (hx : Passes CX X E)
    (ht : eval (.Call (.Attribute o m apos) [] [] pos) X.env = (do
      let ov ← eval o X.env
      standAt apos.atName
      let (f, first) ← holding [ov] (getMethod ov m pl)
      callWith pos f first (backTo pos (starEach [] X.env)) (backToKw pos (keywordEach [] X.env))) := by rfl) :
    PE X (.Call (.Attribute o m apos) [] [] pos) (tMeth C m sp dvs E ta tNil) := by
  intro pins s σ H Q I h
  refine PySem.W.methodCall_KW (pl := pl) (thn (he pins s σ H _ I h) fun u s1 ⟨x, H1, I1, rx, a, dx, fs, ex, ea, l, q⟩ => ?_) ht
  subst ex
  obtain rfl : u = Value.ref a := rx
  refine getmeth_ok I1 ea c hm l ?_
  exact PySem.W.callWith_K0 (first := [.ref a]) I1.kIn hm.kp (run_fn (us := [.ref a]) (vs := [.ref a]) F hr hb hd hx I1 (.cons rfl .nil) q)

/-- what a class must have to be made -/
structure Mk (K : PySem.W.Frag) (C f : Addr) : Prop where
  makes : PySem.W.makesIn K C = true
  init : PySem.W.findIn K (.ref C) "__init__" = some (some (.ref f))
  fn : PySem.W.isFn K (.ref f) = true
  kp : PySem.W.keepIn K (.ref C) = true

theorem run_make {pins : List (Addr × Obj)} {σ : St} {H : Hp} {s : Shared} {Q : VK} {us : List Value} {vs : List V} (M : Mk X.K C f) (F : FnOk X.prog X.w X.K X.mg X.base CX k f fd ps sp) (hr : Room (k + 1) X.A) (hb : Binds X.K fd ps ds) (hd : Vals dvs ds)
    (hx : Passes CX X E) (I : Inv X pins σ H s) (r : Vals vs us)
    (h : ∀ x dx, H x = none → H dx = none → dx ≠ x → sp (.ref x :: (vs ++ dvs)) (upd (upd H dx (.own x)) x (.ins C dx [])) (fun v H2 => v = .non ∧ Q (.ref x) H2) E) :
    wpAny (model X.prog X.w) X.A (call (.ref C) us) (EP X pins σ Q) X.xe s := by
  have hq := h (s.heap.objs.size + 1) s.heap.objs.size (I.hok.fresh (Nat.le_succ _)) (I.hok.fresh (Nat.le_refl _)) (Nat.ne_of_lt (Nat.lt_succ_self _))
  have I2 := Inv.made (C := C) I
  have r2 : Vals (V.ref (s.heap.objs.size + 1) :: (vs ++ dvs)) (Value.ref (s.heap.objs.size + 1) :: (us ++ ds)) := .cons rfl (r.append hd)
  have hl : (Value.ref (s.heap.objs.size + 1) :: us ++ ds).length = ps.length := by
    have e := r2.length
    rw [F.len _ _ _ _ hq] at e
    exact e.symm
  refine wpAny_call (make_map (f := f) I.kIn M.makes M.init (beq_iff_eq.mp M.fn) (codeAny_mono (F.run _ X.stack _ _ ⟨Value.ref (s.heap.objs.size + 1) :: us, []⟩ (Value.ref (s.heap.objs.size + 1) :: (us ++ ds)) _ _ E (hr.make C us [])
    (I2.env0.make C us []) (hb _ (Value.ref (s.heap.objs.size + 1) :: us) I2.kIn hl) r2 hq) fun r s' hq' => ?_))
  cases r with
  | error e => exact hx pins σ _ _ e s' I2 hq'
  | ok fl =>
    cases fl with
    | ret u =>
      obtain ⟨v, H', I3, rv, ev, q3⟩ := I2.after hq'
      subst ev
      exact ⟨rv, ⟨V.ref (s.heap.objs.size + 1), H', I3, rfl, q3⟩⟩
    | next => exact False.elim hq'
    | brk => exact False.elim hq'
    | cont => exact False.elim hq'
theorem pe_make (M : Mk X.K C f) (F : FnOk X.prog X.w X.K X.mg X.base CX k f fd ps sp) (hr : Room (k + 1) X.A) (hg : Gl X x) (hm : X.mg x = some (.ref C)) (hb : Binds X.K fd ps ds) (hd : Vals dvs ds) (hx : Passes CX X E)
    (ha : PA X (e :: es) t) (hdb : (x == ("__debug__" : Str)) = false := by decide) (he : starEach (e :: es) X.env = (false, eval e X.env) :: starEach es X.env := by rfl) (hpl : (backTo pos (starEach es X.env)).any (·.1) = false := by rfl) :
    PE X (.Call (.Name x p) (e :: es) [] pos) (tMake C sp dvs E t) := by
  intro pins s σ H Q I h
  refine wpAny_Call_Name_kw (ld_glob I hg hm ?_ hdb)
  refine PySem.W.callWith_K (h₀ := X.base) I.ok.mod.kin M.kp (thn (ha pos pins s σ H _ I h) fun us s1 ⟨vs, H1, I1, r, q⟩ => ⟨I1.kIn, ?_⟩) he hpl
  exact run_make M F hr hb hd hx I1 r q
theorem pe_make0 (M : Mk X.K C f) (F : FnOk X.prog X.w X.K X.mg X.base CX k f fd ps sp) (hr : Room (k + 1) X.A) (hg : Gl X x) (hm : X.mg x = some (.ref C)) (hb : Binds X.K fd ps ds) (hd : Vals dvs ds) (hx : Passes CX X E)
    (hdb : (x == ("__debug__" : Str)) = false := by decide) : PE X (.Call (.Name x p) [] [] pos) (tMake C sp dvs E tNil) := by
  intro pins s σ H Q I h
  refine wpAny_Call_Name_kw (ld_glob I hg hm ?_ hdb)
  exact PySem.W.callWith_K0 I.kIn M.kp (run_make (us := []) M F hr hb hd hx I .nil h)
end

/-! ### keywords -/
/-- the values of the keywords, from the left -/
def PK (X : Cx) (kws : List Keyword) (t : TA) : Prop :=
  ∀ (pos : Pos) (pins : List (Addr × Obj)) (s : Shared) (σ : St) (H : Hp) (Q : List V → Hp → Prop), Inv X pins σ H s → t σ H Q → wpAny (model X.prog X.w) X.A (evalAll ((backToKw pos (keywordEach kws X.env)).map (·.2))) (AP X pins σ Q) X.xe s
section
variable {X : Cx} {CX : CXT} {k : Nat} {f C : Addr} {fd : FuncData} {ps ks : List Str} {sp : Sp} {E : XK} {x m : Str} {p pos apos kpos : Pos} {e o : Expr} {es : List Expr} {kws : List Keyword} {te ta : TE} {t tk : TA} {nm : Option Str}
/-- how a call with keywords binds: g puts the positional values us and the keywords' values ws (names ks) in the parameters' order, defaults among them -/
structure KBinds (K : PySem.W.Frag) (fd : FuncData) (ps ks : List Str) (g : List Value → List Value → List Value) (gV : List V → List V → List V) : Prop where
  to : ∀ (s : Shared) (us ws : List Value), K.In s.heap → (g us ws).length = ps.length → BindsTo s fd ⟨us, ks.zip ws⟩ (ps.zip (g us ws))
  rel : ∀ {vs : List V} {us : List Value} {zs : List V} {ws : List Value}, Vals vs us → Vals zs ws → Vals (gV vs zs) (g us ws)
def tCallK (sp : Sp) (gV : List V → List V → List V) (E : XK) (t tk : TA) : TE := fun σ H Q => t σ H fun vs H1 => tk σ H1 fun zs H2 => sp (gV vs zs) H2 Q E
variable {g : List Value → List Value → List Value} {gV : List V → List V → List V}
end

/-! ### a def's body keeps its promise -/
/-- names: the parameters first -/
structure FnScope (N P : List Str) (sc : Scope) : Prop where
  kind : sc.kind = .function
  co : sc.isCoroutine = false
  gen : sc.isGenerator = false
  nd : N.Nodup
  pre : N.take P.length = P
  par : ∀ x ∈ P, sc.names.lookup x = some .local ∨ sc.names.lookup x = some .cell
  nofree : ∀ y ∈ sc.names, y.2 ≠ .free

theorem bindL_out {kindOf : Str → Option NameKind} {x : Str} : ∀ {binds : List (Str × Value)} {m : Str → Option Value}, (∀ v, (x, v) ∉ binds) → bindL kindOf binds m x = m x
  | [], _, _ => rfl
  | (n, v) :: r, m, h => by
    unfold bindL
    rw [bindL_out fun w hw => h w (List.mem_cons_of_mem _ hw)]
    split
    · have : x ≠ n := by rintro rfl; exact h v List.mem_cons_self
      simp [this]
    · rfl
theorem bindC_out {kindOf : Str → Option NameKind} {x : Str} : ∀ {binds : List (Str × Value)} {m : Str → Option Value}, (∀ v, (x, v) ∉ binds) → bindC kindOf binds m x = m x
  | [], _, _ => rfl
  | (n, v) :: r, m, h => by
    unfold bindC
    rw [bindC_out fun w hw => h w (List.mem_cons_of_mem _ hw)]
    split
    · rfl
    · have : x ≠ n := by rintro rfl; exact h v List.mem_cons_self
      simp [this]
theorem bindL_get {kindOf : Str → Option NameKind} {x : Str} {v : Value} : ∀ {P : List Str} {vs : List Value} {i : Nat} {m : Str → Option Value}, P.Nodup → P[i]? = some x → vs[i]? = some v → kindOf x = some .local →
    bindL kindOf (P.zip vs) m x = some v
  | [], _, _, _, _, h, _, _ => by simp at h
  | _ :: _, [], _, _, _, _, h, _ => by simp at h
  | p :: P, w :: vs, 0, m, nd, h1, h2, hk => by
    simp at h1 h2; subst h1; subst h2
    show bindL kindOf ((p, w) :: P.zip vs) m p = _
    unfold bindL
    rw [bindL_out fun v hv => (List.nodup_cons.mp nd).1 (List.of_mem_zip hv).1, if_pos hk]
    simp
  | p :: P, w :: vs, i + 1, m, nd, h1, h2, hk => by
    show bindL kindOf ((p, w) :: P.zip vs) m x = _
    unfold bindL
    exact bindL_get (i := i) (List.nodup_cons.mp nd).2 (by simpa using h1) (by simpa using h2) hk
theorem bindC_get {kindOf : Str → Option NameKind} {x : Str} {v : Value} : ∀ {P : List Str} {vs : List Value} {i : Nat} {m : Str → Option Value}, P.Nodup → P[i]? = some x → vs[i]? = some v → kindOf x ≠ some .local →
    bindC kindOf (P.zip vs) m x = some v
  | [], _, _, _, _, h, _, _ => by simp at h
  | _ :: _, [], _, _, _, _, h, _ => by simp at h
  | p :: P, w :: vs, 0, m, nd, h1, h2, hk => by
    simp at h1 h2; subst h1; subst h2
    show bindC kindOf ((p, w) :: P.zip vs) m p = _
    unfold bindC
    rw [bindC_out fun v hv => (List.nodup_cons.mp nd).1 (List.of_mem_zip hv).1, if_neg hk]
    simp
  | p :: P, w :: vs, i + 1, m, nd, h1, h2, hk => by
    show bindC kindOf ((p, w) :: P.zip vs) m x = _
    unfold bindC
    exact bindC_get (i := i) (List.nodup_cons.mp nd).2 (by simpa using h1) (by simpa using h2) hk

/-- the names' values at the entry -/
def start (N : List Str) (vs : List V) : St := vs.map some ++ List.replicate (N.length - vs.length) none

/-- the context of a def's body, at its entry; an exception leaves the frame, then lies as CX says -/
def cxOf (CX : CXT) (P : Program) (w : World) (K : PySem.W.Frag) (mg : Str → Option Value) (base : Heap) (N : List Str) (qual : Str) (scope : Scope) (f : Addr) (cd : Value) (A : Around) (outer : List Env) (s : Shared) (H : Hp) (E : XK) : Cx where
  prog := P
  w := w
  K := K
  mg := mg
  base := base
  A := A.deeper (envOfC qual scope s.heap.objs.size f cd)
  N := N
  s₀ := s
  H₀ := H
  env := envOfC qual scope s.heap.objs.size f cd
  outer := outer
  stack := envOfC qual scope s.heap.objs.size f cd :: outer
  ex := []
  calm := true
  fn := fun _ => true
  pn := []
  xe := fun e s' => wpAny (model P w) (A.deeper (envOfC qual scope s.heap.objs.size f cd)) (leaving (envOfC qual scope s.heap.objs.size f cd) e) (fun _ s'' => CX outer H s E e s'') (fun e' s'' => CX outer H s E e' s'') s'

theorem cell_has {sc : Scope} {n : Nat} {x : Str} (h : sc.names.lookup x = some .cell) : ∃ c, (cellsFrom n sc.names []).lookup x = some c := by
  have q := PySem.W.cellsFrom_some sc.names n [] (.inl h)
  exact Option.isSome_iff_exists.mp q

theorem inv_start {CX : CXT} {P : Program} {w : World} {K : PySem.W.Frag} {mg : Str → Option Value} {base : Heap} {N ps : List Str} {qual : Str} {scope : Scope} {f : Addr} {cd : Value} {A : Around} {outer : List Env} {s s1 : Shared} {H : Hp} {E : XK} {us : List Value} {vs : List V}
    (S : FnScope N ps scope) (e0 : Env0 P w K mg base A outer s H) (hl : vs.length = ps.length) (r : Vals vs us)
    (x : InCallC s s.heap.objs.size (bindL (envOfC qual scope s.heap.objs.size f cd).kindOf (ps.zip us) fun _ => none) (cellsFrom (s.heap.objs.size + 1) scope.names []) (bindC (envOfC qual scope s.heap.objs.size f cd).kindOf (ps.zip us) fun _ => none) s1) :
    Inv (cxOf CX P w K mg base N qual scope f cd A outer s H E) [] (start N vs) H s1 := by
  have hpl : ps.length ≤ N.length := by have := congrArg List.length S.pre; rw [List.length_take] at this; omega
  obtain ⟨h1, tk, rfl, hk⟩ := x.done
  have noA : ∀ b : Addr, b ∉ (cxOf CX P w K mg base N qual scope f cd A outer s H E).ex := fun b z => absurd (show b ∈ ([] : List Addr) from z) (by simp)
  refine ⟨⟨e0.mod, S.kind, rfl, rfl, Nat.le_refl _, fun y z c h1 h2 => ?_, fun y hy => ?_, fun y c _ h => ?_, e0.qt, Around.frames_deeper e0.frames, .inr ⟨rfl, rfl⟩, fun b z => absurd z (noA b), e0.bs, e0.bsz, fun b _ _ => noA b, fun b z => absurd z (noA b), e0.funs, e0.frf⟩,
    rfl, e0.bare, Un.kept hk, ⟨_, x.toInCall.ns, fun i y v h1 h2 h3 => ?_⟩, fun y c h => ⟨_, x.cell y c h⟩, e0.hok.fresh (Nat.le_refl _), fun y c h => ?_, fun p hp => absurd (show p ∈ ([] : List (Addr × Obj)) from hp) (by simp), e0.hok.kept hk, ?_⟩
  · exact name_of_addr x.apart (PySem.mem_of_lookup h1) (PySem.mem_of_lookup h2)
  · have hy : scope.names.lookup y = some .cell ∨ scope.names.lookup y = some .free := hy
    rcases hy with hy | hy
    · exact cell_has hy
    · exact absurd rfl (S.nofree _ (PySem.mem_of_lookup hy))
  · exact Nat.le_of_lt (x.above y c (PySem.mem_of_lookup h))
  · have hi : i < vs.length := by
      unfold start at h2
      by_cases hi : i < vs.length
      · exact hi
      · rw [List.getElem?_append_right (by simpa using hi)] at h2
        rw [List.getElem?_replicate] at h2
        split at h2 <;> cases h2
    have ha : vs[i]? = some v := by
      unfold start at h2
      rw [List.getElem?_append_left (by simpa using hi), List.getElem?_map] at h2
      cases e : vs[i]? with
      | none => rw [e] at h2; cases h2
      | some a => rw [e] at h2; cases h2; rfl
    obtain ⟨u, hu, rv⟩ := r.get ha
    have hp : ps[i]? = some y := by
      rw [← S.pre, List.getElem?_take_of_lt (by omega)]; exact h1
    have ndP : ps.Nodup := by rw [← S.pre]; exact S.nd.sublist (List.take_sublist _ _)
    refine ⟨u, rv, ?_⟩
    rcases S.par y (List.mem_of_getElem? hp) with k | k
    · exact .inl ⟨k, bindL_get ndP hp hu k⟩
    · obtain ⟨c, e⟩ := cell_has (n := s.heap.objs.size + 1) k
      refine .inr ⟨.inl k, c, e, ?_⟩
      have q := x.cell y c e
      rw [bindC_get ndP hp hu (by show scope.names.lookup y ≠ _; rw [k]; decide)] at q
      exact q
  · exact e0.hok.fresh (Nat.le_of_lt (x.above y c (PySem.mem_of_lookup h)))
  · unfold start
    show _ = N.length
    rw [List.length_append, List.length_map, List.length_replicate]
    omega

/-- THE RULE: a def (or a method) of the text, by its body. The body's reading t is chosen for each entry; it is run at the parameters' values -/
theorem fn_of {CX : CXT} {P : Program} {w : World} {K : PySem.W.Frag} {mg : Str → Option Value} {base : Heap} {k : Nat} {f : Addr} {name qual : Str} {params : Arguments} {body : List Stmt} {scope : Scope} {dV kV doc pm cdv ct oc : Value} {an od : Option Addr}
    {osl : Array (Option Value)} {N ps : List Str} {sp : Sp} (lk : K.lookup f = some ⟨oc, od, .func (PySem.W.fnOf name qual params body scope dV kV doc pm an cdv ct), osl⟩) (hcd : PySem.W.codeIn K cdv qual = true) (S : FnScope N ps scope)
    (len : ∀ vs H Q E, sp vs H Q E → vs.length = ps.length)
    (hbody : ∀ (A : Around) (outer : List Env) (s : Shared) (H : Hp) (vs : List V) (Q : VK) (E : XK), Room k (A.deeper (envOfC qual scope s.heap.objs.size f cdv)) → sp vs H Q E →
      ∃ t, PSs (cxOf CX P w K mg base N qual scope f cdv A outer s H E) body t ∧ t { nx := fun _ H' => Q .non H', rt := Q } (start N vs) H) :
    FnOk P w K mg base CX (k + 1) f (PySem.W.fnOf name qual params body scope dV kV doc pm an cdv ct) ps sp := by
  refine ⟨len, fun A outer s H args us vs Q E hr e0 hb r hsp => ?_⟩
  have hl := len _ _ _ _ hsp
  have KX : K.In s.heap := e0.mod.kin.keeps fun b o e => (e0.bs b o e).1
  have lim : s.heap.NoLimit := e0.mod.nolimit.keeps fun b o e => (e0.bs b o e).1
  have hkind : ∀ y ∈ ps.zip us, scope.names.lookup y.1 = some .local ∨ (scope.names.lookup y.1 = some .cell ∧ ((cellsFrom (s.heap.objs.size + 1) scope.names []).lookup y.1).isSome = true) := fun ⟨n, v⟩ hy => by
    rcases S.par n (List.of_mem_zip hy).1 with q | q
    · exact .inl q
    · exact .inr ⟨q, PySem.W.cellsFrom_some _ _ _ (.inl q)⟩
  refine codeAny_call_function hr.depth (KX _ _ lk) rfl S.co S.gen rfl (PySem.W.codeRec_of KX hcd) (hb _ _ _ _ ?_)
  refine wpAny_newFunctionEnv_cells S.kind hkind fun env he s1 x => ?_
  subst he
  refine ⟨lim.keeps x.toInCall.keep, codeAny_func ?_⟩
  obtain ⟨t, ht, hq⟩ := hbody A outer s H vs Q E (hr.deeper _) hsp
  have I : Inv (cxOf CX P w K mg base N qual scope f cdv A outer s H E) [] (start N vs) H s1 := inv_start S e0 hl r x
  refine wpAny_mono (ht [] s1 (start N vs) H _ I hq) (fun fl s' hs => ?_) fun e s' hs => hs
  have fin : ∀ {σ' : St} {H' : Hp} {v : V} {u : Value}, Inv (cxOf CX P w K mg base N qual scope f cdv A outer s H E) [] σ' H' s' → RelV v u → Q v H' → CE outer P w H s Q u s' :=
    fun {σ' H' v u} J rv q => ⟨v, H', J.os, J.bare, J.base, J.hok, rv, q⟩
  cases fl with
  | ret u =>
    obtain ⟨v, σ', H', J, rv, q⟩ := hs
    exact fin J rv q
  | next =>
    obtain ⟨σ', H', J, q⟩ := hs
    exact fin (v := V.non) (u := Value.none) J rfl q
  | brk =>
    obtain ⟨_, _, _, q⟩ := hs
    exact False.elim q
  | cont =>
    obtain ⟨_, _, _, q⟩ := hs
    exact False.elim q
end L2

namespace L2
open PySem PySem.Spec PyProof.Rows
section
variable {X : Cx} {x : Str} {p pos : Pos} {e : Expr} {es : List Expr} {t : TA} {id T : String} {r : List V → Hp → VK → Prop}

def tCB (r : List V → Hp → VK → Prop) (t : TA) : TE := fun σ H Q => t σ H fun vs H1 => r vs H1 Q
/-- f(e, ..), f a built-in function -/
theorem pe_callB (hc : CallR X (.builtin id) r) (hg : Gl X x) (hm : X.mg x = none) (hv : bootBuiltins x = some (.builtin id)) (ha : PA X (e :: es) t) (hn : x ≠ "__name__" := by decide) (hdb : (x == ("__debug__" : Str)) = false := by decide)
    (he : starEach (e :: es) X.env = (false, eval e X.env) :: starEach es X.env := by rfl) (hpl : (backTo pos (starEach es X.env)).any (·.1) = false := by rfl) : PE X (.Call (.Name x p) (e :: es) [] pos) (tCB r t) := by
  intro pins s σ H Q I h
  refine wpAny_Call_Name_kw (ld_blt I hg hm hv ?_ hn hdb)
  exact PyProof.Rows.callWith_builtin1 (thn (ha pos pins s σ H _ I h) fun us s1 ⟨vs, H1, I1, r1, q1⟩ => hc pins s1 σ H1 vs us Q I1 r1 q1) he hpl
/-- T(e, ..), T a built-in type -/
theorem pe_callTy (hc : CallR X (.type T) r) (hg : Gl X x) (hm : X.mg x = none) (hv : bootBuiltins x = some (.type T)) (ha : PA X (e :: es) t) (hn : x ≠ "__name__" := by decide) (hdb : (x == ("__debug__" : Str)) = false := by decide)
    (he : starEach (e :: es) X.env = (false, eval e X.env) :: starEach es X.env := by rfl) (hpl : (backTo pos (starEach es X.env)).any (·.1) = false := by rfl) : PE X (.Call (.Name x p) (e :: es) [] pos) (tCB r t) := by
  intro pins s σ H Q I h
  refine wpAny_Call_Name_kw (ld_blt I hg hm hv ?_ hn hdb)
  exact PyProof.Rows.callWith_type1 (thn (ha pos pins s σ H _ I h) fun us s1 ⟨vs, H1, I1, r1, q1⟩ => hc pins s1 σ H1 vs us Q I1 r1 q1) he hpl
end
end L2

namespace HT
open PySem PyProof.Rows

/-- t < u of tuples of ints -/
def lexLt : List Int → List Int → Bool
  | [], [] => false
  | [], _ :: _ => true
  | _ :: _, [] => false
  | x :: xs, y :: ys => if x = y then lexLt xs ys else decide (x < y)
section
open PySem.SeqAt
open PySem.AutoSeq1 (wpAny_loadPart')
open PySem.MeetsSeq PySem.MeetsSeq2 PySem.MeetsSeq3

end

section
variable {prog : Program} {w : World} {A : Around} {E : Value → Shared → Prop} {s : Shared}

/-! ### t[a:b], not the whole -/
/-- a slice's bound as a place among n (d where it is left out) -/
def sIx (n d : Nat) : Option Int → Nat
  | none => d
  | some v => if v < 0 then (v + (n : Int)).toNat else min v.toNat n
theorem sIx_none (n d : Nat) : sIx n d none = d := rfl
theorem sIx_nat (n d k : Nat) : sIx n d (some (k : Int)) = min k n := by
  show (if (k : Int) < 0 then ((k : Int) + (n : Int)).toNat else min (k : Int).toNat n) = min k n
  rw [if_neg (by omega), Int.toNat_natCast]
end
end HT

namespace L2
open PySem PySem.Spec PyProof.Rows

/-! ### the parts of a slice -/
abbrev TO := St → Hp → (Option Int → Hp → Prop) → Prop
/-- a slice's part (left out, or an int) -/
def PO (X : Cx) (e : Option Expr) (t : TO) : Prop :=
  ∀ (pins : List (Addr × Obj)) (s : Shared) (σ : St) (H : Hp) (Q : Option Int → Hp → Prop), Inv X pins σ H s → t σ H Q →
    wpAny (model X.prog X.w) X.A (evalPart e X.env) (fun u s' => ∃ o H', Inv X pins σ H' s' ∧ IsPart u o ∧ Q o H') X.xe s
def tNoPart : TO := fun _ H Q => Q none H
def tPart (t : TE) : TO := fun σ H Q => t σ H fun x H1 => ∃ i, x = .int i ∧ Q (some i) H1

theorem intsAre_of {ns : List Int} : ∀ {us : List Value}, Vals (ns.map V.int) us → IntsAre us ns := by
  induction ns with
  | nil => intro us r; rw [List.map_nil] at r; cases r; exact .nil
  | cons n ns ih =>
    intro us r
    rw [List.map_cons] at r
    cases r with
    | cons r1 r2 =>
      obtain ⟨t, e⟩ := r1
      subst e
      exact .cons n t (ih r2)

section
variable {X : Cx} {e : Expr} {te : TE} {lo hi : Option Expr} {tl th : TO} {pos p2 : Pos}

theorem po_none : PO X none tNoPart := by
  intro pins s σ H Q I h
  rw [evalPart_none]
  exact wpAny_pure ⟨none, H, I, .none, h⟩
theorem po_some (h : PE X e te) : PO X (some e) (tPart te) := by
  intro pins s σ H Q I hw
  rw [evalPart_some]
  refine thn (h pins s σ H _ I hw) fun u s1 ⟨x, H1, I1, r1, q1⟩ => ?_
  obtain ⟨i, rfl, q⟩ := q1
  obtain ⟨t, rfl⟩ := r1
  exact ⟨some i, H1, I1, .int i t, q⟩

/-- what a slice of a value is, by values: the slice object stands at sl -/
def SlR (X : Cx) (r : V → Option Int → Option Int → Hp → VK → Prop) : Prop :=
  ∀ (pins : List (Addr × Obj)) (s : Shared) (σ : St) (H : Hp) (x : V) (v vl vu : Value) (lo hi : Option Int) (sl : Addr) (Q : VK), Inv X pins σ H s → RelV x v → s.heap.IsSliceOf sl vl vu .none → IsPart vl lo → IsPart vu hi → r x lo hi H Q →
    ∃ T id, typeLookup (.type T) "__getitem__" = pure (some (.builtin id)) ∧ s.TypeIs v T ∧ wpAny (model X.prog X.w) X.A (getItem v (.ref sl)) (EP X pins σ Q) X.xe s
theorem SlR.or {r r' : V → Option Int → Option Int → Hp → VK → Prop} (h : SlR X r) (h' : SlR X r') : SlR X (fun x lo hi H Q => r x lo hi H Q ∨ r' x lo hi H Q) := by
  intro pins s σ H x v vl vu lo hi sl Q I rx hs pl pu q
  rcases q with q | q
  · exact h pins s σ H x v vl vu lo hi sl Q I rx hs pl pu q
  · exact h' pins s σ H x v vl vu lo hi sl Q I rx hs pl pu q
def tSl (r : V → Option Int → Option Int → Hp → VK → Prop) (te : TE) (tl th : TO) : TE := fun σ H Q => te σ H fun x H1 => tl σ H1 fun l H2 => th σ H2 fun u H3 => r x l u H3 Q
/-- a[lo:hi], any a -/
theorem pe_slice {r : V → Option Int → Option Int → Hp → VK → Prop} (hr : SlR X r) (he : PE X e te) (hl : PO X lo tl) (hu : PO X hi th) : PE X (.Subscript e (.Slice lo hi none p2) pos) (tSl r te tl th) := by
  intro pins s σ H Q I h
  refine Subscript_ (thn (he pins s σ H _ I h) fun v s1 ⟨x, H1, I1, r1, q1⟩ => ?_)
  refine wpAny_Slice (thn (hl pins s1 σ H1 _ I1 q1) fun vl s2 ⟨l, H2, I2, pl, q2⟩ => thn (hu pins s2 σ H2 _ I2 q2) fun vu s3 ⟨u, H3, I3, pu, q3⟩ => ?_)
  rw [evalPart_none]
  refine wpAny_pure ?_
  have I4 : Inv X pins σ H3 { s3 with heap := s3.heap.push { cls := .type "slice", data := .fields #[vl, vu, .none] } } := I3.kept (t' := s3.toks) fun b ob q => Heap.get?_push_of_some _ q
  obtain ⟨T, id, hT, ht, hg⟩ := hr pins { s3 with heap := s3.heap.push { cls := .type "slice", data := .fields #[vl, vu, .none] } } σ H3 x v vl vu l u s3.heap.objs.size Q I4 r1 (Heap.IsSliceOf.new ..) pl pu q3
  show wpAny (model X.prog X.w) X.A (subscriptTail e (.Slice lo hi none p2) v (.ref s3.heap.objs.size)) (EP X pins σ Q) X.xe { s3 with heap := s3.heap.push { cls := .type "slice", data := .fields #[vl, vu, .none] } }
  exact tail_any (ops := [.ref s3.heap.objs.size, v]) ht hT hg (by with_unfolding_all rfl)

/-- the items of xs[lo:hi] -/
def cutV (xs : List V) (lo hi : Option Int) : List V := (xs.drop (HT.sIx xs.length 0 lo)).take (HT.sIx xs.length xs.length hi - HT.sIx xs.length 0 lo)
theorem cutV_length (xs : List V) (lo hi : Option Int) : (cutV xs lo hi).length ≤ xs.length := by
  unfold cutV
  rw [List.length_take, List.length_drop]
  omega
/-- t[lo:hi], not the whole of it (the whole would be t itself) -/
def rSlT (K : PySem.W.Frag) : V → Option Int → Option Int → Hp → VK → Prop := fun x lo hi H Q => ∃ a xs, x = .ref a ∧ SqT K H a xs ∧
  ¬ (HT.sIx xs.length 0 lo = 0 ∧ HT.sIx xs.length xs.length hi = xs.length) ∧ ∀ p, H p = none → Q (.ref p) (upd H p (.tup (cutV xs lo hi)))
/-! ### t < u, t + u -/
def rLtT (K : PySem.W.Frag) : R2 := fun x y H Q => ∃ a b ns ms, x = .ref a ∧ y = .ref b ∧ SqT K H a (ns.map V.int) ∧ SqT K H b (ms.map V.int) ∧ Q (.bl (HT.lexLt ns ms)) H
/-- t + u, t not empty: u empty gives t itself -/
def rCatT (K : PySem.W.Frag) : R2 := fun x y H Q => ∃ a b xs ys, x = .ref a ∧ y = .ref b ∧ SqT K H a xs ∧ SqT K H b ys ∧ xs ≠ [] ∧ xs.length + ys.length ≤ sizeLine ∧
  (ys = [] → Q (.ref a) H) ∧ (ys ≠ [] → ∀ p, H p = none → Q (.ref p) (upd H p (.tup (xs ++ ys))))
end
end L2

namespace L2
open PySem PySem.Spec PyProof.Rows

/-! ### places -/
/-- the place that an index of any sign means -/
def ixN (n : Nat) (i : Int) : Option Nat := if 0 ≤ i then (if i < n then some i.toNat else none) else if -(n : Int) ≤ i then some (i + n).toNat else none
def atI {α : Type} (xs : List α) (i : Int) : Option α := (ixN xs.length i).bind fun j => xs[j]?
theorem ixN_seq {n : Nat} {i : Int} {j : Nat} (h : ixN n i = some j) : seqIndex? i n = some j ∧ j < n ∧ -(n : Int) ≤ i ∧ i < n := by
  unfold ixN at h
  by_cases h0 : 0 ≤ i
  · rw [if_pos h0] at h
    by_cases h1 : i < n
    · rw [if_pos h1] at h
      have e : i.toNat = j := Option.some.inj h
      exact ⟨by rw [seqIndex_of h0 h1, e], by omega, by omega, h1⟩
    · rw [if_neg h1] at h; cases h
  · rw [if_neg h0] at h
    by_cases h1 : -(n : Int) ≤ i
    · rw [if_pos h1] at h
      have e : (i + n).toNat = j := Option.some.inj h
      exact ⟨by rw [seqIndex_neg (by omega) h1, e], by omega, h1, by omega⟩
    · rw [if_neg h1] at h; cases h
theorem atI_get {α : Type} {xs : List α} {i : Int} {v : α} (h : atI xs i = some v) : ∃ j, seqIndex? i xs.length = some j ∧ xs[j]? = some v ∧ j < xs.length ∧ -(xs.length : Int) ≤ i ∧ i < xs.length := by
  unfold atI at h
  cases e : ixN xs.length i with
  | none => rw [e] at h; cases h
  | some j =>
    rw [e] at h
    obtain ⟨h1, h2, h3, h4⟩ := ixN_seq e
    exact ⟨j, h1, h, h2, h3, h4⟩
theorem atI_nat {α : Type} {xs : List α} {j : Nat} {v : α} (h : xs[j]? = some v) : atI xs (j : Int) = some v := by
  have hj : j < xs.length := (List.getElem?_eq_some_iff.mp h).1
  have e : ixN xs.length (j : Int) = some j := by
    unfold ixN
    rw [if_pos (by omega), if_pos (by omega)]; simp
  unfold atI; rw [e]; exact h
/-! ### what may be subscripted -/
/-- what stands as an index of a plain subscript -/
def PlainIx (b : Expr) : Prop := ∀ o i, subscripted b false o i = operate [o, i] (getItem o i)
/-- a subscript by values -/
def IxR (X : Cx) (r : R2) : Prop :=
  ∀ (value slice : Expr) (pins : List (Addr × Obj)) (s : Shared) (σ : St) (H : Hp) (x y : V) (v u : Value) (Q : VK), Inv X pins σ H s → RelV x v → RelV y u → r x y H Q →
    subscripted slice false v u = operate [v, u] (getItem v u) → wpAny (model X.prog X.w) X.A (subscriptTail value slice v u) (EP X pins σ Q) X.xe s
/-- a call of a builtin's method by values: the receiver, the arguments -/
def MtR (X : Cx) (id : String) (r : V → List V → Hp → VK → Prop) : Prop :=
  ∀ (pins : List (Addr × Obj)) (s : Shared) (σ : St) (H : Hp) (x : V) (xs : List V) (v : Value) (us : List Value) (Q : VK), Inv X pins σ H s → RelV x v → Vals xs us → r x xs H Q →
    wpAny (model X.prog X.w) X.A (call (.builtin id) (v :: us)) (EP X pins σ Q) X.xe s
section
variable {X : Cx} {a b : Expr} {ta tb : TE} {pos : Pos}
theorem IxR.or {r r' : R2} (h : IxR X r) (h' : IxR X r') : IxR X (fun x y H Q => r x y H Q ∨ r' x y H Q) := by
  intro value slice pins s σ H x y v u Q I rx ry q hs
  rcases q with q | q
  · exact h value slice pins s σ H x y v u Q I rx ry q hs
  · exact h' value slice pins s σ H x y v u Q I rx ry q hs
theorem MtR.or {id : String} {r r' : V → List V → Hp → VK → Prop} (h : MtR X id r) (h' : MtR X id r') : MtR X id (fun x xs H Q => r x xs H Q ∨ r' x xs H Q) := by
  intro pins s σ H x xs v us Q I rx rs q
  rcases q with q | q
  · exact h pins s σ H x xs v us Q I rx rs q
  · exact h' pins s σ H x xs v us Q I rx rs q
/-- a[b] -/
theorem pe_ix {r : R2} (hr : IxR X r) (ha : PE X a ta) (hb : PE X b tb) (hs : PlainIx b) : PE X (.Subscript a b pos) (tOp r ta tb) := by
  intro pins s σ H Q I h
  exact Subscript_ (binT ha hb I h fun v u s2 x y H2 I2 rx ry q => hr a b pins s2 σ H2 x y v u Q I2 rx ry q (hs _ _))

def rIxL (K : PySem.W.Frag) : R2 := fun x y H Q => ∃ p xs i v, x = .ref p ∧ y = .int i ∧ SqL K H p xs ∧ atI xs i = some v ∧ Q v H
def rIxT (K : PySem.W.Frag) : R2 := fun x y H Q => ∃ p xs i v, x = .ref p ∧ y = .int i ∧ SqT K H p xs ∧ atI xs i = some v ∧ Q v H
def rIxS : R2 := fun x y H Q => ∃ z i c, x = .str z ∧ y = .int i ∧ z.length ≤ sizeLine ∧ atI z.cps.toList i = some c ∧ Q (.str ⟨#[c]⟩) H
theorem ix_list : IxR X (rIxL X.K) := by
  intro value slice pins s σ H x y v u Q I rx ry h hs
  obtain ⟨p, xs, i, z, rfl, rfl, hq, he, q⟩ := h
  cases rx
  obtain ⟨t, rfl⟩ := ry
  obtain ⟨its, r, pl, hz⟩ := I.list hq
  obtain ⟨j, h1, h2, h3, h4, h5⟩ := atI_get he
  obtain ⟨w, ew, rw'⟩ := r.get h2
  have hl := r.length
  have hn := line63
  have fin : EP X pins σ Q w s := ⟨z, H, I, rw', q⟩
  by_cases h0 : 0 ≤ i
  · have hj : i.toNat = j := by
      rw [seqIndex_of h0 h5] at h1
      exact Option.some.inj h1
    exact item_listR pl.isList h0 (by omega) (by rw [hj]; simpa using ew) fin hs
  · have hj : (i + (its.toArray.size : Int)).toNat = j := by
      rw [seqIndex_neg (by omega) h4] at h1
      rw [List.size_toArray, ← hl]
      exact Option.some.inj h1
    exact subscriptTail_builtinR (x := w) pl.isList.typeIs slot_list_getitem.lookup
      (wpAny_getItem_list_neg (Q := fun r s' => r = w ∧ EP X pins σ Q r s') pl.isList (by omega) (by rw [List.size_toArray] <;> omega) (by omega) (by rw [hj]; simpa using ew) ⟨rfl, fin⟩) hs
theorem ix_tup : IxR X (rIxT X.K) := by
  intro value slice pins s σ H x y v u Q I rx ry h hs
  obtain ⟨p, xs, i, z, rfl, rfl, hq, he, q⟩ := h
  cases rx
  obtain ⟨t, rfl⟩ := ry
  obtain ⟨its, r, pl, hz⟩ := I.tuple hq
  obtain ⟨j, h1, h2, h3, h4, h5⟩ := atI_get he
  obtain ⟨w, ew, rw'⟩ := r.get h2
  have hl := r.length
  have hn := line63
  have fin : EP X pins σ Q w s := ⟨z, H, I, rw', q⟩
  exact subscriptTail_builtinR (x := w) pl.typeIs slot_tuple_getitem.lookup
    (getItem_tuple (j := j) (Q := fun r s' => r = w ∧ EP X pins σ Q r s') pl (by omega) (by omega) (by rw [List.size_toArray, ← hl]; exact h1) (by simpa using ew) ⟨rfl, fin⟩) hs
/-- list, tuple or str -/
def rIx (K : PySem.W.Frag) : R2 := fun x y H Q => rIxL K x y H Q ∨ rIxT K x y H Q ∨ rIxS x y H Q
/-! ### xs[i] = v, any sign -/
theorem Inv.lst {pins : List (Addr × Obj)} {σ : St} {H : Hp} {s : Shared} {p : Addr} {xs : List V} (I : Inv X pins σ H s) (h : H p = some (.lst xs)) :
    ∃ (its : List Value) (n : Nat), Vals xs its ∧ s.heap.get? p = some { cls := .type "list", data := .seq its.toArray n } ∧ xs.length ≤ sizeLine := by
  obtain ⟨z, its, n, r, e⟩ := I.hok p _ h
  exact ⟨its, n, r, e, z⟩
def rSetL : V → V → V → Hp → (Hp → Prop) → Prop := fun o i v H Q => ∃ p xs k j, o = .ref p ∧ i = .int k ∧ H p = some (.lst xs) ∧ ixN xs.length k = some j ∧ Q (upd H p (.lst (xs.set j v)))
/-! ### slices -/
theorem slice_bounds (lo hi : Option Int) (n : Nat) : (sliceBounds lo hi none n).1 = ((HT.sIx n 0 lo : Nat) : Int) ∧ (sliceBounds lo hi none n).2.1 = ((HT.sIx n n hi : Nat) : Int) ∧ (sliceBounds lo hi none n).2.2 = 1 := by
  refine ⟨?_, ?_, rfl⟩
  · cases lo with
    | none => simp [sliceBounds, HT.sIx]
    | some i =>
      simp only [sliceBounds, HT.sIx, Option.getD_none, show (1 : Int) > 0 by decide, if_true]
      by_cases h : i < 0
      · simp only [h, if_true] <;> omega
      · simp only [h, if_false] <;> omega
  · cases hi with
    | none => simp [sliceBounds, HT.sIx]
    | some i =>
      simp only [sliceBounds, HT.sIx, Option.getD_none, show (1 : Int) > 0 by decide, if_true]
      by_cases h : i < 0
      · simp only [h, if_true] <;> omega
      · simp only [h, if_false] <;> omega
theorem slicePick_cut (its : List Value) (lo hi : Option Int) : slicePick its.toArray lo hi none = ((its.drop (HT.sIx its.length 0 lo)).take (HT.sIx its.length its.length hi - HT.sIx its.length 0 lo)).toArray := by
  obtain ⟨h1, h2, h3⟩ := slice_bounds lo hi its.toArray.size
  unfold slicePick
  rw [h1, h2, h3]
  simp only [sliceRange_one, pick_run, List.size_toArray] <;> rfl
/-- xs[lo:hi] of a list: a new list -/
def rSlL (K : PySem.W.Frag) : V → Option Int → Option Int → Hp → VK → Prop := fun x lo hi H Q => ∃ a xs, x = .ref a ∧ SqL K H a xs ∧ ∀ p, H p = none → Q (.ref p) (upd H p (.lst (cutV xs lo hi)))
theorem sl_list : SlR X (rSlL X.K) := by
  intro pins s σ H x v vl vu lo hi sl Q I rx hs pl pu h
  obtain ⟨a, xs, rfl, hx, q⟩ := h
  cases rx
  obtain ⟨its, r, ht, hz⟩ := I.list hx
  have hlen := r.length
  refine ⟨"list", _, slot_list_getitem.lookup, ht.isList.typeIs, ?_⟩
  refine wpAny_getItem_list_slice ht.isList hs pl pu .none (by simp) ?_ (by rw [List.size_toArray] <;> omega)
  rw [slicePick_cut, ← hlen]
  refine ⟨.ref s.heap.objs.size, _, I.laid (t' := s.toks) (o := .lst (cutV xs lo hi)) (fun b ob q => Heap.get?_push_of_some _ q) (Nat.le_refl _) ?_, rfl, q _ (I.hok.fresh (Nat.le_refl _))⟩
  exact ⟨Nat.le_trans (cutV_length xs lo hi) hz, _, 0, (r.drop (HT.sIx xs.length 0 lo)).take (HT.sIx xs.length xs.length hi - HT.sIx xs.length 0 lo), Heap.get?_push_size _ rfl⟩

/-! ### in, not in: flat items -/
def flatV : V → Bool
  | .non => true
  | .bl _ => true
  | .int _ => true
  | .str _ => true
  | _ => false
/-- == of flat values -/
def eqV : V → V → Bool
  | .non, .non => true
  | .bl a, .bl b => a == b
  | .bl a, .int b => (if a then 1 else 0) == b
  | .int a, .bl b => a == (if b then 1 else 0)
  | .int a, .int b => a == b
  | .str a, .str b => a == b
  | _, _ => false
theorem eqAt_V {A : Around} {s : Shared} {y x : V} {u v : Value} (ry : RelV y u) (rx : RelV x v) (fy : flatV y = true) (fx : flatV x = true) : SeqAt.EqAt A s u v (eqV y x) := by
  cases y with
  | non =>
    cases ry
    cases x with
    | non => cases rx; exact SeqAt.EqAt.same _
    | bl b => cases rx; exact SeqAt.EqAt.none_bool b
    | int b => obtain ⟨t, rfl⟩ := rx; exact SeqAt.EqAt.none_int b t
    | str b => obtain ⟨t, rfl⟩ := rx; exact SeqAt.EqAt.none_str b t
    | _ => exact absurd (show false = true from fx) Bool.false_ne_true
  | bl a =>
    cases ry
    cases x with
    | non => cases rx; exact SeqAt.EqAt.bool_none a
    | bl b => cases rx; exact SeqAt.EqAt.bool_bool a b
    | int b => obtain ⟨t, rfl⟩ := rx; exact SeqAt.EqAt.bool_int a b t
    | str b => obtain ⟨t, rfl⟩ := rx; exact SeqAt.EqAt.bool_str a b t
    | _ => exact absurd (show false = true from fx) Bool.false_ne_true
  | int a =>
    obtain ⟨t', rfl⟩ := ry
    cases x with
    | non => cases rx; exact SeqAt.EqAt.int_none a t'
    | bl b => cases rx; exact SeqAt.EqAt.int_bool a t' b
    | int b => obtain ⟨t, rfl⟩ := rx; exact SeqAt.EqAt.int_int a t' b t
    | str b => obtain ⟨t, rfl⟩ := rx; exact SeqAt.EqAt.int_str a t' b t
    | _ => exact absurd (show false = true from fx) Bool.false_ne_true
  | str a =>
    obtain ⟨t', rfl⟩ := ry
    cases x with
    | non => cases rx; exact SeqAt.EqAt.str_none a t'
    | bl b => cases rx; exact SeqAt.EqAt.str_bool a t' b
    | int b => obtain ⟨t, rfl⟩ := rx; exact SeqAt.EqAt.str_int a t' b t
    | str b => obtain ⟨t, rfl⟩ := rx; exact SeqAt.EqAt.str_str a t' b t
    | _ => exact absurd (show false = true from fx) Bool.false_ne_true
  | _ => exact absurd (show false = true from fy) Bool.false_ne_true
/-- the items' answers, read off the values (a value's own answer does not lean on its token) -/
def eqU (x : V) (u : Value) : Bool := match u with
  | .none => eqV .non x
  | .bool b => eqV (.bl b) x
  | .int i _ => eqV (.int i) x
  | .str z _ => eqV (.str z) x
  | _ => false
def inV (x : V) (xs : List V) : Bool := xs.any fun y => eqV y x
/-- x in a list or tuple of flat items -/
def rIn (K : PySem.W.Frag) (neg : Bool) : R2 := fun x y H Q => ∃ p xs, y = .ref p ∧ (SqL K H p xs ∨ SqT K H p xs) ∧ flatV x = true ∧ xs.all flatV = true ∧ Q (.bl (if neg then !inV x xs else inV x xs)) H
/-! ### len, list(x), tuple(x) of any list or tuple that is read -/
theorem call_len_seq : CallR X (.builtin "len") (fun xs H Q => ∃ p ys, xs = [.ref p] ∧ (SqL X.K H p ys ∨ SqT X.K H p ys) ∧ Q (.int ys.length) H) := by
  intro pins s σ H xs us Q I r h
  obtain ⟨p, ys, rfl, hq, q⟩ := h
  obtain ⟨u, rfl, rx⟩ := vals1 r
  cases rx
  have hn := line63
  rcases hq with hq | hq
  · obtain ⟨its, r', pl, hz⟩ := I.list hq
    have hlen := r'.length
    exact Calls.call_len_list pl.isList (by simp only [List.size_toArray] <;> omega) ⟨.int ys.length, H, I.tok _, ⟨s.toks + 1, by rw [List.size_toArray, hlen]⟩, q⟩
  · obtain ⟨its, r', pl, hz⟩ := I.tuple hq
    have hlen := r'.length
    exact len_tuple pl (by simp only [List.size_toArray] <;> omega) ⟨.int ys.length, H, I.tok _, ⟨s.toks + 1, by rw [List.size_toArray, hlen]⟩, q⟩
theorem CallR.or {f : Value} {r r' : List V → Hp → VK → Prop} (h : CallR X f r) (h' : CallR X f r') : CallR X f (fun xs H Q => r xs H Q ∨ r' xs H Q) := by
  intro pins s σ H xs us Q I rs q
  rcases q with q | q
  · exact h pins s σ H xs us Q I rs q
  · exact h' pins s σ H xs us Q I rs q
theorem call_list_of : CallR X (.type "list") (fun xs H Q => ∃ p ys, xs = [.ref p] ∧ (SqL X.K H p ys ∨ SqT X.K H p ys) ∧ ∀ l, H l = none → Q (.ref l) (upd H l (.lst ys))) := by
  intro pins s σ H xs us Q I r h
  obtain ⟨p, ys, rfl, hq, q⟩ := h
  obtain ⟨u, rfl, rx⟩ := vals1 r
  cases rx
  have fin : ∀ (its : List Value), Vals ys its → ys.length ≤ sizeLine → ∀ (h' : Heap) (c' : Nat), (∀ b o', s.heap.get? b = some o' → h'.get? b = some o') →
      h'.get? s.heap.objs.size = some { cls := .type "list", dict := none, data := .seq its.toArray c', slots := #[] } → EP X pins σ Q (.ref s.heap.objs.size) { s with heap := h' } := fun its r' hz h' c' kp e =>
    ⟨.ref s.heap.objs.size, _, I.laid (t' := s.toks) kp (Nat.le_refl _) (show ObjOk X.prog X.w _ h' _ (.lst ys) from ⟨hz, its, c', r', e⟩), rfl, q _ (I.hok.fresh (Nat.le_refl _))⟩
  rcases hq with hq | hq
  · obtain ⟨its, r', pl, hz⟩ := I.list hq
    have hlen := r'.length
    obtain ⟨o, ho, hc, n, hd⟩ := pl.isList
    exact call_list_seq p (.inl rfl) ho hc hd (fun h' c' kp e => fin its r' hz h' c' kp e) (by simp only [List.size_toArray] <;> omega)
  · obtain ⟨its, r', pl, hz⟩ := I.tuple hq
    have hlen := r'.length
    obtain ⟨o, ho, hc, n, hd⟩ := pl
    exact call_list_seq p (.inr rfl) ho hc hd (fun h' c' kp e => fin its r' hz h' c' kp e) (by simp only [List.size_toArray] <;> omega)
theorem call_tuple_of : CallR X (.type "tuple") (fun xs H Q => ∃ p ys, xs = [.ref p] ∧ ((SqL X.K H p ys ∧ ∀ l, H l = none → Q (.ref l) (upd H l (.tup ys))) ∨ (SqT X.K H p ys ∧ Q (.ref p) H))) := by
  intro pins s σ H xs us Q I r h
  obtain ⟨p, ys, rfl, h⟩ := h
  obtain ⟨u, rfl, rx⟩ := vals1 r
  cases rx
  rcases h with ⟨hq, q⟩ | ⟨hq, q⟩
  · obtain ⟨its, r', pl, hz⟩ := I.list hq
    have hlen := r'.length
    refine call_tuple_list pl.isList (fun h' kp => ?_) (by simp only [List.size_toArray] <;> omega)
    have I1 : Inv X pins σ H { s with heap := h' } := I.kept (t' := s.toks) kp
    have I2 : Inv X pins σ (upd H h'.objs.size (.tup ys)) { s with heap := h'.push { cls := .type "tuple", data := .seq its.toArray } } :=
      I1.laid (t' := s.toks) (fun b o e => Heap.get?_push_of_some _ e) (Nat.le_refl _) (show ObjOk X.prog X.w _ _ _ (.tup ys) from ⟨hz, its, r', IsTup.new _ _⟩)
    exact ⟨.ref h'.objs.size, _, I2, rfl, q _ (I1.hok.fresh (Nat.le_refl _))⟩
  · obtain ⟨its, r', pl, hz⟩ := I.tuple hq
    exact call_tuple_same pl ⟨.ref p, H, I, rfl, q⟩

/-! ### the call of a builtin's method: o.m(..) -/
/-- the value is of that builtin type -/
def tyV (K : PySem.W.Frag) (T : String) (x : V) (H : Hp) : Prop := match x with
  | .str _ => T = "str"
  | .int _ => T = "int"
  | .ref p => (T = "list" ∧ ∃ xs, SqL K H p xs) ∨ (T = "tuple" ∧ ∃ o, K.lookup p = some o ∧ o.cls = .type "tuple" ∧ o.dict = none) ∨
      (T = "dict" ∧ ((∃ kvs, H p = some (.dK kvs)) ∨ ∃ kvs, H p = some (.dT kvs))) ∨ (T = "set" ∧ ∃ S n, H p = some (.set S n))
  | _ => False
theorem tyV_is {pins : List (Addr × Obj)} {σ : St} {H : Hp} {s : Shared} {T : String} {x : V} {v : Value} (I : Inv X pins σ H s) (r : RelV x v) (ty : tyV X.K T x H) :
    s.TypeIs v T ∧ ∀ a, v = .ref a → ∃ ob, s.heap.get? a = some ob ∧ ob.dict = none := by
  cases x with
  | str z =>
    obtain ⟨t, rfl⟩ := r
    cases (show T = "str" from ty)
    exact ⟨typeIs_str s z t, fun _ e => nomatch e⟩
  | int i =>
    obtain ⟨t, rfl⟩ := r
    cases (show T = "int" from ty)
    exact ⟨typeIs_int s i t, fun _ e => nomatch e⟩
  | ref p =>
    cases r
    rcases ty with ⟨rfl, xs, hq⟩ | ⟨rfl, o, hk, hc, hd⟩ | ⟨rfl, hk⟩ | ⟨rfl, S, n, hk⟩
    · obtain ⟨its, _, pl, _⟩ := I.list hq
      refine ⟨pl.isList.typeIs, fun a e => ?_⟩
      cases e
      obtain ⟨o, n, e, c, hd, _⟩ := pl
      exact ⟨o, e, hd⟩
    · refine ⟨⟨o, I.kIn p o hk, hc⟩, fun a e => ?_⟩
      cases e
      exact ⟨o, I.kIn _ o hk, hd⟩
    · have z : ∃ o, s.heap.get? p = some o ∧ o.ExactDict := by
        rcases hk with ⟨kvs, hk⟩ | ⟨kvs, hk⟩
        · obtain ⟨_, _, _, _, o, _, _, e, ex, _⟩ := I.hok p _ hk
          exact ⟨o, e, ex⟩
        · obtain ⟨_, _, _, _, o, _, _, e, ex, _⟩ := I.hok p _ hk
          exact ⟨o, e, ex⟩
      obtain ⟨o, e, ex⟩ := z
      refine ⟨⟨o, e, ex.1⟩, fun a e2 => ?_⟩
      cases e2
      exact ⟨o, e, ex.2.1⟩
    · obtain ⟨o, _, _, _, e, ex, _⟩ := I.hok p _ hk
      refine ⟨⟨o, e, ex.1⟩, fun a e2 => ?_⟩
      cases e2
      exact ⟨o, e, ex.2.1⟩
  | _ => exact False.elim ty
def tBM0 (K : PySem.W.Frag) (T : String) (r : V → List V → Hp → VK → Prop) (to : TE) : TE := fun σ H Q => to σ H fun x H1 => tyV K T x H1 ∧ r x [] H1 Q
def tBM (K : PySem.W.Frag) (T : String) (r : V → List V → Hp → VK → Prop) (to : TE) (t : TA) : TE := fun σ H Q => to σ H fun x H1 => tyV K T x H1 ∧ t σ H1 fun xs H2 => r x xs H2 Q
variable {o e : Expr} {es : List Expr} {to : TE} {t : TA} {name : Str} {apos cpos : Pos} {T id : String} {r : V → List V → Hp → VK → Prop}
theorem pe_bm0 (pa : PlainAttrs T) (slot : Slot T name id) (hty : typeOf (.builtin id) = pure (.type "method_descriptor")) (hm : MtR X id r) (ho : PE X o to)
    (hbase : attributeBase o name X.env (eval o X.env) = eval o X.env := by rfl) (hline : (apos.endLine == cpos.line) = true := by rfl) : PE X (.Call (.Attribute o name apos) [] [] cpos) (tBM0 X.K T r to) := by
  intro pins s σ H Q I h
  refine wpAny_Call_method0_late hbase hline (thn (ho pins s σ H _ I h) fun v s1 ⟨x, H1, I1, r1, ty, q1⟩ => ?_)
  obtain ⟨h1, h2⟩ := tyV_is I1 r1 ty
  exact ⟨T, id, pa, slot, hty, h1, h2, Calls.callWith_builtin rfl (PySem.evalArgs_none (hm pins s1 σ H1 x [] v [] Q I1 r1 .nil q1))⟩
theorem pe_bm (pa : PlainAttrs T) (slot : Slot T name id) (hty : typeOf (.builtin id) = pure (.type "method_descriptor")) (hm : MtR X id r) (ho : PE X o to) (ha : PA X (e :: es) t)
    (hbase : attributeBase o name X.env (eval o X.env) = eval o X.env := by rfl)
    (hfew : ((backTo cpos (starEach (e :: es) X.env)).all (fun x => !x.1) && (backToKw cpos (keywordEach [] X.env)).all (fun x => x.1.isSome)
      && decide ((e :: es).length + ([] : List Keyword).length + (if ([] : List Keyword).isEmpty then 0 else 1) < 30)) = true := by rfl)
    (hline : (apos.endLine == cpos.line) = true := by rfl) (hs : starEach (e :: es) X.env = (false, eval e X.env) :: starEach es X.env := by rfl) (hplain : (backTo cpos (starEach es X.env)).any (·.1) = false := by rfl) :
    PE X (.Call (.Attribute o name apos) (e :: es) [] cpos) (tBM X.K T r to t) := by
  intro pins s σ H Q I h
  refine wpAny_Call_method_late hbase hfew hline rfl (thn (ho pins s σ H _ I h) fun v s1 ⟨x, H1, I1, r1, ty, q1⟩ => ?_)
  obtain ⟨h1, h2⟩ := tyV_is I1 r1 ty
  refine ⟨T, id, pa, slot, hty, h1, h2, ?_⟩
  have hA := ha cpos pins s1 σ H1 _ I1 q1
  rw [hs] at hA ⊢
  refine Calls.callWith_builtin (by show (false || (backTo cpos (starEach es X.env)).any (·.1)) = false; rw [hplain] <;> rfl) (Calls.evalArgs_plain ?_)
  exact thn hA fun us s2 ⟨vs, H2, I2, r2, q2⟩ => hm pins s2 σ H2 x vs v us Q I2 r1 r2 q2
/- xs.append(e), list.index on a module's tuple .. are MtR facts of 06m -/
end
end L2

namespace L2
open PySem PySem.Spec PyProof.Rows

def MtM (X : Cx) (id : String) (r : V → List V → Hp → VK → Prop) : Prop :=
  ∀ (pins : List (Addr × Obj)) (s : Shared) (σ : St) (H : Hp) (x : V) (xs : List V) (v : Value) (us : List Value) (Q : VK), Inv X pins σ H s → RelV x v → Vals xs us → r x xs H Q →
    wpAny (model X.prog X.w) X.A (call (.builtin id) (v :: us)) (EP X pins σ Q) X.xe s

/-! ### lists of values -/
theorem Vals.one : ∀ {x : V} {us : List Value}, Vals [x] us → ∃ u, us = [u] ∧ RelV x u
  | _, _, .cons r .nil => ⟨_, rfl, r⟩
theorem Vals.two : ∀ {x y : V} {us : List Value}, Vals [x, y] us → ∃ u v, us = [u, v] ∧ RelV x u ∧ RelV y v
  | _, _, _, .cons r (.cons q .nil) => ⟨_, _, rfl, r, q⟩
theorem Vals.zero : ∀ {us : List Value}, Vals [] us → us = []
  | _, .nil => rfl
theorem Vals.dropLast {xs : List V} {us : List Value} (h : Vals xs us) : Vals xs.dropLast us.dropLast := by
  induction h with
  | nil => exact .nil
  | cons r t ih =>
    cases t with
    | nil => exact .nil
    | cons q t' => exact .cons r ih
theorem Vals.eraseIdx : ∀ {xs : List V} {us : List Value} (i : Nat), Vals xs us → Vals (xs.eraseIdx i) (us.eraseIdx i)
  | _, _, _, .nil => .nil
  | _, _, 0, .cons _ t => t
  | _, _, i + 1, .cons r t => .cons r (Vals.eraseIdx i t)
theorem Vals.reverse {xs : List V} {us : List Value} (h : Vals xs us) : Vals xs.reverse us.reverse := by
  induction h with
  | nil => exact .nil
  | cons r t ih => rw [List.reverse_cons, List.reverse_cons]; exact Vals.append ih (.cons r .nil)
theorem Vals.rep {xs : List V} {us : List Value} (h : Vals xs us) : ∀ k : Nat, Vals (List.replicate k xs).flatten (List.replicate k us).flatten
  | 0 => .nil
  | k + 1 => by
    rw [List.replicate_succ, List.replicate_succ, List.flatten_cons, List.flatten_cons]
    exact Vals.append h (Vals.rep h k)
theorem foldl_rep (its : List Value) : ∀ (k : Nat) (acc : List Value),
    List.foldl (fun x1 x2 => x1 ++ x2) acc.toArray (List.replicate k its.toArray) = (acc ++ (List.replicate k its).flatten).toArray
  | 0, acc => by simp
  | k + 1, acc => by
    have e : acc.toArray ++ its.toArray = (acc ++ its).toArray := by simp
    have e2 : (acc ++ its) ++ (List.replicate k its).flatten = acc ++ (List.replicate (k + 1) its).flatten := by
      rw [List.replicate_succ, List.flatten_cons, List.append_assoc]
    rw [← e2, ← foldl_rep its k (acc ++ its), ← e, List.replicate_succ, List.foldl_cons]

section
variable {X : Cx} {pins : List (Addr × Obj)} {σ : St} {H : Hp} {s : Shared} {l b : Addr} {xs ys zs : List V}

/-! ### the two steps: a tracked list is rewritten, a new list is laid -/
theorem Inv.lset {its its' : List Value} {n : Nat} {f : Array Value → Array Value} {t' : Nat} (I : Inv X pins σ H s) (hH : H l = some (.lst xs))
    (e : s.heap.get? l = some { cls := .type "list", data := .seq its.toArray n }) (hf : f its.toArray = its'.toArray) (hv : Vals ys its') (hz : ys.length ≤ sizeLine) :
    Inv X pins σ (upd H l (.lst ys)) { s with heap := s.heap.update l (Obj.mapSeq f), toks := t' } := by
  have q := PySem.IsL.update e f
  rw [hf] at q
  refine I.write (x := l) (e := l) (by rw [hH]; exact trivial) (.inl rfl) (fun b' u hb hu => (Heap.get?_update_other s.heap (Obj.mapSeq f) (Ne.symm hb)).trans hu) ⟨_, q⟩ ?_
  exact ⟨hz, its', _, hv, q⟩
theorem Inv.lnew {its : List Value} {t' : Nat} (I : Inv X pins σ H s) (hv : Vals ys its) (hz : ys.length ≤ sizeLine) :
    Inv X pins σ (upd H s.heap.objs.size (.lst ys)) { s with heap := s.heap.push { cls := .type "list", data := .seq its.toArray }, toks := t' } :=
  I.laid (fun _ _ q => Heap.get?_push_of_some _ q) (Nat.le_refl _) ⟨hz, its, 0, hv, Heap.get?_push_size _ rfl⟩
theorem Inv.fresh (I : Inv X pins σ H s) : H s.heap.objs.size = none := I.hok.fresh (Nat.le_refl _)
theorem Inv.lstM (I : Inv X pins σ H s) (hH : H l = some (.lst xs)) : xs.length ≤ sizeLine ∧ ∃ (its : List Value) (n : Nat), Vals xs its ∧ xs.length = its.length ∧ s.heap.get? l = some { cls := .type "list", data := .seq its.toArray n } := by
  obtain ⟨z, its, n, r, e⟩ := I.hok l _ hH
  exact ⟨z, its, n, r, r.length, e⟩

theorem notLongL {n : Nat} (h : n ≤ sizeLine) : Builtin.List.listTooLong n = false := by
  unfold Builtin.List.listTooLong
  exact decide_eq_false (by omega)
end

section
variable {X : Cx}

/-! ### methods -/
def rAppend : V → List V → Hp → VK → Prop := fun x vs H Q => ∃ l xs y, x = .ref l ∧ vs = [y] ∧ H l = some (.lst xs) ∧ xs.length < sizeLine ∧ Q .non (upd H l (.lst (xs ++ [y])))
theorem mt_append : MtM X "list.append" rAppend := by
  intro pins s σ H x vs v us Q I rx rv h
  obtain ⟨l, xs, y, rfl, rfl, hH, hz, q⟩ := h
  cases rx
  obtain ⟨u, rfl, ru⟩ := rv.one
  obtain ⟨z, its, n, r, hl, e⟩ := I.lstM hH
  refine call_meets F.slot_list_append ⟨_, e, rfl⟩ F.entry_list_append (F.args_list_append_2 _ _) (PySem.list_append l its.toArray n u (by rw [List.size_toArray]; omega)) ⟨e, ?_⟩
  refine ⟨.non, _, I.lset (its' := its ++ [u]) hH e (by simp) (r.append (.cons ru .nil)) ?_, rfl, q⟩
  rw [List.length_append, List.length_singleton]
  omega

def rExtend : V → List V → Hp → VK → Prop := fun x vs H Q => ∃ l b xs zs, x = .ref l ∧ vs = [.ref b] ∧ H l = some (.lst xs) ∧ H b = some (.lst zs) ∧ xs.length + zs.length ≤ sizeLine ∧ Q .non (upd H l (.lst (xs ++ zs)))
def rPop : V → List V → Hp → VK → Prop := fun x vs H Q => ∃ l xs y, x = .ref l ∧ vs = [] ∧ H l = some (.lst xs) ∧ xs[xs.length - 1]? = some y ∧ Q y (upd H l (.lst xs.dropLast))
def rPopAt : V → List V → Hp → VK → Prop := fun x vs H Q => ∃ l xs i k y, x = .ref l ∧ vs = [.int i] ∧ H l = some (.lst xs) ∧ -(2 ^ 63) ≤ i ∧ i < 2 ^ 63 ∧ seqIndex? i xs.length = some k ∧ xs[k]? = some y ∧ Q y (upd H l (.lst (xs.eraseIdx k)))
def rReverse : V → List V → Hp → VK → Prop := fun x vs H Q => ∃ l xs, x = .ref l ∧ vs = [] ∧ H l = some (.lst xs) ∧ Q .non (upd H l (.lst xs.reverse))
theorem mt_reverse : MtM X "list.reverse" rReverse := by
  intro pins s σ H x vs v us Q I rx rv h
  obtain ⟨l, xs, rfl, rfl, hH, q⟩ := h
  cases rx
  have hus := rv.zero
  subst hus
  obtain ⟨z, its, n, r, hl, e⟩ := I.lstM hH
  refine call_meets F.slot_list_reverse ⟨_, e, rfl⟩ F.entry_list_reverse (F.args_list_reverse_1 _) (AutoSeq1.list_reverse_list_0 l its.toArray n (by rw [List.size_toArray]; omega)) ⟨e, ?_⟩
  refine ⟨.non, _, I.lset (its' := its.reverse) hH e (by simp) r.reverse ?_, rfl, q⟩
  rw [List.length_reverse]
  omega

def rClear : V → List V → Hp → VK → Prop := fun x vs H Q => ∃ l xs, x = .ref l ∧ vs = [] ∧ H l = some (.lst xs) ∧ Q .non (upd H l (.lst []))
theorem mt_clear : MtM X "list.clear" rClear := by
  intro pins s σ H x vs v us Q I rx rv h
  obtain ⟨l, xs, rfl, rfl, hH, q⟩ := h
  cases rx
  have hus := rv.zero
  subst hus
  obtain ⟨z, its, n, r, hl, e⟩ := I.lstM hH
  refine call_meets F.slot_list_clear ⟨_, e, rfl⟩ F.entry_list_clear (F.args_list_clear_1 _) (AutoSeq1.list_clear_list_0 l its.toArray n (by rw [List.size_toArray]; omega)) ⟨e, ?_⟩
  exact ⟨.non, _, I.lset (its' := []) (ys := []) hH e rfl .nil (Nat.zero_le _), rfl, q⟩

/-! ### list + list, list += list, list * int -/
def rCat : R2 := fun x y H Q => ∃ l b xs zs, x = .ref l ∧ y = .ref b ∧ H l = some (.lst xs) ∧ H b = some (.lst zs) ∧ xs.length + zs.length ≤ sizeLine ∧ ∀ p, H p = none → Q (.ref p) (upd H p (.lst (xs ++ zs)))
theorem op_cat : OpR X (binaryOp .Add) rCat := by
  intro pins s σ H x y v u Q I rx ry h
  obtain ⟨l, b, xs, zs, rfl, rfl, hH, hB, hz, q⟩ := h
  cases rx
  cases ry
  obtain ⟨z, its, n, r, hl, e⟩ := I.lstM hH
  obtain ⟨z2, its2, n2, r2, hl2, e2⟩ := I.lstM hB
  refine PySem.P.add_list e e2 ?_ (by rw [List.size_toArray, List.size_toArray]; omega)
  have ea : its.toArray ++ its2.toArray = (its ++ its2).toArray := by simp
  rw [ea]
  exact ⟨.ref _, _, I.lnew (t' := s.toks) (r.append r2) (by rw [List.length_append]; omega), rfl, q _ I.fresh⟩
/-- a list times an int (a negative one is nothing) -/
def rRep : R2 := fun x y H Q => ∃ l k xs, x = .ref l ∧ y = .int k ∧ H l = some (.lst xs) ∧ -(2 ^ 63) ≤ k ∧ k < 2 ^ 63 ∧ xs.length * k.toNat ≤ sizeLine ∧
  ∀ p, H p = none → Q (.ref p) (upd H p (.lst (List.replicate k.toNat xs).flatten))
theorem len_rep {α : Type} (xs : List α) (k : Nat) : (List.replicate k xs).flatten.length = k * xs.length := by
  induction k with
  | zero => simp
  | succ k ih => rw [List.replicate_succ, List.flatten_cons, List.length_append, ih, Nat.succ_mul, Nat.add_comm]
theorem op_rep : OpR X (binaryOp .Mult) rRep := by
  intro pins s σ H x y v u Q I rx ry h
  obtain ⟨l, k, xs, rfl, rfl, hH, h1, h2, hz, q⟩ := h
  cases rx
  obtain ⟨t, rfl⟩ := ry
  obtain ⟨z, its, n, r, hl, e⟩ := I.lstM hH
  have hlen : its.toArray.size * k.toNat ≤ sizeLine := by rw [List.size_toArray, ← hl]; exact hz
  have hcap : ¬ its.toArray.size * k.toNat > (2 ^ 63 - 1) / 8 := by
    have : (sizeLine : Nat) ≤ (2 ^ 63 - 1) / 8 := by decide
    omega
  have hfit : ¬ (!Builtin.List.listFitsIndex k) = true := by
    rw [fitsIndex_both h1 h2]
    exact Bool.false_ne_true
  have hlong : ¬ Builtin.List.listTooLong (its.toArray.size * k.toNat) = true := by
    rw [notLongL hlen]
    exact Bool.false_ne_true
  have hnew : List.foldl (fun x1 x2 => x1 ++ x2) #[] (List.replicate (if its.toArray.isEmpty = true then 0 else k.toNat) its.toArray) = (List.replicate k.toNat its).flatten.toArray := by
    have f0 : ∀ m : Nat, List.foldl (fun x1 x2 => x1 ++ x2) #[] (List.replicate m its.toArray) = (List.replicate m its).flatten.toArray := fun m => by
      have := foldl_rep its m []
      rw [List.nil_append] at this
      exact this
    rw [f0]
    cases its with
    | nil => simp
    | cons a r' => rw [if_neg (by simp)]
  refine wpAny_binaryOp_repeat_ref (T := "list") (U := "int") (by decide) ⟨_, e, rfl⟩ (fun s' => typeIs_int s' k t) noFill_list_mul F.fills_int_mul F.slot_int_rmul repeat_list F.slot_int_index.lookup
    (call_meets F.slot_int_rmul (typeIs_int s k t) F.entry_int_rmul (F.args_int_rmul_2 _ _) (int___rmul___int_list k t l its.toArray n)
      ⟨e, rfl, ⟨_, e, rfl⟩, call_meets F.slot_list_mul ⟨_, e, rfl⟩ F.entry_list_mul (F.args_list_mul_2 _ _) (AutoListH.list___mul___list_int_3 l its.toArray n k t hfit hcap hlong) ⟨e, ?_⟩⟩)
  rw [hnew]
  exact ⟨.ref _, _, I.lnew (t' := s.toks) (r.rep k.toNat) (by rw [len_rep, Nat.mul_comm]; exact hz), rfl, q _ I.fresh⟩

/-! ### del xs[i] -/
end

/-! ### xs[a:b] = ys -/
section
variable {prog : Program} {w : World} {A : Around} {E : Value → Shared → Prop} {s : Shared}
set_option maxRecDepth 100000 in
end

section
variable {X : Cx}
end
end L2

namespace Att
open PySem PySem.W PySem.Calls PyProof.Rows

/-! ### the script -/
theorem ints_of_wellAll {P : Params} {h : Heap} : ∀ (ns : List Int) (vs : List Value), WellAll P h vs (ns.map WData.int) → IntsAre vs ns := by
  intro ns
  induction ns with
  | nil =>
    intro vs w
    rw [List.map_nil] at w
    cases w
    exact .nil
  | cons n ns ih =>
    intro vs w
    rw [List.map_cons] at w
    cases w with
    | cons a b =>
      cases a
      exact .cons _ _ (ih _ b)

theorem script_of {l : OpenLaw} {n : Nat} (hn : l.most = some n) {P : Params} {h : Heap} {args : List WData} {vals : List Value}
    (hpre : l.row.toRowW.claim.pre args = true) (hwl : WellAll P h vals args) :
    ∃ a vs ns, vals = [Value.ref a] ∧ args = [WData.list (ns.map WData.int)] ∧ h.get? a = some { cls := .type "list", data := .seq vs.toArray } ∧ IntsAre vs ns ∧ ns.length ≤ n := by
  have hsh : WShape.hasAll [] args [.list .int] = true := (pre_splitW hpre).1
  have hc : l.pre.holds [] { args := args } = true := (pre_splitW hpre).2
  obtain ⟨d, r, rfl, h1, h2⟩ := hasAllW_cons hsh
  obtain rfl := hasAllW_nil h2
  obtain ⟨xs, rfl, h3⟩ := hasW_list h1
  obtain ⟨ns, rfl⟩ := items_int h3
  have hlen : ns.length ≤ n := by
    unfold OpenLaw.pre at hc
    have h4 : (WTm.not (.lt (.lit (.int (n : Int))) (.len (.arg 0)))).holds [] { args := [.list (ns.map .int)] } = true := by
      have h4 := (holds_andW hc).1
      rw [hn] at h4
      exact h4
    have h5 := condW_of h4 (w_not (w_lt w_lit (w_len_list (w_arg rfl))))
    rw [List.length_map] at h5
    refine Nat.le_of_not_lt fun q => ?_
    have q' : (n : Int) < ((ns.length : Nat) : Int) := by omega
    first
      | (rw [decide_eq_true q'] at h5; exact absurd h5 (by decide))
      | (simp at h5; omega)
  cases hwl with
  | cons w1 w2 =>
    cases w2
    cases w1 with
    | list ho hall => exact ⟨_, _, ns, rfl, rfl, ho, ints_of_wellAll ns _ hall, hlen⟩

theorem post_true (l : OpenLaw) (args : List WData) : l.row.toRowW.claim.post args (.bool true) args = true :=
  postW_of (r := l.row.toRowW) (X := (true == true))
    (show WShape.has [] (.bool true) .bool = true by first | rfl | decide | simp [WShape.has, WShape.arms, WShape.armsAll])
    (show (WTm.eq .res (.lit (.bool true))).value [] { args := args, res := some (.bool true), after := args } = some (.bool (true == true)) from w_eq_bool (w_res rfl) w_lit) rfl

/-! ### the attachment: holds_open's last premise (the goal 'hc' behind k_head) from a wpAny of the law's body -/
/-- the same from a codeAny of the CALL (for a layer whose function contracts speak of calls) -/
theorem attach_call {l : OpenLaw} {n : Nat} {q : Program} {loose : List Str} {XP : (Str → Option Value) → Heap → Prop} {YP : World → Heap → Prop} {d : DefRec}
    (hn : l.most = some n) (hdf : d.params.defaults = [])
    (call : ∀ (w : World) (s₀ s₁ : Shared) (mg mb : Str → Option Value) (fa : Addr) (o : Obj) (pm cd doc : Value) (a : Addr) (vs : List Value) (ns : List Int),
      Ground q loose [] XP w s₀ mg mb s₁.heap → YP w s₁.heap →
      s₁.heap.get? fa = some o → o.data = .func (docDef d.name d.params d.body d.scope pm cd doc) → s₁.heap.CodeRec cd d.name → mg d.name = some (.ref fa) →
      s₁.heap.get? a = some { cls := .type "list", data := .seq vs.toArray } → IntsAre vs ns → ns.length ≤ n → s₁.gens = #[] →
      codeAny (model l.prog w) callerA (.call (.ref fa) ⟨[.ref a], []⟩) (fun r s' => r = .ok (.ret (.bool true)) ∧ OldK s₁.heap s'.heap ∧ s'.os = s₁.os ∧ AllBare s'.gens) s₁) :
    WalkO q loose XP YP l.row.toRowW d [] (fun f vs => PySem.call f vs) := by
  intro w s₀ s₁ mg mb G Y fa o pm cd doc dV kV ho hd hcd hD hmg hg args vals as hpre hlay hrd hwl hlo
  obtain rfl : dV = .none := Dflts.none hD hdf
  obtain rfl : kV = .none := Dflts.noKw hD
  obtain ⟨a, vs, ns, rfl, rfl, hobj, hints, hlen⟩ := script_of hn hpre hwl
  refine enter_call (codeAny_mono (call w s₀ s₁ mg mb fa o pm cd doc a vs ns G Y ho (fd_plain hd) hcd hmg hobj hints hlen hg) fun r s' hq => ?_)
  obtain ⟨rfl, h2, h3, h4⟩ := hq
  exact ⟨.inl ⟨.bool true, .bool true, [], rfl, fun _ => rfl, .bool true, post_true l _, fun _ => ⟨List.Pairwise.nil, fun _ hm => (nomatch hm)⟩⟩, h2, h3, h4⟩

/-! ### rules over ANY heap (no ledger) from facts about the written part K: the library's own take a ledger (News) for what they write -/
section
variable {prog : Program} {w : World} {A : Around} {E : Value → Shared → Prop} {s : Shared} {K : Frag}

/-! the whole heap as the ledger: makes every rule that writes through a ledger a rule over any heap -/
def noObjs (h : Heap) : Heap := { h with objs := #[] }
def ledger (h : Heap) (L d : Addr) : List (Addr × Obj) := (List.range h.objs.size).filterMap fun a => if a = L ∨ a = d then none else (h.get? a).map fun o => (a, o)
end
end Att

namespace L2
open PySem PySem.Spec PyProof.Rows

theorem vals_ints : ∀ {vs : List Value} {ns : List Int}, IntsAre vs ns → Vals (ns.map V.int) vs
  | _, _, .nil => .nil
  | _, _, .cons n t h => .cons ⟨t, rfl⟩ (vals_ints h)

/-- nothing is tracked but the script, known to the object (or it is an object of the module) -/
def Only (H : Hp) : Prop := ∀ b, H b = none ∨ ∃ o xs, H b = some (.frz o (.lst xs))

/-- THE HEAD: the law's promise, at the heap behind the top. F, the promise of the law's def, may use that base is part of the heap (so K.In base, base.Ns mainGlobals mg stand in Mod) -/
theorem law_call {P : Program} {w : World} {K : PySem.W.Frag} {mg mb : Str → Option Value} {CX : CXT} {k : Nat} {fa a : Addr} {fd : FuncData} {x : Str} {sp : Sp} {s₁ : Shared} {vs : List Value} {ns : List Int}
    (KX : K.In s₁.heap) (hns : s₁.heap.Ns mainGlobals mg) (hb : s₁.heap.Ns builtinsNs mb) (hbb : ∀ x : Str, x ≠ "__name__" → mb x = bootBuiltins x) (hlim : s₁.heap.NoLimit) (hg : s₁.gens = #[])
    (ha : s₁.heap.get? a = some { cls := .type "list", data := .seq vs.toArray }) (hi : IntsAre vs ns) (hl : ns.length ≤ sizeLine) (hr : Room k callerA)
    (F : ∀ base : Heap, K.In base → base.Ns mainGlobals mg → FnOk P w K mg base CX k fa fd [x] sp) (hbind : ∀ (s : Shared) (u : Value), BindsTo s fd ⟨[u], []⟩ [(x, u)])
    (hsp : ∀ H : Hp, Only H → SqL K H a (ns.map V.int) → sp [.ref a] H (fun v _ => v = .bl true) fun _ _ _ => False)
    (hCX : ∀ H e s', CX [] H s₁ (fun _ _ _ => False) e s' → False) :
    codeAny (model P w) callerA (.call (.ref fa) ⟨[.ref a], []⟩) (fun r s' => r = .ok (.ret (.bool true)) ∧ OldK s₁.heap s'.heap ∧ s'.os = s₁.os ∧ AllBare s'.gens) s₁ := by
  have rv := vals_ints hi
  have lenV := hi.length
  -- from an abstract heap in which nothing but the script may be tracked
  have core : ∀ H : Hp, Only H → SqL K H a (ns.map V.int) → HOk P w H s₁.heap → (∀ b, H b ≠ none → b = a) → (H a ≠ none → K.lookup a = none) →
      codeAny (model P w) callerA (.call (.ref fa) ⟨[.ref a], []⟩) (fun r s' => r = .ok (.ret (.bool true)) ∧ OldK s₁.heap s'.heap ∧ s'.os = s₁.os ∧ AllBare s'.gens) s₁ := by
    intro H hO hS hok hA hK
    have base_of : ∀ {b : Addr} {o : Obj}, s₁.heap.get? b = some o → H b = none → (hidT s₁.heap H).get? b = some o := fun e n => hidT_get e n
    have noA : ∀ {b : Addr} {o : Obj} {es : Array DictEntry} {ep : Nat}, s₁.heap.get? b = some o → o.data = .dict es ep → H b = none := fun {b o es ep} e d => by
      cases q : H b with
      | none => rfl
      | some u =>
        have e' : b = a := hA b (by rw [q]; simp)
        subst e'
        rw [ha] at e; cases e
        have d' : Data.seq vs.toArray _ = Data.dict es ep := d
        cases d'
    have nsK : ∀ {b : Addr} {m : Str → Option Value}, s₁.heap.Ns b m → (hidT s₁.heap H).Ns b m := fun {b m} ⟨o, es, ep, e, d, r⟩ => ⟨o, es, ep, base_of e (noA e d), d, r⟩
    have hKb : K.In (hidT s₁.heap H) := fun b o e => base_of (KX b o e) (by
      cases q : H b with
      | none => rfl
      | some u =>
        have e' : b = a := hA b (by rw [q]; simp)
        subst e'
        rw [hK (by rw [q]; simp)] at e; cases e)
    have hM : Mod K mg (hidT s₁.heap H) := ⟨hKb, nsK hns, ⟨mb, nsK hb, hbb⟩, let ⟨mc, h1, h2⟩ := hlim; ⟨mc, nsK h1, h2⟩⟩
    have e0 : Env0 P w K mg (hidT s₁.heap H) callerA [] s₁ H := ⟨rfl, hM, fun b o e => of_hidT e, Nat.le_of_eq (hidT_size _ _), trivial, fun b hb => absurd (show b ∈ ([] : List Addr) from hb) (by simp), hok, .of_eq hg, .inl rfl⟩
    refine codeAny_mono ((F _ hKb (nsK hns)).run callerA [] s₁ H ⟨[.ref a], []⟩ [.ref a] [.ref a] _ _ hr e0 (hbind s₁ (.ref a)) (.cons rfl .nil) (hsp H hO hS)) fun r s' h => ?_
    cases r with
    | error e => exact (hCX H e s' h).elim
    | ok fl =>
      cases fl with
      | next => exact False.elim h
      | brk => exact False.elim h
      | cont => exact False.elim h
      | ret u =>
        obtain ⟨v, H', os, bare, un, hok', r', q⟩ := h
        have q' : v = .bl true := q
        subst q'
        obtain rfl : u = Value.bool true := r'
        refine ⟨rfl, OldK.of_keep fun b o e => ?_, os, bare⟩
        cases q : H b with
        | none => exact un.keep b o e q (by intro z; exact absurd (show b ∈ ([] : List Addr) from z) (by simp)) (by simp)
        | some u =>
          rcases hO b with z | ⟨ob, xs, z⟩
          · rw [q] at z; cases z
          · have z2 := un.frzs b ob _ z
            obtain ⟨e1, _⟩ := hok b _ z
            obtain ⟨e2, _⟩ := hok' b _ z2
            rw [e] at e1; cases e1
            exact e2
  cases hk : K.lookup a with
  | some o =>
    -- the script is one of the module's own objects
    have e := KX a o hk
    rw [ha] at e
    cases e
    refine core (fun _ => none) (fun _ => .inl rfl) (.inr ⟨_, vs.toArray, _, hk, rfl, rfl, rfl, by rw [List.size_toArray, lenV]; exact hl, by simpa using rv⟩) (fun b u z => by have z' : (none : Option HO) = some u := z; cases z') (fun b z => absurd rfl z) fun z => absurd rfl z
  | none =>
    refine core (fun b => if b = a then some (.frz { cls := .type "list", data := .seq vs.toArray } (.lst (ns.map V.int))) else none) (fun b => ?_) (.inl (.inr ⟨{ cls := .type "list", data := .seq vs.toArray }, if_pos rfl⟩)) (fun b u z => ?_) (fun b z => ?_) fun _ => hk
    · by_cases hb : b = a
      · exact .inr ⟨_, _, if_pos hb⟩
      · exact .inl (if_neg hb)
    · by_cases hb : b = a
      · have z' := (if_pos hb).symm.trans z
        cases z'
        subst hb
        exact ⟨ha, by rw [List.length_map]; exact hl, vs, _, rv, ha⟩
      · have z' := (if_neg hb).symm.trans z
        cases z'
    · by_cases hb : b = a
      · exact hb
      · exact absurd (if_neg hb) z
end L2

namespace L2
open PySem PySem.Spec PyProof.Rows

abbrev KOf {K : PySem.W.Frag} {h : Heap} (_ : K.In h) : PySem.W.Frag := K

/-- the goal that k_head leaves (case hc), from the law's promise. F gives the function object fd (K's own) once, then the promise over every base -/
theorem walk_of {l : PySem.W.OpenLaw} {n k : Nat} {q : Program} {loose : List Str} {XP : (Str → Option Value) → Heap → Prop} {YP : World → Heap → Prop} {d : DefRec} {K : Params → PySem.W.Frag} {CX : World → CXT} {sp : World → Sp} {x : Str}
    (hn : l.most = some n) (hn2 : n ≤ sizeLine) (hdf : d.params.defaults = []) (hr : Room k callerA)
    (hY : ∀ (w : World) (h : Heap), YP w h → (K w.params).In h)
    (F : ∀ (w : World) (mg : Str → Option Value) (fa : Addr) (h : Heap), (K w.params).In h → h.Ns mainGlobals mg → mg d.name = some (.ref fa) →
      ∃ fd : FuncData, (∀ (s : Shared) (u : Value), BindsTo s fd ⟨[u], []⟩ [(x, u)]) ∧
        ∀ base : Heap, (K w.params).In base → base.Ns mainGlobals mg → FnOk l.prog w (K w.params) mg base (CX w) k fa fd [x] (sp w))
    (hsp : ∀ (w : World) (H : Hp) (a : Addr) (ns : List Int), ns.length ≤ n → Only H → SqL (K w.params) H a (ns.map V.int) → sp w [.ref a] H (fun v _ => v = .bl true) fun _ _ _ => False)
    (hCX : ∀ (w : World) (H : Hp) (s : Shared) (e : Value) (s' : Shared), CX w [] H s (fun _ _ _ => False) e s' → False) :
    PySem.W.WalkO q loose XP YP l.row.toRowW d [] (fun f vs => PySem.call f vs) := by
  refine Att.attach_call hn hdf fun w s₀ s₁ mg mb fa o pm cd doc a vs ns G Y ho hd hcd hmg hobj hints hlen hg => ?_
  have KX := hY w _ Y
  obtain ⟨fd, hb, hF⟩ := F w mg fa _ KX G.T.g hmg
  exact law_call KX G.T.g G.T.b G.T.builtins G.T.nolimit hg hobj hints (Nat.le_trans hlen hn2) hr hF hb (fun H hO hS => hsp w H a ns hlen hO hS) fun H e s' => hCX w H s₁ e s'
end L2

/- THE LAST THEOREM (shape; LID, My.* are yours):
   My.Adr: a structure of the addresses that your layer names (classes, functions); My.Txt K t: a structure (Prop) of the equations over K;
   My.txt_mk : {K} {implicit addresses ..} (e1 : nsIn K mainGlobals "law" = some (some (.ref f))) (e2 : K.lookup f = some ⟨oc, od, .func (fnOf "law" "law" params body scope dV kV doc pm an cdv ct), sl⟩) (e3 : codeIn K cdv "law" = true) .. : ∃ t, My.Txt K t

set_option maxRecDepth 100000 in
set_option maxHeartbeats 0 in
theorem PySem.Challenge.cw_LID_holds : PySem.Challenge.rw_LID.Holds := by
  w_on; o_law; k_head; (case hw => w_witness2)
  k_fill
  refine L2.walk_of (l := PySem.Challenge.rw_LID) (n := 63) (k := 40) (x := "script") (CX := fun w => ..) (sp := fun _ => My.sp_law) rfl (by decide) rfl ⟨rfl, by decide, by decide⟩ (fun w h Y => PySem.W.kIn_of Y) ?F ?S ?C
  case F =>
    intro w mg fa h KX G hmg
    have T : ∃ t, My.Txt (L2.KOf KX) t := by
      dsimp only [L2.KOf]                          -- K must stand as «<heap const> w.params» for k_is
      refine' My.txt_mk ?e1 ?e2 ?e3 ..
      (case e1 => PySem.W.k_is)                    -- in the order: a name -> its address -> its object -> its parts
      (case e2 => PySem.W.k_is)
      ..
    obtain ⟨t, T⟩ := T
    have e0 := hmg.symm.trans (PySem.W.mg_of KX G T.law)
    cases e0                                       -- fa is the law's own address
    exact ⟨_, fun s u => .of_eq rfl, fun base kb nb => My.law_fn T kb nb⟩     -- if «.of_eq rfl» comes too early: refine' ⟨_, ?b, fun base kb nb => My.law_fn T kb nb⟩; exact fun s u => .of_eq rfl
  case S => exact fun w H a ns hl hO hS => ..
  case C => exact ..
(the tactic k_is has no namespace: write k_is) -/

/-! SHORT WORDS over the layer: a def of the text, its body, what a loop and a test want. -/
namespace L2
open PySem PySem.Spec PyProof.Rows

/-! ### the text by places -/
/-- the j-th statement of a class's body -/
def inClass (s : Stmt) (j : Nat) : Stmt := match s with
  | .ClassDef _ _ _ body _ _ _ _ _ _ _ => body.getD j (.Pass ⟨0, 0, 0, 0⟩)
  | _ => .Pass ⟨0, 0, 0, 0⟩
def defArgs (s : Stmt) : Arguments := match s with
  | .FunctionDef _ a _ _ _ _ _ _ _ _ => a
  | _ => { posonlyargs := [], args := [], vararg := none, kwonlyargs := [], kw_defaults := [], kwarg := none, defaults := [] }
def defBody (s : Stmt) : List Stmt := match s with
  | .FunctionDef _ _ b _ _ _ _ _ _ _ => b
  | _ => []
def defScope (s : Stmt) : Scope := match s with
  | .FunctionDef _ _ _ _ _ _ sc _ _ _ => sc
  | _ => { kind := .function, names := [], isGenerator := false, isCoroutine := false }

/-! ### no exception leaves a def -/
abbrev CX0 : CXT := fun _ _ _ _ _ _ => False
abbrev E0 : XK := fun _ _ _ => False
theorem pass0 {X : Cx} : Passes CX0 X E0 := fun _ _ _ _ _ _ _ h => h.elim

/-! ### a def (or method) of the text as it stands behind the top -/
structure Fun (K : PySem.W.Frag) (x qual : Str) (st : Stmt) (f : Addr) (fd : FuncData) : Prop where
  ex : ∃ (oc : Value) (od : Option Addr) (kV doc pm : Value) (an : Option Addr) (cdv ct : Value) (osl : Array (Option Value)),
    fd = PySem.W.fnOf x qual (defArgs st) (defBody st) (defScope st) .none kV doc pm an cdv ct ∧ K.lookup f = some ⟨oc, od, .func fd, osl⟩ ∧ PySem.W.codeIn K cdv qual = true
  kp : PySem.W.keepIn K (.ref f) = true
section
variable {P : Program} {w : World} {K : PySem.W.Frag} {mg : Str → Option Value} {base : Heap}
/-- THE RULE for a def: its body as a term of rules, and the reading of that term -/
theorem Fun.ok {x qual : Str} {st : Stmt} {f : Addr} {fd : FuncData} {N ps : List Str} {k : Nat} {sp : Sp} (F : Fun K x qual st f fd) (S : FnScope N ps (defScope st)) (len : ∀ vs H Q E, sp vs H Q E → vs.length = ps.length)
    (hbody : ∀ (cdv : Value) (A : Around) (outer : List Env) (s : Shared) (H : Hp) (vs : List V) (Q : VK) (E : XK), Room k (A.deeper (envOfC qual (defScope st) s.heap.objs.size f cdv)) → sp vs H Q E →
      ∃ t, PSs (cxOf CX0 P w K mg base N qual (defScope st) f cdv A outer s H E).nox (defBody st) t ∧ t { nx := fun _ H' => Q .non H', rt := Q } (start N vs) H) : FnOk P w K mg base CX0 (k + 1) f fd ps sp := by
  obtain ⟨oc, od, kV, doc, pm, an, cdv, ct, osl, rfl, lk, hcd⟩ := F.ex
  refine fn_of lk hcd S len fun A outer s H vs Q E hr hsp => ?_
  obtain ⟨t, h, q⟩ := hbody cdv A outer s H vs Q E hr hsp
  exact ⟨t, h.nox, q⟩
/-- how its arguments bind (no defaults): h is «fun _ _ _ _ _ _ us hl => match us, hl with | [_, _], _ => rfl», one _ a parameter -/
theorem Fun.binds {x qual : Str} {st : Stmt} {f : Addr} {fd : FuncData} {ps : List Str} (F : Fun K x qual st f fd)
    (h : ∀ (kV doc pm : Value) (an : Option Addr) (cdv ct : Value) (us : List Value), us.length = ps.length → bindArgs (PySem.W.fnOf x qual (defArgs st) (defBody st) (defScope st) .none kV doc pm an cdv ct) ⟨us, []⟩ = pure (ps.zip us)) : Binds K fd ps [] := by
  obtain ⟨oc, od, kV, doc, pm, an, cdv, ct, osl, rfl, lk, hcd⟩ := F.ex
  exact .all (h kV doc pm an cdv ct)
theorem fun_mk {x qual : Str} {st : Stmt} {f : Addr} {oc : Value} {od an : Option Addr} {osl : Array (Option Value)} {kV doc pm cdv ct : Value} (l : K.lookup f = some ⟨oc, od, .func (PySem.W.fnOf x qual (defArgs st) (defBody st) (defScope st) .none kV doc pm an cdv ct), osl⟩)
    (c : PySem.W.codeIn K cdv qual = true) (k : PySem.W.keepIn K (.ref f) = true) : Fun K x qual st f (PySem.W.fnOf x qual (defArgs st) (defBody st) (defScope st) .none kV doc pm an cdv ct) := ⟨⟨oc, od, kV, doc, pm, an, cdv, ct, osl, rfl, l, c⟩, k⟩
end
theorem small1000 {n : Nat} (h : n ≤ 1000) : n < sizeLine := Nat.lt_of_le_of_lt h (by decide)

/-! ### expressions in short: the name that stands in the i-th slot -/
section
variable {X : Cx}
theorem pv (i : Nat) {x : Str} {pos : Pos} (hN : X.N[i]? = some x := by rfl) (hv : Vis X.env.scope x := by first | exact Or.inl rfl | exact Or.inr (Or.inl rfl) | exact Or.inr (Or.inr rfl)) (hd : (x == ("__debug__" : Str)) = false := by decide)
    (hcd : (x == ("__classdict__" : Str)) = false := by decide) : PE X (.Name x pos) (tVar i) := pe_var hN hv hd hcd
end

/-! ### tests -/
theorem iteF {A B : Prop} (h : B) : if false = true then A else B := by
  rw [if_neg Bool.false_ne_true]
  exact h
theorem iteT {A B : Prop} (h : A) : if true = true then A else B := by
  rw [if_pos rfl]
  exact h
theorem ite2 {c A B : Prop} [Decidable c] (h1 : c → A) (h2 : ¬ c → B) : if c then A else B := by
  by_cases h : c
  · rw [if_pos h]
    exact h1 h
  · rw [if_neg h]
    exact h2 h
theorem iteNS {c A B : Prop} [Decidable c] (hc : c) (h : B) : if (!decide c) = true then A else B := by
  rw [decide_eq_true hc]
  exact iteF h

/-! ### heaps -/
/-- all that was tracked is as it was -/
def Same (H H' : Hp) : Prop := ∀ b o, H b = some o → H' b = some o
theorem Same.refl (H : Hp) : Same H H := fun _ _ h => h
theorem Same.trans {H H1 H2 : Hp} (a : Same H H1) (b : Same H1 H2) : Same H H2 := fun c o h => b c o (a c o h)
theorem Same.free {H H' : Hp} (e : Same H H') {l : Addr} (h : H' l = Option.none) : H l = Option.none := by
  cases q : H l with
  | none => rfl
  | some o =>
    rw [e l o q] at h
    cases h
theorem Same.seq {K : PySem.W.Frag} {H H' : Hp} {a : Addr} {xs : List V} (e : Same H H') (h : SqL K H a xs) : SqL K H' a xs := by
  rcases h with (h | ⟨o, h⟩) | h
  · exact .inl (.inl (e _ _ h))
  · exact .inl (.inr ⟨o, e _ _ h⟩)
  · exact .inr h

end L2

set_option Elab.async false
set_option linter.all false
set_option maxRecDepth 100000
set_option maxHeartbeats 4000000
namespace L2
open PySem PySem.Spec PyProof.Rows

/-! ## my own rules: comprehensions, enumerate, sum, is not True, isinstance -/
/-- where a comprehension's element is reckoned: its names stand in a dict of their own -/
def cxComp (X : Cx) (N : List Str) (scope : Scope) (fp : List Addr) (s : Shared) (H : Hp) : Cx where
  prog := X.prog
  w := X.w
  K := X.K
  mg := X.mg
  base := X.base
  A := X.A
  N := N
  s₀ := s
  H₀ := H
  env := compEnv scope s.heap.objs.size X.env
  outer := X.stack
  stack := X.stack
  ex := fp
  fn := fun _ => true
  calm := X.calm
  pn := []
  xe := fun _ _ => False
section
variable {X : Cx} {pins : List (Addr × Obj)} {σ : St} {H : Hp} {s : Shared} {N : List Str} {scope : Scope} {fp : List Addr}
theorem comp_nocell {x : Str} {c : Addr} (e : (cxComp X N scope fp s H).env.cells.lookup x = some c) : False :=
  nomatch (show (none : Option Addr) = some c from e)
theorem inv_comp {h' : Heap} {t' : Nat} {m : Str → Option Value} (I : Inv X pins σ H s) (hkind : scope.kind = .function) (hfree : ∀ x ∈ scope.names, x.2 ≠ .free) (hcell : ∀ x ∈ scope.names, x.2 ≠ .cell)
    (hf : ∀ b ∈ fp, FpOk X pins H b) (hlt : ∀ b ∈ fp, b < s.heap.objs.size) (hn : h'.Ns s.heap.objs.size m) (hk : ∀ b o, s.heap.get? b = some o → h'.get? b = some o) :
    Inv (cxComp X N scope fp s H) [] (List.replicate N.length none) H { s with heap := h', toks := t' } := by
  refine ⟨⟨I.ok.mod, hkind, I.ok.glob, I.ok.blt, Nat.le_refl _, fun x y c e => (comp_nocell e).elim, fun x hx => ?_, fun x c _ e => (comp_nocell e).elim, I.qt, I.ok.frames, .inl rfl,
    fun b hb => ⟨Nat.ne_of_lt (hlt b hb), fun x c e => (comp_nocell e).elim⟩, I.bs, Nat.le_trans I.ok.bsz I.sz, fun b o e hb => ?_, fun b hb hs => ?_, I.stack, I.stkFree⟩,
    rfl, I.bare, Un.kept hk, ⟨m, hn, fun i x v h1 h2 => ?_⟩, fun x c e => (comp_nocell e).elim, I.hok.fresh (Nat.le_refl _), fun x c e => (comp_nocell e).elim, fun p hp => ?_, I.hok.kept hk, List.length_replicate⟩
  · have hx : scope.names.lookup x = some .cell ∨ scope.names.lookup x = some .free := hx
    rcases hx with hx | hx
    · exact absurd rfl (hcell _ (PySem.mem_of_lookup hx))
    · exact absurd rfl (hfree _ (PySem.mem_of_lookup hx))
  · rcases (hf b hb).2.2.2.1 with z | z
    · exact I.ok.noex b o e z
    · exact absurd (Nat.lt_of_lt_of_le (Heap.lt_size e) (Nat.le_trans I.ok.bsz z)) (Nat.lt_irrefl _)
  · rcases List.mem_cons.mp (I.stkSub b hs) with z | z
    · exact (hf b hb).2.1 z
    · exact (hf b hb).2.2.1 z
  · rw [List.getElem?_replicate] at h2
    split at h2 <;> cases h2
  · exact absurd (show p ∈ ([] : List (Addr × Obj)) from hp) (by simp)
/-- the comprehension is through: the def's own state again -/
theorem comp_back {pins' : List (Addr × Obj)} {σ' : St} {H' : Hp} {s' : Shared} (I : Inv X pins σ H s) (hf : ∀ b ∈ fp, FpOk X pins H b) (I' : Inv (cxComp X N scope fp s H) pins' σ' H' s') : Inv X pins σ H' s' :=
  I.call' (ch := fp) I'.os I'.base I'.hok I'.bare fun b hb => ⟨(hf b hb).2.2.2.1, (hf b hb).2.1, (hf b hb).2.2.2.2.1, (hf b hb).2.2.2.2.2⟩
end

section
variable {prog : Program} {w : World} {A : Around} {R : Result → Shared → Prop} {s : Shared}
/-- the loop of a comprehension, whatever its target -/
theorem comp_loop {elt target iter : Expr} {scope : Scope} {pos : Pos} {it acc : Value} {env : Env} (J : Nat → Shared → Prop)
    (turn : ∀ n z, J n z → wpAny (model prog w) A (pyNext it) (fun r z1 => match r with
      | none => R (.ok .next) z1
      | some v => wpAny (model prog w) A (letOwnedTupleGo target it v) (fun _ z2 => wpAny (model prog w) A (assign target env v) (fun _ z3 => wpAny (model prog w) A (eval elt env) (fun x z4 =>
          wpAny (model prog w) A (call (.builtin "list.append") [acc, x]) (fun _ z5 => ∃ m, m < n ∧ J m z5)
            (notedBy (model prog w) A env fun e s' => R (.error e) s') z4) (notedBy (model prog w) A env fun e s' => R (.error e) s') z3)
            (notedBy (model prog w) A env fun e s' => R (.error e) s') z2) (notedBy (model prog w) A env fun e s' => R (.error e) s') z1) (notedBy (model prog w) A env fun e s' => R (.error e) s') z)
    (n : Nat) (h : J n s) : codeAny (model prog w) A (.compLoop (.ListComp elt [⟨target, iter, [], 0⟩] scope pos) 0 it acc env) R s := by
  refine codeAny_loop rfl J (fun k z hz => ?_) n h
  show wpAny _ _ ((compTurn (.ListComp elt [⟨target, iter, [], 0⟩] scope pos) 0 it acc env).onRaise (fun q => do noteFrame q env; theTreesLotGoes q)) _ _ z
  refine wpAny_noted ?_
  rw [compTurn_list1]
  refine wpAny_bind (wpAny_standAt (wpAny_bind (wpAny_mono (turn k z hz) (fun r z1 g1 => ?_) fun _ _ q => q)))
  cases r with
  | none => exact wpAny_pure g1
  | some v =>
    refine wpAny_bind (wpAny_mono g1 (fun _ z2 g2 => wpAny_bind (wpAny_mono g2 (fun _ z3 g3 => ?_) fun _ _ q => q)) fun _ _ q => q)
    exact wpAny_bind (wpAny_bind (wpAny_mono g3 (fun x z4 g4 => wpAny_bind (wpAny_mono g4 (fun _ z5 g5 => wpAny_pure (wpAny_pure ⟨rfl, g5⟩)) fun _ _ q => q)) fun _ _ q => q))
end

/-- [elt for target in iter]: W by the turn, a measure, the list so far, the comprehension's names, the heap; l: where the list stands -/
def tComp (n : Nat) (wi : TI) (g : TG) (te : TE) : TE := fun σ H Q => wi σ H fun J H1 => ∀ l, H1 l = none → ∃ W : Nat → Nat → List V → St → Hp → Prop,
  (∃ m, W 0 m [] (List.replicate n none) (upd H1 l (.lst []))) ∧ ∀ i m ys σ' H', W i m ys σ' H' →
    (J.stop i H' ∧ Q (.ref l) H') ∨ (J.go i H' ∧ ∀ x H2, J.yld i H' x H2 → g x σ' H2 fun σ3 H3 => te σ3 H3 fun y H4 =>
      H4 l = some (.lst ys) ∧ ys.length < sizeLine ∧ ∃ m', m' < m ∧ W (i + 1) m' (ys ++ [y]) σ3 (upd H4 l (.lst (ys ++ [y]))))
section
variable {X : Cx} {N : List Str} {scope : Scope} {elt target iter : Expr} {pos : Pos} {wi : TI} {g : TG} {te : TE}
/-- name = [elt for target in iter] -/
def tSetC (i : Nat) (t : TE) : TS := fun D σ H => t σ H fun v H1 => D.nx (σ.set i (some v)) H1
end
/-! ### sum, is not True, isinstance -/
section
variable {X : Cx}
theorem call_isi : CallR X (.builtin "isinstance") (fun xs H Q => ∃ x c t b, xs = [x, .ty c] ∧ TyOf X.K H x t ∧ PySem.W.kitOne X.K t (.type c) = some b ∧ Q (.bl b) H) := by
  intro pins s σ H xs us Q I r h
  obtain ⟨x, c, t, b, rfl, ty, e, q⟩ := h
  obtain ⟨u, v, rfl, ru, rv⟩ := vals2 r
  cases rv
  exact isinst_ok I ru ty e fun tk => ⟨.bl b, H, I.tok tk, rfl, q⟩
end
end L2

set_option Elab.async false
set_option linter.all false
set_option maxRecDepth 100000
set_option maxHeartbeats 4000000
namespace L2
open PySem PySem.Spec PyProof.Rows
/-! ## more rules of my own: comprehensions that capture names, defs with defaults, small dicts, sets, lists compared -/
def cxCompC (X : Cx) (N : List Str) (scope : Scope) (cl : List (Str × Addr)) (fp : List Addr) (s : Shared) (H : Hp) : Cx where
  prog := X.prog
  w := X.w
  K := X.K
  mg := X.mg
  base := X.base
  A := X.A
  N := N
  s₀ := s
  H₀ := H
  env := compEnvC scope cl s.heap.objs.size X.env
  outer := X.stack
  stack := X.stack
  ex := fp
  fn := fun _ => false
  calm := X.calm
  pn := []
  xe := fun _ _ => False
/-- the captured names' values, by their slots in the def's own frame -/
def cap (js : List (Option Nat)) (σ : St) : St := js.map fun o => match o with
  | none => none
  | some j => (σ[j]?).getD none
/-- what is asked of the captured names -/
structure Caps (X : Cx) (N : List Str) (scope : Scope) (cl : List (Str × Addr)) (js : List (Option Nat)) : Prop where
  kind : scope.kind = .function
  nocell : ∀ x ∈ scope.names, x.2 ≠ .cell
  names : ∀ x ∈ scope.names, x.2 = .local → scope.names.lookup x.1 = some .local
  clos : closureFor scope X.env = pure cl
  sub : ∀ x c, cl.lookup x = some c → X.env.cells.lookup x = some c
  has : ∀ x, ((relabel scope X.env).names.lookup x = some .cell ∨ (relabel scope X.env).names.lookup x = some .free) → ∃ c, cl.lookup x = some c
  len : js.length = N.length
  slot : ∀ (i : Nat) (x : Str) (j : Nat), N[i]? = some x → js[i]? = some (some j) → X.N[j]? = some x ∧ X.env.scope.names.lookup x = some .cell ∧ (relabel scope X.env).names.lookup x = some .cell ∧ ∀ c, X.env.cells.lookup x = some c → cl.lookup x = some c
section
variable {X : Cx} {pins : List (Addr × Obj)} {σ : St} {H : Hp} {s : Shared} {N : List Str} {scope : Scope} {cl : List (Str × Addr)} {js : List (Option Nat)} {fp : List Addr}
theorem inv_compC {h' : Heap} {t' : Nat} {m : Str → Option Value} (I : Inv X pins σ H s) (C : Caps X N scope cl js)
    (hf : ∀ b ∈ fp, FpOk X pins H b) (hlt : ∀ b ∈ fp, b < s.heap.objs.size) (hn : h'.Ns s.heap.objs.size m) (hk : ∀ b o, s.heap.get? b = some o → h'.get? b = some o) :
    Inv (cxCompC X N scope cl fp s H) [] (cap js σ) H { s with heap := h', toks := t' } := by
  have sub : ∀ {x : Str} {c : Addr}, (cxCompC X N scope cl fp s H).env.cells.lookup x = some c → X.env.cells.lookup x = some c := fun {x c} e => C.sub x c e
  refine ⟨⟨I.ok.mod, C.kind, I.ok.glob, I.ok.blt, Nat.le_refl _, fun x y c e1 e2 => I.ok.inj x y c (sub e1) (sub e2), fun x hx => C.has x hx, fun x c e _ => (by cases e), I.qt, I.ok.frames, .inl rfl,
    fun b hb => ⟨Nat.ne_of_lt (hlt b hb), fun x c e => (hf b hb).2.2.2.2.1 x c (sub e)⟩, I.bs, Nat.le_trans I.ok.bsz I.sz, fun b o e hb => ?_, fun b hb hs => ?_, I.stack, I.stkFree⟩,
    rfl, I.bare, Un.kept hk, ⟨m, hn, fun i x v h1 h2 h3 => ?_⟩, fun x c e => ?_, I.hok.fresh (Nat.le_refl _), fun x c e => I.freeC x c (sub e), fun p hp => ?_, I.hok.kept hk, by unfold cap; rw [List.length_map]; exact C.len⟩
  · rcases (hf b hb).2.2.2.1 with z | z
    · exact I.ok.noex b o e z
    · exact absurd (Nat.lt_of_lt_of_le (Heap.lt_size e) (Nat.le_trans I.ok.bsz z)) (Nat.lt_irrefl _)
  · rcases List.mem_cons.mp (I.stkSub b hs) with z | z
    · exact (hf b hb).2.1 z
    · exact (hf b hb).2.2.1 z
  · unfold cap at h2
    rw [List.getElem?_map] at h2
    cases ej : js[i]? with
    | none => rw [ej] at h2; cases h2
    | some o =>
      rw [ej] at h2
      cases o with
      | none => cases h2
      | some j =>
        have h2' : (σ[j]?).getD none = some v := Option.some.inj h2
        obtain ⟨hj1, hk1, hk2, hc⟩ := C.slot i x j h1 ej
        have hj2 : σ[j]? = some (some v) := by
          cases e : σ[j]? with
          | none => rw [e] at h2'; cases h2'
          | some w' => rw [e] at h2'; exact congrArg some h2'
        obtain ⟨mo, hno, hl⟩ := I.loc
        obtain ⟨u, r, l⟩ := hl j x v hj1 hj2 (.inr (.inl hk1))
        refine ⟨u, r, ?_⟩
        rcases l with ⟨q, _⟩ | ⟨_, c, ec, o, ho, hd⟩
        · have q' : X.env.scope.names.lookup x = some .local := q
          rw [hk1] at q'; cases q'
        · exact .inr ⟨.inl hk2, c, hc c ec, o, hk c o ho, hd⟩
  · obtain ⟨v, o, ho, hd⟩ := I.cell x c (sub e)
    exact ⟨v, o, hk c o ho, hd⟩
  · exact absurd (show p ∈ ([] : List (Addr × Obj)) from hp) (by simp)
theorem compC_back {pins' : List (Addr × Obj)} {σ' : St} {H' : Hp} {s' : Shared} (I : Inv X pins σ H s) (hf : ∀ b ∈ fp, FpOk X pins H b) (I' : Inv (cxCompC X N scope cl fp s H) pins' σ' H' s') : Inv X pins σ H' s' :=
  I.call' (ch := fp) I'.os I'.base I'.hok I'.bare fun b hb => ⟨(hf b hb).2.2.2.1, (hf b hb).2.1, (hf b hb).2.2.2.2.1, (hf b hb).2.2.2.2.2⟩
end
def tCompC (js : List (Option Nat)) (wi : TI) (g : TG) (te : TE) : TE := fun σ H Q => wi σ H fun J H1 => ∀ l, H1 l = none → ∃ W : Nat → Nat → List V → St → Hp → Prop,
  (∃ m, W 0 m [] (cap js σ) (upd H1 l (.lst []))) ∧ ∀ i m ys σ' H', W i m ys σ' H' →
    (J.stop i H' ∧ Q (.ref l) H') ∨ (J.go i H' ∧ ∀ x H2, J.yld i H' x H2 → g x σ' H2 fun σ3 H3 => te σ3 H3 fun y H4 =>
      H4 l = some (.lst ys) ∧ ys.length < sizeLine ∧ ∃ m', m' < m ∧ W (i + 1) m' (ys ++ [y]) σ3 (upd H4 l (.lst (ys ++ [y]))))
section
variable {X : Cx} {N : List Str} {scope : Scope} {cl : List (Str × Addr)} {js : List (Option Nat)} {elt target iter : Expr} {pos : Pos} {wi : TI} {g : TG} {te : TE}
theorem compC_core {pins : List (Addr × Obj)} {σ : St} {H : Hp} {s : Shared} {Q : VK} {RR : Value → Addr → Result → Shared → Prop}
    (hc : X.calm = true) (Cp : Caps X N scope cl js)
    (hi : PI X target iter wi) (hg : ∀ fp s H, PG (cxCompC X N scope cl fp s H) target g) (he : ∀ fp s H, PE (cxCompC X N scope cl fp s H) elt te)
    (I : Inv X pins σ H s) (h : tCompC js wi g te σ H Q)
    (hR : ∀ (l C : Addr) (H' : Hp) (s' : Shared), Inv X pins σ H' s' → FpOk X pins H' C → (∃ m, s'.heap.Ns C m) → Q (.ref l) H' → RR (.ref l) C (.ok .next) s') :
    wpAny (model X.prog X.w) X.A (eval iter X.env) (fun x s₁ => wpAny (model X.prog X.w) X.A (pyIter x) (fun it s₂ => wpAny (model X.prog X.w) X.A (newList []) (fun acc s₃ =>
      wpAny (model X.prog X.w) X.A (newFunctionEnv scope X.env.globals cl [] X.env.qual none .none (some X.env)) (fun cenv s₄ =>
        codeAny (model X.prog X.w) X.A (.compStart (.ListComp elt [⟨target, iter, [], 0⟩] scope pos) 0 it acc { cenv with scope := relabel scope X.env }) (RR acc cenv.locals) s₄) X.xe s₃) X.xe s₂) X.xe s₁) X.xe s := by
  refine thn (hi pins s σ H _ I h) fun v s1 h1 => thn h1 fun itv s2 h2 => ?_
  obtain ⟨it, fp, tn, J, H2, e, I2, T, st2, f2, hw⟩ := h2
  subst e
  have hl2 : H2 s2.heap.objs.size = none := I2.hok.fresh (Nat.le_refl _)
  obtain ⟨W, ⟨m0, w0⟩, turn⟩ := hw s2.heap.objs.size hl2
  have lt2 : ∀ b ∈ fp, b < s2.heap.objs.size := fun b hb => let ⟨o, e, _⟩ := T.obj _ _ st2 b hb; Heap.lt_size e
  refine wpAny_newList ?_
  have I3 : Inv X pins σ (upd H2 s2.heap.objs.size (.lst [])) { s2 with heap := s2.heap.push { cls := .type "list", data := .seq ([] : List Value).toArray } } :=
    I2.laid (t' := s2.toks) (fun b u e => Heap.get?_push_of_some _ e) (Nat.le_refl _) ⟨Nat.zero_le _, [], 0, .nil, Heap.get?_push_size _ rfl⟩
  have st3 : tn 0 (s2.heap.push { cls := .type "list", data := .seq ([] : List Value).toArray }) := T.keep _ _ _ st2 fun b hb o e => Heap.get?_push_of_some _ e
  have lt3 : ∀ b ∈ fp, b < (s2.heap.push { cls := .type "list", data := .seq ([] : List Value).toArray }).objs.size := fun b hb => by rw [Heap.size_push]; exact Nat.lt_succ_of_lt (lt2 b hb)
  have f3 : ∀ b ∈ fp, FpOk X pins (upd H2 s2.heap.objs.size (.lst [])) b := fun b hb => ⟨by rw [upd_ne (Nat.ne_of_lt (lt2 b hb))]; exact (f2 b hb).1, (f2 b hb).2⟩
  generalize s2.heap.objs.size = l at *
  generalize upd H2 l (.lst []) = H3 at *
  have hs3 : ∃ s3 : Shared, s3 = { s2 with heap := s2.heap.push { cls := .type "list", data := .seq ([] : List Value).toArray } } := ⟨_, rfl⟩
  obtain ⟨s3, e3⟩ := hs3
  rw [← e3] at I3
  rw [← e3]
  have st3 : tn 0 s3.heap := by rw [e3]; exact st3
  have lt3 : ∀ b ∈ fp, b < s3.heap.objs.size := by rw [e3]; exact lt3
  clear e3
  refine wpAny_newFunctionEnv Cp.nocell (by intro y hy; simp at hy) (fun h4 hns hsb => ?_) Cp.kind
  have kp : ∀ b o, s3.heap.get? b = some o → h4.get? b = some o := fun b o e => hsb.extBut b o (Nat.ne_of_lt (Heap.lt_size e)) (Heap.get?_push_of_some _ e)
  have I4 := inv_compC (N := N) (t' := s3.toks + ([] : List (Str × Value)).length) I3 Cp f3 lt3 hns kp
  have st4 : tn 0 h4 := T.keep _ _ _ st3 fun b hb o e => kp b o e
  have stat : ∀ {H' : Hp}, (∀ b ∈ fp, H' b = none) → ∀ b ∈ fp, FpOk (cxCompC X N scope cl fp s3 H3) [] H' b := fun hn b hb =>
    ⟨hn b hb, (I4.ok.exf b hb).1, I4.ok.exfs b hb, .inl hb, (I4.ok.exf b hb).2, fun p hp => absurd (show p ∈ ([] : List (Addr × Obj)) from hp) (by simp)⟩
  have loop : codeAny (model X.prog X.w) X.A (.compLoop (.ListComp elt [⟨target, iter, [], 0⟩] scope pos) 0 (.ref it) (.ref l) (compEnvC scope cl s3.heap.objs.size X.env)) (RR (.ref l) s3.heap.objs.size)
      { s3 with heap := h4, toks := s3.toks + ([] : List (Str × Value)).length } := by
    refine comp_loop (fun n s' => ∃ i ys σ' H', Inv (cxCompC X N scope cl fp s3 H3) [] σ' H' s' ∧ tn i s'.heap ∧ (∀ b ∈ fp, H' b = none) ∧ W i n ys σ' H') ?_ m0 ⟨0, [], _, _, I4, st4, fun b hb => (f3 b hb).1, w0⟩
    rintro n s5 ⟨i, ys, σ5, H5, I5, st5, fr5, w5⟩
    rcases turn i n ys σ5 H5 w5 with ⟨stop, q⟩ | ⟨go, step⟩
    · refine thn (T.done (cxCompC X N scope cl fp s3 H3) rfl rfl rfl hc i [] s5 σ5 H5 _ I5 (stat fr5) st5 stop) fun r s6 ⟨hr, I6⟩ => ?_
      subst hr
      exact hR _ _ _ _ (compC_back I3 f3 I6) (I3.fpOk (Nat.le_refl _) I6.free) (let ⟨m, hn, _⟩ := I6.loc; ⟨m, hn⟩) q
    · refine thn (T.item (cxCompC X N scope cl fp s3 H3) rfl rfl rfl hc i [] s5 σ5 H5 _ I5 (stat fr5) st5 go) fun r s6 ⟨u, hr, h6⟩ => ?_
      subst hr
      refine thn h6 fun _ s7 ⟨x, H7, I7, r7, y7, st7, fr7⟩ => ?_
      have I7' := I7.pinned (stat fr7) (T.obj _ _ st7)
      refine wpAny_mono (hg fp s3 H3 _ s7 σ5 H7 x u _ I7' r7 (step x H7 y7)) (fun _ s8 ⟨σ8, H8, I8, q8⟩ => ?_) (fun _ _ z => False.elim z)
      refine wpAny_mono (he fp s3 H3 _ s8 σ8 H8 _ I8 q8) (fun v s9 ⟨y, H9, I9, r9, hl9, hz9, m', hm', w9⟩ => ?_) (fun _ _ z => False.elim z)
      refine wpAny_mono (mt_append (X := cxCompC X N scope cl fp s3 H3) _ s9 σ8 H9 (.ref l) [y] (.ref l) [v] (fun z Hz => Hz = upd H9 l (.lst (ys ++ [y]))) I9 rfl (.cons r9 .nil) ⟨l, ys, y, rfl, rfl, hl9, hz9, rfl⟩)
        (fun _ s10 ⟨z, Hz, I10, _, eH⟩ => ?_) (fun _ _ z => False.elim z)
      subst eH
      refine ⟨m', hm', i + 1, ys ++ [y], σ8, _, I10.unpinned, T.keep _ _ _ st7 fun b hb o e => (I10.pin (b, o) (List.mem_append_right _ (List.mem_append_right _ (mem_pinsAt hb e)))).1, fun b hb => ?_, w9⟩
      obtain ⟨o, e, d⟩ := T.obj _ _ st7 b hb
      exact (I10.pin (b, o) (List.mem_append_right _ (List.mem_append_right _ (mem_pinsAt hb e)))).2.1
  exact codeAny_compStart_list loop (T.self X.A 0 _ _ _ st4 loop)
/-- name = [elt for target in iter], names captured -/
theorem ps_setCC {i : Nat} {y : Str} {py spos : Pos} (hN : X.N.Nodup) (hiy : X.N[i]? = some y) (hy : Loc X.env.scope y)
    (hc : X.calm = true) (Cp : Caps X N scope cl js)
    (hi : PI X target iter wi) (hg : ∀ fp s H, PG (cxCompC X N scope cl fp s H) target g) (he : ∀ fp s H, PE (cxCompC X N scope cl fp s H) elt te)
    (hsw : swapsWith (.ListComp elt [⟨target, iter, [], 0⟩] scope pos) (some (.Name y py)) spos.line X.env = pure true)
    (hs : ∀ x, foldedSetIterable iter X.env x = pure x := by intro _; rfl) (hf : X.fn y = true ∨ X.env.scope.names.lookup y = some .local := by first | exact .inl rfl | exact .inr rfl | assumption) :
    PS X (.Assign [.Name y py] (.ListComp elt [⟨target, iter, [], 0⟩] scope pos) spos) (tSetC i (tCompC js wi g te)) := by
  intro pins s σ H D I h
  rw [exec_Assign_Name_used _ _ _ _ hsw]
  refine wpAny_bind (wpAny_standAt (wpAny_bind ?_))
  show wpAny _ X.A (do let _ ← comprehension (.ListComp elt [⟨target, iter, [], 0⟩] scope pos) scope X.env _ (newList []) false (eval iter X.env) (some (assign (.Name y py) X.env))) _ _ s
  refine wpAny_bind (wpAny_mono (wpAny_comprehension_free (use := some (assign (.Name y py) X.env)) (Q := fun _ s' => SP X pins D .next s') rfl hs Cp.clos Cp.kind Cp.names
    (compC_core (RR := fun acc C => compPost (model X.prog X.w) X.A X.xe (some (assign (.Name y py) X.env)) (fun _ s' => SP X pins D .next s') acc C) hc Cp hi hg he I h ?_)) (fun _ s' hq => wpAny_pure (wpAny_pure hq)) fun _ _ e => e)
  rintro l C H' s' I' fC ⟨m, hn⟩ q
  show wpAny _ X.A (assign (.Name y py) X.env (.ref l)) _ _ _
  refine wpAny_assign_Name (store_ok2 (v := .ref l) I' hN hiy hy (show RelV (.ref l) (.ref l) from rfl) (fun s2 I2 ⟨a, sb, ha⟩ => ?_) hf)
  have hCa : C ≠ a := by
    rcases ha with ha | ha
    · rw [ha]; exact fC.2.1
    · exact Ne.symm (fC.2.2.2.2.1 y a ha)
  exact ⟨m, hn.sameBut sb hCa, fun h' sb' => ⟨_, H', I2.turned (t' := s2.toks) (fun b o hb e => (sb'.2 b hb).trans e) fC.1 fC.2.1 fC.2.2.2.1 fC.2.2.2.2.1 fC.2.2.2.2.2, q⟩⟩
end
/-- over a range -/
theorem compC_rng {lo : Int} {l : Addr} {k : Nat} {σ0 : St} {g : TG} {te : TE} {R : Hp → Prop} {H1 : Hp} (Pv : Nat → List V → St → Hp → Prop) (h0 : Pv 0 [] σ0 (upd H1 l (.lst [])))
    (hs : ∀ i ys σ H, i < k → Pv i ys σ H → g (.int (lo + (i : Nat))) σ H fun σ3 H3 => te σ3 H3 fun y H4 => H4 l = some (.lst ys) ∧ ys.length < sizeLine ∧ Pv (i + 1) (ys ++ [y]) σ3 (upd H4 l (.lst (ys ++ [y]))))
    (hd : ∀ ys σ H, Pv k ys σ H → R H) (mg : ∀ x σ H (A B : St → Hp → Prop), (∀ σ' H', A σ' H' → B σ' H') → g x σ H A → g x σ H B) (mt : ∀ σ H (A B : VK), (∀ v H', A v H' → B v H') → te σ H A → te σ H B) :
    ∃ W : Nat → Nat → List V → St → Hp → Prop, (∃ m, W 0 m [] σ0 (upd H1 l (.lst []))) ∧ ∀ i m ys σ' H', W i m ys σ' H' →
      ((Itr lo k).stop i H' ∧ R H') ∨ ((Itr lo k).go i H' ∧ ∀ x H2, (Itr lo k).yld i H' x H2 → g x σ' H2 fun σ3 H3 => te σ3 H3 fun y H4 =>
        H4 l = some (.lst ys) ∧ ys.length < sizeLine ∧ ∃ m', m' < m ∧ W (i + 1) m' (ys ++ [y]) σ3 (upd H4 l (.lst (ys ++ [y])))) := by
  refine ⟨fun i m ys σ H => m = k - i ∧ i ≤ k ∧ Pv i ys σ H, ⟨k, by simp, Nat.zero_le _, h0⟩, ?_⟩
  rintro i m ys σ H ⟨rfl, hi, p⟩
  by_cases hlt : i < k
  · refine .inr ⟨hlt, fun x H' y => ?_⟩
    obtain ⟨e, y⟩ := y
    subst e y
    exact mg _ _ _ _ _ (fun σ3 H3 z => mt _ _ _ _ (fun y H4 ⟨z1, z2, z4⟩ => ⟨z1, z2, k - (i + 1), by omega, rfl, hlt, z4⟩) z) (hs i ys σ _ hlt p)
  · have e : i = k := by omega
    subst e
    exact .inl ⟨Nat.le_refl _, hd ys σ H p⟩

/-! ### defs with defaults -/
structure FunD (K : PySem.W.Frag) (x qual : Str) (st : Stmt) (dV : Value) (f : Addr) (fd : FuncData) : Prop where
  ex : ∃ (oc : Value) (od : Option Addr) (kV doc pm : Value) (an : Option Addr) (cdv ct : Value) (osl : Array (Option Value)),
    fd = PySem.W.fnOf x qual (defArgs st) (defBody st) (defScope st) dV kV doc pm an cdv ct ∧ K.lookup f = some ⟨oc, od, .func fd, osl⟩ ∧ PySem.W.codeIn K cdv qual = true
  kp : PySem.W.keepIn K (.ref f) = true
theorem FunD.ok {P : Program} {w : World} {K : PySem.W.Frag} {mg : Str → Option Value} {base : Heap} {x qual : Str} {st : Stmt} {dV : Value} {f : Addr} {fd : FuncData} {N ps : List Str} {k : Nat} {sp : Sp} (F : FunD K x qual st dV f fd) (S : FnScope N ps (defScope st)) (len : ∀ vs H Q E, sp vs H Q E → vs.length = ps.length)
    (hb : ∀ (cdv : Value) (A : Around) (outer : List Env) (s : Shared) (H : Hp) (vs : List V) (Q : VK) (E : XK), Room k (A.deeper (envOfC qual (defScope st) s.heap.objs.size f cdv)) → sp vs H Q E →
      ∃ t, PSs (cxOf CX0 P w K mg base N qual (defScope st) f cdv A outer s H E).nox (defBody st) t ∧ t { nx := fun _ H' => Q .non H', rt := Q } (start N vs) H) : FnOk P w K mg base CX0 (k + 1) f fd ps sp := by
  obtain ⟨oc, od, kV, doc, pm, an, cdv, ct, osl, rfl, lk, hcd⟩ := F.ex
  refine fn_of lk hcd S len fun A outer s H vs Q E hr hsp => ?_
  obtain ⟨t, h, q⟩ := hb cdv A outer s H vs Q E hr hsp
  exact ⟨t, h.nox, q⟩

/-! ### a dict of the two keys 8 and 16 -/
def Map2 (P : Program) (w : World) (h : Heap) (d : Addr) (a b : Int) : Prop := ∃ t t' : Tok, h.MapOf (intKind P w) d (valueAt [((8 : Int), Value.int a t), (16, .int b t')])
theorem at8 (a b : Value) : valueAt [((8 : Int), a), (16, b)] 8 = some a := rfl
theorem at16 (a b : Value) : valueAt [((8 : Int), a), (16, b)] 16 = some b := rfl
/-- .. of the text's top -/
def TabK (K : PySem.W.Frag) (d : Addr) (a b : Int) : Prop := (d == sysModules) = false ∧ ∃ (t1 t2 t3 t4 : Tok) (ep : Nat), K.lookup d = some ⟨.type "dict", none, .dict #[⟨8, .int 8 t1, .int a t2⟩, ⟨16, .int 16 t3, .int b t4⟩] ep, #[]⟩
theorem TabK.map {K : PySem.W.Frag} {d : Addr} {a b : Int} {h : Heap} (P : Program) (w : World) (T : TabK K d a b) (X : K.In h) : Map2 P w h d a b := by
  obtain ⟨_, t1, t2, t3, t4, ep, e⟩ := T
  refine ⟨t2, t4, _, _, ep, X _ _ e, ⟨rfl, rfl, rfl⟩, rfl, ?_, ?_⟩
  · intro en hen
    have hen' : en = ⟨8, .int 8 t1, .int a t2⟩ ∨ en = ⟨16, .int 16 t3, .int b t4⟩ := by simpa using hen
    rcases hen' with rfl | rfl
    · exact ⟨8, intKind_is P w 8 t1, by show (8 : Int) = hashInt 8; decide +kernel⟩
    · exact ⟨16, intKind_is P w 16 t3, by show (16 : Int) = hashInt 16; decide +kernel⟩
  · intro k
    show findBy Value.isInt _ k = _
    unfold findBy valueAt
    by_cases h8 : k = 8
    · subst h8; simp [Value.isInt]
    · by_cases h16 : k = 16
      · subst h16; simp [Value.isInt]
      · have e1 : ¬ (8 : Int) = k := fun z => h8 z.symm
        have e2 : ¬ (16 : Int) = k := fun z => h16 z.symm
        simp [Value.isInt, e1, e2]
def DicO (P : Program) (w : World) (d : Addr) (a b : Int) : HO := .ext fun h => Map2 P w h d a b
/-- a dict of the keys 8 and 16 that is read -/
def Sq2 (X : Cx) (H : Hp) (d : Addr) (a b : Int) : Prop := TabK X.K d a b ∨ H d = some (DicO X.prog X.w d a b)
section
variable {X : Cx} {pins : List (Addr × Obj)} {σ : St} {H : Hp} {s : Shared}
theorem Inv.map2 {d : Addr} {a b : Int} (I : Inv X pins σ H s) (h : Sq2 X H d a b) : Map2 X.prog X.w s.heap d a b := by
  rcases h with h | h
  · exact h.map _ _ I.kIn
  · exact (I.hok d _ h).1
def rIx2 (X : Cx) : R2 := fun x y H Q => ∃ d i a b, x = .ref d ∧ y = .int i ∧ Sq2 X H d a b ∧ ((i = 8 ∧ Q (.int a) H) ∨ (i = 16 ∧ Q (.int b) H))
theorem ix_map2 : IxR X (rIx2 X) := by
  intro value slice pins s σ H x y v u Q I rx ry h hs
  obtain ⟨d, i, a, b, rfl, rfl, hm, hq⟩ := h
  cases rx
  obtain ⟨t, rfl⟩ := ry
  obtain ⟨t1, t2, hm⟩ := I.map2 hm
  rcases hq with ⟨rfl, q⟩ | ⟨rfl, q⟩
  · exact tail_any hm.typeIs slot_dict_getitem.lookup (wpAny_getItem_of (intKind_is _ _ _ _) hm (at8 _ _) ⟨.int a, H, I.tok _, ⟨_, rfl⟩, q⟩) hs
  · exact tail_any hm.typeIs slot_dict_getitem.lookup (wpAny_getItem_of (intKind_is _ _ _ _) hm (at16 _ _) ⟨.int b, H, I.tok _, ⟨_, rfl⟩, q⟩) hs
/-! ### lists of ints compared; sets -/
theorem op_eqL (hu : X.A.units + 64 < cLine) : OpR X (compareOp .Eq) (fun x y H Q => ∃ (p q : Addr) (ns ms : List Int), x = .ref p ∧ y = .ref q ∧ SqL X.K H p (ns.map V.int) ∧ SqL X.K H q (ms.map V.int) ∧ Q (.bl (decide (ns = ms))) H) := by
  intro pins s σ H x y v u Q I rx ry h
  obtain ⟨p, q, ns, ms, rfl, rfl, h1, h2, k⟩ := h
  cases rx
  cases ry
  obtain ⟨its, rv, pl, hz⟩ := I.list h1
  obtain ⟨its2, rv2, pl2, hz2⟩ := I.list h2
  exact PySem.W.eq_intsK pl.isList (intsAre_of rv) pl2.isList (intsAre_of rv2) hu ⟨.bl _, H, I, rfl, k⟩
/-- {8: e1, 16: e2} -/
def tDict2 (P : Program) (w : World) (t1 t2 : TE) : TE := fun σ H Q => t1 σ H fun x H1 => t2 σ H1 fun y H2 => ∃ u v, x = .int u ∧ y = .int v ∧ ∀ d, H2 d = none → Q (.ref d) (upd H2 d (DicO P w d u v))
end
end L2

set_option Elab.async false
set_option linter.all false
set_option maxRecDepth 100000
namespace QQ
open PySem
section
variable {M : Model} {A : Around} {E : Value → Shared → Prop}
variable {nm q nm' q' : Str} {C N D N' : Addr} {bs bm bs' bm' : List Value} {hdct hdct' : Bool} {sn sn' : List Str} {sub sub' : List Value} {ab ab' : Bool} {col col' : Option Bool} {dd dd' : Option Addr} {k0 k1 k2 k3 k5 j0 j1 j2 j3 j5 : Option Value} {newId newId' : String}
/-- an own class at except, of which the error's own class is one -/
theorem exc_matches {h : Heap} {g : Array GenState} {d : Drawn} {t : Nat} {os : OsState} {e : Addr} {oe : Obj} {Q : Bool → Shared → Prop}
    (hC : h.get? C = some (excClassObj nm q C N bs bm hdct sn sub ab col dd k0 k1 k2 k3 k5 newId)) (hD : h.get? D = some (excClassObj nm' q' D N' bs' bm' hdct' sn' sub' ab' col' dd' j0 j1 j2 j3 j5 newId'))
    (he : h.get? e = some oe) (hcls : oe.cls = .ref C) (hbase : bm'.contains (.type "BaseException") = true) (hm : (Value.ref C :: bm).contains (.ref D) = true) (ne : C ≠ D)
    (hq : Q true ⟨h, g, d, t, os⟩) : wpAny M A (excMatches (.ref e) (.ref D)) Q E ⟨h, g, d, t, os⟩ := by
  have hcB : (Value.ref D :: bm').contains (.type "BaseException") = true := by rw [List.contains_cons, hbase, Bool.or_true]
  have f := tc_notTuple
  unfold excMatches
  repeat (first | (with_reducible refine wpAny_loadPart_at he ?_; rw [hcls]) | with_reducible refine wpAny_loadPart_at hD ?_ | (with_reducible refine wpAny_isSubtype_exc hD ?_; rw [hcB]) | (with_reducible refine wpAny_isSubtype_exc hC ?_; rw [hm]) | wp_step)
  exact hq
end
end QQ

set_option Elab.async false
set_option linter.all false
set_option maxRecDepth 100000
set_option maxHeartbeats 4000000
namespace L2
open PySem PySem.Spec PyProof.Rows QQ
/-! ## errors: how one lies behind a call, how it passes a def, raise, try -/
theorem ObjOk.there {P : Program} {w : World} {H : Hp} {h : Heap} {a : Addr} {o : HO} (x : ObjOk P w H h a o) : ∃ ob, h.get? a = some ob := by
  cases o with
  | lst xs => obtain ⟨_, _, _, _, e⟩ := x; exact ⟨_, e⟩
  | tup xs => obtain ⟨_, _, _, ob, e, _⟩ := x; exact ⟨_, e⟩
  | dK kvs => obtain ⟨_, _, _, _, o, _, _, e, _⟩ := x; exact ⟨_, e⟩
  | dT kvs => obtain ⟨_, _, _, _, o, _, _, e, _⟩ := x; exact ⟨_, e⟩
  | set S n => obtain ⟨o, _, _, _, e, _⟩ := x; exact ⟨_, e⟩
  | ins C dx fs => obtain ⟨_, _, _, e, _⟩ := x; exact ⟨_, e⟩
  | own y => exact x
  | xd fs => obtain ⟨_, ⟨_, _, _, e, _⟩, _⟩ := x; exact ⟨_, e⟩
  | rng lo hi => obtain ⟨_, _, _, e⟩ := x; exact ⟨_, e⟩
  | frz ob u => obtain ⟨e, _⟩ := x; exact ⟨_, e⟩
  | tbl ps => exact ⟨_, show h.get? a = some _ from x⟩
  | met f y => exact ⟨_, show h.get? a = some _ from x⟩
  | ext φ => obtain ⟨_, e, _⟩ := x; exact e
theorem HOk.gone {P : Program} {w : World} {H : Hp} {h : Heap} {a : Addr} (x : HOk P w H h) (e : h.get? a = none) : H a = none := by
  cases q : H a with
  | none => rfl
  | some u =>
    obtain ⟨ob, r⟩ := (x a u q).there
    rw [e] at r; cases r
/-- how an error lies behind a call -/
def CXE (P : Program) (w : World) : CXT := fun outer H s E e s' => ∃ ea cls fp H', e = .ref ea ∧ s'.os = s.os ∧ AllBare s'.gens ∧ Un (frs outer) [] H H' s.heap s'.heap ∧ HOk P w H' s'.heap ∧
  Fly s'.heap ea cls fp ∧ (∀ b ∈ fp, s.heap.get? b = none ∧ H' b = none) ∧ E cls none H'
/-- what is new since the entry -/
structure New (X : Cx) (pins : List (Addr × Obj)) (H : Hp) (b : Addr) : Prop where
  s0 : X.s₀.heap.get? b = none
  h : H b = none
  loc : b ≠ X.env.locals
  cel : ∀ x c, X.env.cells.lookup x = some c → c ≠ b
  pin : ∀ p ∈ X.pn ++ pins, p.1 ≠ b
section
variable {X : Cx} {pins : List (Addr × Obj)} {σ : St} {H H' : Hp} {s : Shared}
theorem Inv.new (I : Inv X pins σ H s) {b : Addr} (e : s.heap.get? b = none) (n : H' b = none) (hx : b ∉ X.ex) : New X pins H' b := by
  refine ⟨?_, n, fun z => ?_, fun x c ec z => ?_, fun p hp z => ?_⟩
  · cases q : X.s₀.heap.get? b with
    | none => rfl
    | some o =>
      obtain ⟨o', r⟩ := I.base.there b o q hx
      rw [e] at r; cases r
  · obtain ⟨m, ⟨o, _, _, ho, _⟩, _⟩ := I.loc
    rw [← z, e] at ho; cases ho
  · obtain ⟨v, o, ho, _⟩ := I.cell x c ec
    rw [z, e] at ho; cases ho
  · have := (I.pin p hp).1
    rw [z, e] at this; cases this
theorem New.ch {b : Addr} (n : New X pins H b) : (b ∈ X.ex ∨ X.s₀.heap.get? b = none) ∧ b ≠ X.env.locals ∧ (∀ x c, X.env.cells.lookup x = some c → c ≠ b) ∧ ∀ p ∈ X.pn ++ pins, p.1 ≠ b := ⟨.inr n.s0, n.loc, n.cel, n.pin⟩
/-- new records have changed, of the frames that run the slots -/
theorem Inv.landed {h' : Heap} {fp : List Addr} (I : Inv X pins σ H s) (hn : ∀ b ∈ fp, New X pins H b) (k : ∀ b o, s.heap.get? b = some o → b ∉ fp → b ∉ X.stack.filterMap (·.frame) → h'.get? b = some o)
    (sl : ∀ b o, s.heap.get? b = some o → b ∉ fp → ∃ z, h'.get? b = some { o with slots := z }) (th : ∀ b o, s.heap.get? b = some o → ∃ o', h'.get? b = some o') : Inv X pins σ H { s with heap := h' } := by
  have nf : ∀ b, b ∉ X.fs → b ≠ X.env.locals → b ∉ X.stack.filterMap (·.frame) := fun b h1 h2 z => by
    rcases List.mem_cons.mp (I.stkSub b z) with q | q
    · exact h2 q
    · exact h1 q
  have tr : ∀ b u, H b = some u → ∀ o, s.heap.get? b = some o → h'.get? b = some o := fun b u e o g => by
    refine k b o g (fun z => ?_) fun z => ?_
    · rw [(hn b z).h] at e; cases e
    · rw [I.stkFree b z] at e; cases e
  refine I.step0 (g' := s.gens) (d' := s.drawn) (t' := s.toks) (ch := fp) (fun b hb => (hn b hb).ch) (fun b o h1 h2 h3 g _ => k b o g h3 (nf b h2 h1)) (fun b o _ _ h3 g _ => sl b o g h3) (fun _ _ _ _ n => n) (fun b o _ g => th b o g)
    (fun _ _ e => e) (fun _ _ _ e => e) (fun b ps e => ⟨#[], by rw [e]; simp⟩) (fun m hm => ?_) (fun a o e => ?_) I.bare
  · obtain ⟨o, es, ep, ho, r⟩ := hm
    obtain ⟨z, q⟩ := sl _ o ho fun y => (hn _ y).loc rfl
    exact ⟨_, es, ep, q, r⟩
  · refine (I.hok a o e).stay (fun c v hc q => ?_) (fun _ q => q) fun _ _ q => q
    rcases hc with z | z
    · subst z; exact tr c _ e v q
    · exact tr c _ z v q
/-- the state behind a call that ended in an error -/
theorem Inv.thrown {E : XK} {e : Value} {s' : Shared} (I : Inv X pins σ H s) (hx : CXE X.prog X.w X.stack H s E e s') (hX : X.ex = []) : ∃ ea cls fp H', e = .ref ea ∧ Inv X pins σ H' s' ∧ Fly s'.heap ea cls fp ∧ (∀ b ∈ fp, New X pins H' b) ∧ E cls none H' := by
  obtain ⟨ea, cls, fp, H', rfl, os, bare, un, hok, F, fr, q⟩ := hx
  exact ⟨ea, cls, fp, H', rfl, I.call' (ch := []) os un hok bare (fun b z => absurd z (by simp)), F, fun b hb => I.new (fr b hb).1 (fr b hb).2 (by rw [hX]; simp), q⟩
end
/-- out of a def -/
theorem passE {P : Program} {w : World} {K : PySem.W.Frag} {mg : Str → Option Value} {base : Heap} {N : List Str} {qual : Str} {scope : Scope} {f : Addr} {cd : Value} {A : Around} {outer : List Env} {s₀ : Shared} {H₀ : Hp} {E : XK} :
    Passes (CXE P w) (cxOf (CXE P w) P w K mg base N qual scope f cd A outer s₀ H₀ E) E := by
  intro pins σ H s e s' I hx
  obtain ⟨ea, cls, fp, H', rfl, I', F, fr, q⟩ := I.thrown hx rfl
  show wpAny (model P w) _ (leaving _ (.ref ea)) _ _ _
  unfold leaving
  refine wpAny_bind (land I'.ok.frames I'.stack rfl F fun h' T F' hT f3 f4 f5 => ?_)
  have J := I'.landed fr f3 f4 f5
  refine ⟨ea, cls, [ea, T], H', rfl, J.os, J.bare, J.base, J.hok, F', fun b hb => ?_, q⟩
  rcases List.mem_cons.mp hb with hb | hb
  · subst hb
    have z := fr b F.here
    exact ⟨z.s0, z.h⟩
  · rw [List.mem_singleton] at hb
    subst hb
    refine ⟨?_, I'.hok.fresh hT⟩
    cases z : s₀.heap.get? b with
    | none => rfl
    | some o =>
      obtain ⟨o', r⟩ := I'.base.there b o z (by simp [cxOf])
      exact absurd (Nat.lt_of_lt_of_le (Heap.lt_size r) hT) (Nat.lt_irrefl _)
/-- where no error is wanted -/
theorem passF {X : Cx} {P : Program} {w : World} : Passes (CXE P w) X E0 := fun _ _ _ _ _ _ _ ⟨_, _, _, _, _, _, _, _, _, _, _, q⟩ => q.elim
/-- THE RULE for a def that may raise -/
theorem Fun.okE {P : Program} {w : World} {K : PySem.W.Frag} {mg : Str → Option Value} {base : Heap} {x qual : Str} {st : Stmt} {f : Addr} {fd : FuncData} {N ps : List Str} {k : Nat} {sp : Sp} (F : Fun K x qual st f fd) (S : FnScope N ps (defScope st)) (len : ∀ vs H Q E, sp vs H Q E → vs.length = ps.length)
    (hb : ∀ (cdv : Value) (A : Around) (outer : List Env) (s : Shared) (H : Hp) (vs : List V) (Q : VK) (E : XK), Room k (A.deeper (envOfC qual (defScope st) s.heap.objs.size f cdv)) → sp vs H Q E →
      ∃ t, PSs (cxOf (CXE P w) P w K mg base N qual (defScope st) f cdv A outer s H E) (defBody st) t ∧ t { nx := fun _ H' => Q .non H', rt := Q } (start N vs) H) : FnOk P w K mg base (CXE P w) (k + 1) f fd ps sp := by
  obtain ⟨oc, od, kV, doc, pm, an, cdv, ct, osl, rfl, lk, hcd⟩ := F.ex
  exact fn_of lk hcd S len fun A outer s H vs Q E hr hsp => hb cdv A outer s H vs Q E hr hsp
theorem FunD.okE {P : Program} {w : World} {K : PySem.W.Frag} {mg : Str → Option Value} {base : Heap} {x qual : Str} {st : Stmt} {dV : Value} {f : Addr} {fd : FuncData} {N ps : List Str} {k : Nat} {sp : Sp} (F : FunD K x qual st dV f fd) (S : FnScope N ps (defScope st)) (len : ∀ vs H Q E, sp vs H Q E → vs.length = ps.length)
    (hb : ∀ (cdv : Value) (A : Around) (outer : List Env) (s : Shared) (H : Hp) (vs : List V) (Q : VK) (E : XK), Room k (A.deeper (envOfC qual (defScope st) s.heap.objs.size f cdv)) → sp vs H Q E →
      ∃ t, PSs (cxOf (CXE P w) P w K mg base N qual (defScope st) f cdv A outer s H E) (defBody st) t ∧ t { nx := fun _ H' => Q .non H', rt := Q } (start N vs) H) : FnOk P w K mg base (CXE P w) (k + 1) f fd ps sp := by
  obtain ⟨oc, od, kV, doc, pm, an, cdv, ct, osl, rfl, lk, hcd⟩ := F.ex
  exact fn_of lk hcd S len fun A outer s H vs Q E hr hsp => hb cdv A outer s H vs Q E hr hsp

/-! ### an own error class, by the text -/
abbrev bmV : List Value := [.type "ValueError", .type "Exception", .type "BaseException", .type "object"]
/-- the class at C is an error class of the text's own, under ValueError -/
def ExC (K : PySem.W.Frag) (C : Addr) : Prop := PySem.W.excIn K C bmV "ValueError.__new__" = true
theorem exC_obj {K : PySem.W.Frag} {C : Addr} (c : ExC K C) : ∃ bm N nm q bs hdct sn sub ab col dd k0 k1 k2 k3 k5, K.lookup C = some (excClassObj nm q C N bs bm hdct sn sub ab col dd k0 k1 k2 k3 k5 "ValueError.__new__") ∧
    PySem.W.clsIn K C = some ⟨nm, bs, .ref C :: bm, N, q, hdct, sn, sub, ab, col, false⟩ ∧ ∀ h : Heap, K.In h → (∃ mN, h.Ns N mN ∧ mN "__init__" = none) ∧ OwnTail h bmV bm := by
  unfold ExC PySem.W.excIn at c
  split at c
  · rename_i dd cd sl hl
    split at c
    · rename_i C1 bm k0 k1 k2 k3 n k5 hm hs
      simp only [Bool.and_eq_true, beq_iff_eq, Bool.not_eq_true'] at c
      obtain ⟨⟨⟨⟨⟨e1, e2⟩, hdel⟩, ht⟩, hok⟩, hni⟩ := c
      subst e1 e2
      obtain ⟨nm, bs, mro, ns, qn, hd, sn, sub, ab, col, del⟩ := cd
      dsimp only at hm hdel hok hni
      subst hm hdel
      have hsl : sl = #[k0, k1, k2, k3, some (.builtin "ValueError.__new__"), k5] := by
        obtain ⟨l⟩ := sl
        simp only at hs
        rw [hs]
      subst hsl
      refine ⟨bm, ns, nm, qn, bs, hd, sn, sub, ab, col, dd, k0, k1, k2, k3, k5, hl, by unfold PySem.W.clsIn; rw [hl], fun h X => ⟨⟨_, .of_isNs (PySem.W.isNs_of_in X hok), PySem.W.nsMap_none_of_in X hok hni⟩, PySem.W.tail_of_in X ht⟩⟩
    · cases c
  · cases c
/-! ### raise -/
def tRaise (C : Addr) (E : XK) (te : TE) : TS := fun _ σ H => te σ H fun _ H1 => E (.ref C) none H1
theorem ps_raise {X : Cx} {E : XK} {x : Str} {C : Addr} {e : Expr} {te : TE} {np cpos pos : Pos} (hx : Passes (CXE X.prog X.w) X E) (hh : X.A.handled = none) (hg : Gl X x) (hm : X.mg x = some (.ref C)) (c : ExC X.K C) (he : PE X e te)
    (hst : starEach [e] X.env = (false, eval e X.env) :: starEach [] X.env := by rfl) (hd : (x == ("__debug__" : Str)) = false := by decide) : PS X (.Raise (some (.Call (.Name x np) [e] [] cpos)) none pos) (tRaise C E te) := by
  intro pins s σ H D I h
  obtain ⟨bm, N, nm, q, bs, hdct, sn, sub, ab, col, dd, k0, k1, k2, k3, k5, hl, _, hf⟩ := exC_obj c
  obtain ⟨⟨mN, hN, hni⟩, T⟩ := hf X.base I.mod.kin
  refine wpAny_Raise_call_subT (C := C) (nm := nm) (q := q) (N := N) (bs := bs) (bm := bm) (hdct := hdct) (sn := sn) (sub := sub) (ab := ab) (col := col) (dd := dd) (k0 := k0) (k1 := k1) (k2 := k2) (k3 := k3) (k5 := k5)
    PySem.F.excBase_ValueError (mN := mN) (T.hasType (by decide +kernel)) hh (by rw [hst]; rfl) hni (ld_glob I hg hm ⟨rfl, ?_⟩ hd)
  rw [hst]
  refine Calls.evalArgs_plain (Calls.spliced_cons (thn (he pins s σ H _ I h) fun u s1 ⟨y, H1, I1, r1, q1⟩ => Calls.spliced_nil ?_))
  refine ⟨rfl, by show 1 ≤ sizeLine; decide, I1.kIn C _ hl, hN.keeps I1.bk, T.keeps I1.bk, fun h' ea md => ?_⟩
  exact hx pins σ H1 s1 _ _ I1 ⟨ea, _, [ea], H1, rfl, rfl, I1.bare, Un.kept md.keeps, I1.hok.kept md.keeps, Fly.made md, fun b hb => by
    rw [List.mem_singleton] at hb
    subst hb
    exact ⟨md.new, I1.hok.gone md.new⟩, q1⟩
end L2

set_option Elab.async false
set_option linter.all false
set_option maxRecDepth 100000
set_option maxHeartbeats 4000000
namespace L2
open PySem PySem.Spec PyProof.Rows QQ
/-! ## try .. except C as e -/
/-- the body of a try: the names are σ0 where an error may come -/
def cxTry (X : Cx) (pn : List (Addr × Obj)) (σ0 : St) (E : XK) : Cx := { X with
  pn := pn
  xe := fun e s' => ∃ ea cls fp H', e = .ref ea ∧ Inv { X with pn := pn } [] σ0 H' s' ∧ Fly s'.heap ea cls fp ∧ (∀ b ∈ fp, New { X with pn := pn } [] H' b) ∧ E cls none H' }
/-- the suite of the except: the error is in hand -/
def cxHand (X : Cx) (e : Addr) (o : Obj) : Cx := { X with
  A := X.A.mark (some (.ref e))
  H₀ := upd X.H₀ e (.frz o (.own e))
  xe := fun _ _ => False }
def PassesAt (CX : CXT) (X : Cx) (E : XK) (σ0 : St) : Prop := ∀ (pins : List (Addr × Obj)) (H : Hp) (s : Shared) (e : Value) (s' : Shared), Inv X pins σ0 H s → CX X.stack H s E e s' → X.xe e s'
section
variable {X : Cx} {pins pn : List (Addr × Obj)} {σ σ0 : St} {H : Hp} {s : Shared} {E : XK} {W : Value → Shared → Prop}
theorem Cx.Ok.repn (ok : X.Ok) (pn : List (Addr × Obj)) (W : Value → Shared → Prop) : Cx.Ok { X with pn := pn, xe := W } :=
  ⟨ok.mod, ok.kind, ok.glob, ok.blt, ok.above, ok.inj, ok.has, ok.cab, ok.hd, ok.frames, ok.stk, ok.exf, ok.bs, ok.bsz, ok.noex, ok.exfs, ok.funs, ok.frf⟩
theorem Cx.Ok.unpn (ok : Cx.Ok { X with pn := pn, xe := W }) : X.Ok :=
  ⟨ok.mod, ok.kind, ok.glob, ok.blt, ok.above, ok.inj, ok.has, ok.cab, ok.hd, ok.frames, ok.stk, ok.exf, ok.bs, ok.bsz, ok.noex, ok.exfs, ok.funs, ok.frf⟩
theorem Inv.lift (I : Inv X pins σ H s) (W : Value → Shared → Prop) : Inv { X with pn := X.pn ++ pins, xe := W } [] σ H s :=
  ⟨I.ok.repn _ W, I.os, I.bare, I.base, I.loc, I.cell, I.free, I.freeC, fun p hp => I.pin p (by simpa using hp), I.hok, I.len⟩
theorem Inv.unlift {pins' : List (Addr × Obj)} (I : Inv { X with pn := X.pn ++ pins, xe := W } pins' σ H s) : Inv X pins σ H s :=
  ⟨I.ok.unpn, I.os, I.bare, I.base, I.loc, I.cell, I.free, I.freeC, fun p hp => I.pin p (List.mem_append_left _ hp), I.hok, I.len⟩
theorem Inv.repn {W' : Value → Shared → Prop} (I : Inv { X with pn := pn, xe := W } pins σ H s) : Inv { X with pn := pn, xe := W' } [] σ H s :=
  ⟨I.ok.unpn.repn _ W', I.os, I.bare, I.base, I.loc, I.cell, I.free, I.freeC, fun p hp => I.pin p (by simp at hp; exact List.mem_append_left _ hp), I.hok, I.len⟩
theorem SP.unlift {D : Ends} {f : Flow} {s' : Shared} (h : SP { X with pn := X.pn ++ pins, xe := W } [] D f s') : SP X pins D f s' := by
  cases f with
  | next => obtain ⟨σ', H', I, q⟩ := h; exact ⟨σ', H', I.unlift, q⟩
  | brk => obtain ⟨σ', H', I, q⟩ := h; exact ⟨σ', H', I.unlift, q⟩
  | cont => obtain ⟨σ', H', I, q⟩ := h; exact ⟨σ', H', I.unlift, q⟩
  | ret u => obtain ⟨v, σ', H', I, r, q⟩ := h; exact ⟨v, σ', H', I.unlift, r, q⟩
theorem passT (hX : X.ex = []) : PassesAt (CXE X.prog X.w) (cxTry X pn σ0 E) E σ0 := by
  intro pins H s e s' I hx
  obtain ⟨ea, cls, fp, H', rfl, I', F, fr, q⟩ := I.thrown hx hX
  exact ⟨ea, cls, fp, H', rfl, I'.repn, F, fun b hb => let n := fr b hb; ⟨n.s0, n.h, n.loc, n.cel, fun p hp => n.pin p (by simp at hp; exact List.mem_append_left _ hp)⟩, q⟩
end
/-! ### calls in the body of a try -/
section
variable {X : Cx} {CX : CXT} {k : Nat} {f C : Addr} {fd : FuncData} {ps : List Str} {sp : Sp} {dvs : List V} {ds : List Value} {E : XK} {x m : Str} {p pos apos : Pos} {e o : Expr} {es : List Expr} {ta : TE} {t : TA} {σ0 : St}
def tAt (σ0 : St) (t : TE) : TE := fun σ H Q => σ = σ0 ∧ t σ H Q
theorem run_fnX {pins : List (Addr × Obj)} {H : Hp} {s : Shared} {Q : VK} {us : List Value} {vs : List V} (F : FnOk X.prog X.w X.K X.mg X.base CX k f fd ps sp) (hr : Room k X.A) (hb : Binds X.K fd ps ds) (hd : Vals dvs ds) (hx : PassesAt CX X E σ0)
    (I : Inv X pins σ0 H s) (r : Vals vs us) (h : sp (vs ++ dvs) H Q E) : wpAny (model X.prog X.w) X.A (call (.ref f) us) (EP X pins σ0 Q) X.xe s := by
  have r2 : Vals (vs ++ dvs) (us ++ ds) := r.append hd
  have hl : (us ++ ds).length = ps.length := by rw [← r2.length]; exact F.len _ _ _ _ h
  refine wpAny_call (codeAny_mono (F.run X.A X.stack s H ⟨us, []⟩ (us ++ ds) (vs ++ dvs) Q E hr I.env0 (hb s us I.kIn hl) r2 h) fun r s' hq => ?_)
  cases r with
  | error e => exact hx pins H s e s' I hq
  | ok fl =>
    cases fl with
    | ret u => exact I.after hq
    | next => exact False.elim hq
    | brk => exact False.elim hq
    | cont => exact False.elim hq
theorem pe_callX (F : FnOk X.prog X.w X.K X.mg X.base CX k f fd ps sp) (hr : Room k X.A) (hg : Gl X x) (hm : X.mg x = some (.ref f)) (hk : PySem.W.keepIn X.K (.ref f) = true) (hb : Binds X.K fd ps ds) (hd : Vals dvs ds) (hx : PassesAt CX X E σ0)
    (ha : PA X (e :: es) t) (hdb : (x == ("__debug__" : Str)) = false := by decide) (he : starEach (e :: es) X.env = (false, eval e X.env) :: starEach es X.env := by rfl) (hpl : (backTo pos (starEach es X.env)).any (·.1) = false := by rfl) :
    PE X (.Call (.Name x p) (e :: es) [] pos) (tAt σ0 (tCall sp dvs E t)) := by
  intro pins s σ H Q I h
  obtain ⟨rfl, h⟩ := h
  refine wpAny_Call_Name_kw (ld_glob I hg hm ?_ hdb)
  refine PySem.W.callWith_K (h₀ := X.base) I.ok.mod.kin hk (thn (ha pos pins s σ H _ I h) fun us s1 ⟨vs, H1, I1, r, q⟩ => ⟨I1.kIn, ?_⟩) he hpl
  exact run_fnX F hr hb hd hx I1 r q
theorem pe_methX {pl : Sem Bool} (he : PE X o ta) (c : Cls X.K C) (hm : Meth X.K C m f) (F : FnOk X.prog X.w X.K X.mg X.base CX k f fd ps sp) (hr : Room k X.A) (hb : Binds X.K fd ps ds) (hd : Vals dvs ds) (hx : PassesAt CX X E σ0) (ha : PA X (e :: es) t)
    (hst : starEach (e :: es) X.env = (false, eval e X.env) :: starEach es X.env := by rfl) (hpl : (backTo pos (starEach es X.env)).any (·.1) = false := by rfl)
    (ht : eval (.Call (.Attribute o m apos) (e :: es) [] pos) X.env = (do
      let ov ← eval o X.env
      standAt apos.atName
      let (f, first) ← holding [ov] (getMethod ov m pl)
      callWith pos f first (backTo pos (starEach (e :: es) X.env)) (backToKw pos (keywordEach [] X.env))) := by rfl) :
    PE X (.Call (.Attribute o m apos) (e :: es) [] pos) (tAt σ0 (tMeth C m sp dvs E ta t)) := by
  intro pins s σ H Q I h
  obtain ⟨rfl, h⟩ := h
  refine PySem.W.methodCall_KW (pl := pl) (thn (he pins s σ H _ I h) fun u s1 ⟨x, H1, I1, rx, a, dx, fs, ex, ea, l, q⟩ => ?_) ht
  subst ex
  obtain rfl : u = Value.ref a := rx
  refine getmeth_ok I1 ea c hm l ?_
  refine PySem.W.callWith_K (first := [.ref a]) (h₀ := X.base) I.ok.mod.kin hm.kp (thn (ha pos pins s1 σ H1 _ I1 q) fun us s2 ⟨vs, H2, I2, r, q2⟩ => ⟨I2.kIn, ?_⟩) hst hpl
  exact run_fnX (us := .ref a :: us) (vs := .ref a :: vs) F hr hb hd hx I2 (.cons rfl r) q2
theorem run_makeX {pins : List (Addr × Obj)} {H : Hp} {s : Shared} {Q : VK} {us : List Value} {vs : List V} (M : Mk X.K C f) (F : FnOk X.prog X.w X.K X.mg X.base CX k f fd ps sp) (hr : Room (k + 1) X.A) (hb : Binds X.K fd ps ds) (hd : Vals dvs ds)
    (hx : PassesAt CX X E σ0) (I : Inv X pins σ0 H s) (r : Vals vs us)
    (h : ∀ x dx, H x = none → H dx = none → dx ≠ x → sp (.ref x :: (vs ++ dvs)) (upd (upd H dx (.own x)) x (.ins C dx [])) (fun v H2 => v = .non ∧ Q (.ref x) H2) E) :
    wpAny (model X.prog X.w) X.A (call (.ref C) us) (EP X pins σ0 Q) X.xe s := by
  have hq := h (s.heap.objs.size + 1) s.heap.objs.size (I.hok.fresh (Nat.le_succ _)) (I.hok.fresh (Nat.le_refl _)) (Nat.ne_of_lt (Nat.lt_succ_self _))
  have I2 := Inv.made (C := C) I
  have r2 : Vals (V.ref (s.heap.objs.size + 1) :: (vs ++ dvs)) (Value.ref (s.heap.objs.size + 1) :: (us ++ ds)) := .cons rfl (r.append hd)
  have hl : (Value.ref (s.heap.objs.size + 1) :: us ++ ds).length = ps.length := by
    have e := r2.length
    rw [F.len _ _ _ _ hq] at e
    exact e.symm
  refine wpAny_call (make_map (f := f) I.kIn M.makes M.init (beq_iff_eq.mp M.fn) (codeAny_mono (F.run _ X.stack _ _ ⟨Value.ref (s.heap.objs.size + 1) :: us, []⟩ (Value.ref (s.heap.objs.size + 1) :: (us ++ ds)) _ _ E (hr.make C us [])
    (I2.env0.make C us []) (hb _ (Value.ref (s.heap.objs.size + 1) :: us) I2.kIn hl) r2 hq) fun r s' hq' => ?_))
  cases r with
  | error e => exact hx pins _ _ e s' I2 hq'
  | ok fl =>
    cases fl with
    | ret u =>
      obtain ⟨v, H', I3, rv, ev, q3⟩ := I2.after hq'
      subst ev
      exact ⟨rv, ⟨V.ref (s.heap.objs.size + 1), H', I3, rfl, q3⟩⟩
    | next => exact False.elim hq'
    | brk => exact False.elim hq'
    | cont => exact False.elim hq'
theorem pe_makeX (M : Mk X.K C f) (F : FnOk X.prog X.w X.K X.mg X.base CX k f fd ps sp) (hr : Room (k + 1) X.A) (hg : Gl X x) (hm : X.mg x = some (.ref C)) (hb : Binds X.K fd ps ds) (hd : Vals dvs ds) (hx : PassesAt CX X E σ0)
    (ha : PA X (e :: es) t) (hdb : (x == ("__debug__" : Str)) = false := by decide) (he : starEach (e :: es) X.env = (false, eval e X.env) :: starEach es X.env := by rfl) (hpl : (backTo pos (starEach es X.env)).any (·.1) = false := by rfl) :
    PE X (.Call (.Name x p) (e :: es) [] pos) (tAt σ0 (tMake C sp dvs E t)) := by
  intro pins s σ H Q I h
  obtain ⟨rfl, h⟩ := h
  refine wpAny_Call_Name_kw (ld_glob I hg hm ?_ hdb)
  refine PySem.W.callWith_K (h₀ := X.base) I.ok.mod.kin M.kp (thn (ha pos pins s σ H _ I h) fun us s1 ⟨vs, H1, I1, r, q⟩ => ⟨I1.kIn, ?_⟩) he hpl
  exact run_makeX M F hr hb hd hx I1 r q
end
/-! ### the suite of the except -/
section
variable {X : Cx} {pins : List (Addr × Obj)} {σ : St} {H : Hp} {s : Shared}
/-- the error is known from here on -/
theorem Inv.hand {e : Addr} {cls : Value} {vs : Array Value} (I : Inv X pins σ H s) (n : New X pins H e) (g : s.heap.get? e = some (exO cls vs)) (h2 : vs[2]? = some Value.none) :
    Inv (cxHand X e (exO cls vs)) pins σ (upd H e (.frz (exO cls vs) (.own e))) s := by
  have neF : ∀ b ∈ X.fs, b ≠ e := fun b hb z => by
    obtain ⟨_, o, ho, _⟩ := I.ok.funs.mem hb
    rw [z, n.s0] at ho; cases ho
  have ne0 : ∀ b o, X.s₀.heap.get? b = some o → b ≠ e := fun b o q z => by rw [z, n.s0] at q; cases q
  have neB : ∀ b o, X.base.get? b = some o → b ≠ e := fun b o q => ne0 b o (I.ok.bs b o q).1
  have h0 : X.H₀ e = none ∨ True := .inr trivial
  refine ⟨⟨I.ok.mod, I.ok.kind, I.ok.glob, I.ok.blt, I.ok.above, I.ok.inj, I.ok.has, I.ok.cab, .inr ⟨e, _, vs, rfl, upd_same, rfl, h2⟩, I.ok.frames, I.ok.stk, I.ok.exf, fun b o q => ⟨(I.ok.bs b o q).1, ?_⟩, I.ok.bsz, I.ok.noex, I.ok.exfs, I.ok.funs, fun b hb => ?_⟩,
    I.os, I.bare, ⟨fun b o q z hb hx => ?_, fun b o q z hb hx => ?_, fun b o q z hx => ?_, I.base.there, fun b xs q => ?_, fun b o u q => ?_, fun b ps q => ?_⟩, I.loc, I.cell, ?_, fun x c ec => ?_, fun p hp => ?_, fun a o q => ?_, I.len⟩
  · show upd X.H₀ e _ b = none
    rw [upd_ne (neB b o q)]; exact (I.ok.bs b o q).2
  · show upd X.H₀ e _ b = none
    rw [upd_ne (neF b hb)]; exact I.ok.frf b hb
  · have z' : upd X.H₀ e (.frz (exO cls vs) (.own e)) b = none := z
    rw [upd_ne (ne0 b o q)] at z'
    exact I.base.keep b o q z' hb hx
  · have z' : upd X.H₀ e (.frz (exO cls vs) (.own e)) b = none := z
    rw [upd_ne (ne0 b o q)] at z'
    exact I.base.slot b o q z' hb hx
  · have z' : upd X.H₀ e (.frz (exO cls vs) (.own e)) b = none := z
    rw [upd_ne (ne0 b o q)] at z' ⊢
    exact I.base.free b o q z' hx
  · have q' : upd X.H₀ e (.frz (exO cls vs) (.own e)) b = some (.tup xs) := q
    by_cases hb : b = e
    · rw [hb, upd_same] at q'; cases q'
    · rw [upd_ne hb] at q' ⊢; exact I.base.tups b xs q'
  · have q' : upd X.H₀ e (.frz (exO cls vs) (.own e)) b = some (.frz o u) := q
    by_cases hb : b = e
    · rw [hb] at q' ⊢
      rw [upd_same] at q' ⊢; exact q'
    · rw [upd_ne hb] at q' ⊢; exact I.base.frzs b o u q'
  · have q' : upd X.H₀ e (.frz (exO cls vs) (.own e)) b = some (.tbl ps) := q
    by_cases hb : b = e
    · rw [hb, upd_same] at q'; cases q'
    · rw [upd_ne hb] at q' ⊢; exact I.base.tbls b ps q'
  · show upd H e _ X.env.locals = none
    rw [upd_ne (Ne.symm n.loc)]; exact I.free
  · rw [upd_ne (n.cel x c ec)]; exact I.freeC x c ec
  · obtain ⟨a1, a2, a3⟩ := I.pin p hp
    exact ⟨a1, by rw [upd_ne (n.pin p hp)]; exact a2, a3⟩
  · by_cases ha : a = e
    · subst ha
      rw [upd_same] at q
      cases q
      exact ⟨g, _, g⟩
    · rw [upd_ne ha] at q
      have nt : ∀ b u, H b = some u → b ≠ e := fun b u r z => by rw [z, n.h] at r; cases r
      exact (I.hok a o q).stay (fun b u _ r => r) (fun b r => by rw [upd_ne (nt b _ r)]; exact r) fun b xs r => by rw [upd_ne (nt b _ r)]; exact r
/-- out of the suite -/
theorem Inv.unhand {e : Addr} {o : Obj} {σ1 : St} {H1 : Hp} {s1 : Shared} (I0 : Inv X pins σ H s) (n : New X pins H e) (I : Inv (cxHand X e o) pins σ1 H1 s1) : Inv X pins σ1 H1 s1 := by
  have ne0 : ∀ b u, X.s₀.heap.get? b = some u → b ≠ e := fun b u q z => by rw [z, n.s0] at q; cases q
  have tr : ∀ b, b ≠ e → (cxHand X e o).H₀ b = X.H₀ b := fun b hb => upd_ne hb
  refine ⟨I0.ok, I.os, I.bare, ⟨fun b u q z hb hx => I.base.keep b u q ((tr b (ne0 b u q)).trans z) hb hx, fun b u q z hb hx => I.base.slot b u q ((tr b (ne0 b u q)).trans z) hb hx, fun b u q z hx => I.base.free b u q ((tr b (ne0 b u q)).trans z) hx, I.base.there, fun b xs q => ?_, fun b u v q => ?_, fun b ps q => ?_⟩, I.loc, I.cell, I.free, I.freeC, I.pin, I.hok, I.len⟩
  · refine I.base.tups b xs ((tr b fun z => ?_).trans q)
    have := I0.base.tups b xs q
    rw [z, n.h] at this; cases this
  · refine I.base.frzs b u v ((tr b fun z => ?_).trans q)
    have := I0.base.frzs b u v q
    rw [z, n.h] at this; cases this
  · refine I.base.tbls b ps ((tr b fun z => ?_).trans q)
    obtain ⟨m, this⟩ := I0.base.tbls b ps q
    rw [z, n.h] at this; cases this
/-- the error's name goes behind the suite -/
theorem Inv.nameGoes {M : Model} {A : Around} {E : Value → Shared → Prop} {Q : Unit → Shared → Prop} {i : Nat} {y : Str} {pos : Pos} (I : Inv X pins σ H s) (hN : X.N.Nodup) (hi : X.N[i]? = some y) (hl : X.env.scope.names.lookup y = some .local)
    (h : ∀ s', Inv X pins (σ.set i none) H s' → Q () s') : wpAny M A (do bindName X.env y .none; unbindBehindTheSuite X.env y pos) Q E s := by
  have hiσ : i < σ.length := by rw [I.len]; exact (List.getElem?_eq_some_iff.mp hi).1
  have hcls : (X.env.scope.kind == .class || (X.env.scope.kind == .module && X.env.locals != X.env.globals)) = false := by rw [I.ok.kind]; rfl
  have hk : X.env.kindOf y = some .local := hl
  refine wpAny_bind (wpAny_bindName (store_ok (v := .non) I hN hi (.inl hl) rfl (fun s1 I1 => ?_) (.inr hl)))
  unfold unbindBehindTheSuite
  refine wpAny_onRaise ?_
  unfold unbindName
  refine wpAny_bind (wpAny_point (wpAny_bind ?_))
  unfold deleteName
  simp only [hk, hcls]
  rw [if_neg (by decide)]
  obtain ⟨m, hn, hm⟩ := id I1.loc
  obtain ⟨u, ru, lk⟩ := hm i y .non hi (by rw [List.getElem?_set_self hiσ]) (.inl hl)
  have hmy : m y = some u := by
    rcases lk with ⟨_, q⟩ | ⟨q, _⟩
    · exact q
    · rw [hk] at q
      rcases q with q | q <;> cases q
  refine wpAny_bind (wpAny_nsDel_keeps hn fun h2 v hn2 hs2 => ?_)
  rw [hmy]
  simp only [if_true, Option.isSome_some, Bool.not_true, Bool.false_eq_true, if_false]
  refine wpAny_pure (wpAny_point (h _ ?_))
  obtain ⟨oL, _, _, hoL, _⟩ := id hn
  have ne0 : ∀ b o, X.s₀.heap.get? b = some o → b ≠ X.env.locals := fun b o e => Nat.ne_of_lt (Nat.lt_of_lt_of_le (Heap.lt_size e) I1.ok.above)
  refine ⟨I1.ok, I1.os, I1.bare, ⟨fun b o e n hb hx => (hs2.2 b (ne0 b o e)).trans (I1.base.keep b o e n hb hx), fun b o e n hb hx => ?_, I1.base.free, fun b o e hx => ?_, I1.base.tups, I1.base.frzs, I1.base.tbls⟩, ⟨_, hn2, fun j z v' e1 e2 e3 => ?_⟩, fun z c e => ?_, I1.free, I1.freeC, fun p hp => ?_, fun b ob e => ?_, by simpa using I.len⟩
  · obtain ⟨sl, e1⟩ := I1.base.slot b o e n hb hx
    exact ⟨sl, (hs2.2 b (ne0 b o e)).trans e1⟩
  · obtain ⟨o', e1⟩ := I1.base.there b o e hx
    exact ⟨o', (hs2.2 b (ne0 b o e)).trans e1⟩
  · have hj : j ≠ i := fun q => by rw [q, List.getElem?_set_self hiσ] at e2; cases e2
    rw [List.getElem?_set_ne (Ne.symm hj)] at e2
    obtain ⟨u', r', q⟩ := hm j z v' e1 (by rw [List.getElem?_set_ne (Ne.symm hj)]; exact e2) e3
    refine ⟨u', r', ?_⟩
    rcases q with ⟨kk, e⟩ | ⟨kk, c, e, zz⟩
    · refine .inl ⟨kk, ?_⟩
      have : z ≠ y := fun q => hj (nodup_ix hN e1 (q ▸ hi))
      simp [this, e]
    · exact .inr ⟨kk, c, e, zz.sameBut hs2 (I1.cne z c e)⟩
  · obtain ⟨w', q⟩ := I1.cell z c e
    exact ⟨w', q.sameBut hs2 (I1.cne z c e)⟩
  · obtain ⟨e, n, ne, nf, d⟩ := I1.pin p hp
    exact ⟨(hs2.2 p.1 ne).trans e, n, ne, nf, d⟩
  · refine (I1.hok b ob e).stay (fun c w' hc q => (hs2.2 c fun z => ?_).trans q) (fun _ q => q) fun _ _ q => q
    rcases hc with hc | hc
    · rw [← hc, z, I1.free] at e; cases e
    · rw [z, I1.free] at hc; cases hc
end
/-! ### the rule -/
/-- what is wanted behind the suite: the error's name is gone -/
def Dx (i : Nat) (D : Ends) : Ends := ⟨fun σ H => D.nx (σ.set i none) H, D.rt, fun σ H => D.bk (σ.set i none) H, fun σ H => D.ct (σ.set i none) H⟩
/-- try: body; except D as e: suite. An error of the class C, one of D's, is caught -/
def tTry (K : PySem.W.Frag) (D0 : Addr) (i : Nat) (tb : St → XK → TS) (th : TS) : TS := fun D σ H =>
  tb σ (fun cls _ H' => ∃ C, cls = .ref C ∧ ExC K C ∧ C ≠ D0 ∧ PySem.W.mroIn K C (.ref D0) = some true ∧
    ∀ e vs, H' e = none → th (Dx i D) (σ.set i (some (.ref e))) (upd H' e (.frz (exO (.ref C) vs) (.own e)))) D σ H
theorem ps_try {X : Cx} {x y : Str} {i : Nat} {D0 : Addr} {b₀ : Stmt} {body suite : List Stmt} {tb : St → XK → TS} {th : TS} {np hpos pos : Pos} (hN : X.N.Nodup) (hi : X.N[i]? = some y) (hl : X.env.scope.names.lookup y = some .local)
    (hg : Gl X x) (hm : X.mg x = some (.ref D0)) (hD : ExC X.K D0) (hst : X.stack = X.env :: X.outer) (hfr : X.env.frame = some X.env.locals) (hX : X.ex = [])
    (hb : ∀ pn σ0 E, PSs (cxTry X pn σ0 E) body (tb σ0 E)) (hh : ∀ e o, PSs (cxHand X e o) (b₀ :: suite) th) (hd : (x == ("__debug__" : Str)) = false := by decide) :
    PS X (.Try body [.ExceptHandler (some (.Name x np)) (some y) (b₀ :: suite) hpos] [] [] pos) (tTry X.K D0 i tb th) := by
  intro pins s σ H D I h
  refine wpAny_Try_except (wpAny_mono (hb (X.pn ++ pins) σ _ [] s σ H D (I.lift _) h) (fun f s1 q => ?_) fun e s1 q => ?_)
  · have q' : SP X pins D f s1 := SP.unlift q
    cases f with
    | next => exact wpAny_execs_nil q'
    | brk => exact q'
    | cont => exact q'
    | ret u => exact q'
  · obtain ⟨ea, cls, fp, H', rfl, I1, F, fr, C, rfl, cC, hne, hmro, q⟩ := q
    have I1 : Inv X pins σ H' s1 := Inv.unlift (W := X.xe) I1
    have fr : ∀ b ∈ fp, New X pins H' b := fun b hb => let n := fr b hb; ⟨n.s0, n.h, n.loc, n.cel, fun p hp => n.pin p (by simpa using hp)⟩
    have hf : X.A.frames = some (X.env :: X.outer) := hst ▸ I1.ok.frames
    refine land hf (hst ▸ I1.stack) hfr F fun h' T F' hT f3 f4 f5 => ?_
    have I2 := I1.landed fr (by rw [hst]; exact f3) f4 f5
    have nE : New X pins H' ea := fr ea F.here
    have nT : New X pins H' T := I1.new (by
      cases z : s1.heap.get? T with
      | none => rfl
      | some o => exact absurd (Nat.lt_of_lt_of_le (Heap.lt_size z) hT) (Nat.lt_irrefl _)) (I1.hok.fresh hT) (by rw [hX]; simp)
    obtain ⟨vs, ge, z2, ⟨_, r⟩ | ⟨T', oT, ts, _, neT, _, _, _, r⟩⟩ := id F'
    · cases r
    · cases r
      have q := q ea vs nE.h
      have I3 := I2.hand nE ge z2
      generalize hH3 : upd H' ea (.frz (exO (.ref C) vs) (.own ea)) = H3 at *
      have neq : (cxHand X ea (exO (.ref C) vs)).A = X.A.mark (some (.ref ea)) := rfl
      refine wpAny_handleBy_cons (codeAny_handlers_test (ld_glob (X := cxHand X ea (exO (.ref C) vs)) I3 hg hm ?_ hd)) (by intro q; cases q)
      obtain ⟨bm, N, nm, qn, bs, hdct, sn, sub, ab, col, dd, k0, k1, k2, k3, k5, hlC, hcC, _⟩ := exC_obj cC
      obtain ⟨bm', N', nm', qn', bs', hdct', sn', sub', ab', col', dd', j0, j1, j2, j3, j5, hlD, _, hfD⟩ := exC_obj hD
      have hmem : (Value.ref C :: bm).contains (.ref D0) = true := by
        unfold PySem.W.mroIn at hmro
        rw [hcC] at hmro
        simpa using hmro
      have T' := (hfD _ I2.kIn).2
      obtain ⟨hh1, gg, dr, tk, os1⟩ := s1
      refine exc_matches (I2.kIn C _ hlC) (I2.kIn D0 _ hlD) ge rfl (T'.hasType (by decide +kernel)) hmem hne (codeAny_handlers_suite_as ?_)
      refine land_again F' fun h4 F4 k4 => ?_
      have nT3 : New (cxHand X ea (exO (.ref C) vs)) pins H3 T := ⟨nT.s0, by rw [← hH3, upd_ne neT]; exact nT.h, nT.loc, nT.cel, nT.pin⟩
      have I4 := I3.landed (h' := h4) (fp := [T]) (fun b hb => by rw [List.mem_singleton] at hb; rw [hb]; exact nT3) (fun b o g hb _ => k4 b o g fun z => hb (by simp [z])) (fun b o g hb => ⟨o.slots, k4 b o g fun z => hb (by simp [z])⟩) (fun b o g => by
        by_cases hb : b = T
        · obtain ⟨o', us, g', _⟩ := F4.rec T (by simp)
          exact ⟨o', by rw [hb]; exact g'⟩
        · exact ⟨o, k4 b o g hb⟩)
      refine store_ok (X := cxHand X ea (exO (.ref C) vs)) (v := .ref ea) I4 hN hi (.inl hl) rfl (fun s5 I5 => ?_) (.inr hl)
      refine wpAny_mono (hh ea (exO (.ref C) vs) pins s5 _ H3 (Dx i D) I5 q) (fun f s6 q6 => ?_) fun _ _ z => False.elim z
      cases f with
      | next =>
        obtain ⟨σ6, H6, I6, q7⟩ := q6
        exact (Inv.unhand I2 nE I6).nameGoes hN hi hl fun s' I8 => ⟨_, _, I8, q7⟩
      | brk =>
        obtain ⟨σ6, H6, I6, q7⟩ := q6
        exact (Inv.unhand I2 nE I6).nameGoes hN hi hl fun s' I8 => ⟨_, _, I8, q7⟩
      | cont =>
        obtain ⟨σ6, H6, I6, q7⟩ := q6
        exact (Inv.unhand I2 nE I6).nameGoes hN hi hl fun s' I8 => ⟨_, _, I8, q7⟩
      | ret u =>
        obtain ⟨v, σ6, H6, I6, r, q7⟩ := q6
        exact (Inv.unhand I2 nE I6).nameGoes hN hi hl fun s' I8 => ⟨v, _, _, I8, r, q7⟩
theorem Room.hand {j k : Nat} {A : Around} {v : Option Value} (r : Room k A) (h : j ≤ k) (h30 : j < 30) : Room j (A.mark v) :=
  ⟨fun z => absurd z (Nat.not_le.mpr h30), by have := r.dp; show A.depth + _ + 5 < _; omega, by have := r.un; show A.units + _ + 200 < _; omega⟩
/-! ### isinstance of an error in hand -/
/-- what of the text an error class must have for isinstance -/
structure ExI (K : PySem.W.Frag) (C : Addr) : Prop where
  ga : PySem.W.findIn K (.ref C) "__getattribute__" = some (some (.builtin "BaseException.__getattribute__"))
  gt : PySem.W.findIn K (.ref C) "__getattr__" = some none
  hd : PySem.W.hasDictIn K C = true
  ha : PySem.W.findIn K (.ref C) "__class__" = some (some (.builtin "object.__class__"))
  hn : PySem.W.specialIn K (.builtin "object.__class__") "__get__" = some (some (.builtin "getset_descriptor.__get__"))
  htk : PySem.W.takesIn K (.builtin "object.__class__") = some true
  hm : PySem.W.mroIn K C (.type "object") = some true
  be : PySem.W.mroIn K C (.type "BaseException") = some true
theorem ga_check {M : Model} {A : Around} {E : Value → Shared → Prop} {h : Heap} {g : Array GenState} {d : Drawn} {t : Nat} {os : OsState} {x : Addr} {nv : Value} {Q : Unit → Shared → Prop} (L : PySem.W.Looks M h (isInstance (.ref x) (.type "BaseException")) true)
    (hq : Q () ⟨h, g, d, t, os⟩) : wpAny M A (checkBuiltinCall "BaseException.__getattribute__" ⟨[.ref x, nv], []⟩) Q E ⟨h, g, d, t, os⟩ := by
  have hk : builtinKind "BaseException.__getattribute__" = some .slot := by decide +kernel
  have hsplit : splitId "BaseException.__getattribute__" = some ("BaseException", "__getattribute__") := by decide +kernel
  have ha := PySem.F.args_bexc_ga (.ref x) nv
  simp only [checkBuiltinCall, hk, hsplit]
  refine wpAny_bind (L.at ?_)
  repeat (first | exact hq | wp_step)
theorem ga_entry {prog : Program} {w : World} {A : Around} {E : Value → Shared → Prop} {h : Heap} {g : Array GenState} {d : Drawn} {t : Nat} {os : OsState} {K : PySem.W.Frag} {x C : Addr} {ox : Obj} {tk : Tok} {Q : Fin → Shared → Prop} (Y : K.In h) (I : PySem.W.InstAt h x ox C none)
    (L3 : PySem.W.Looks (model prog w) h (Builtin.ObjectAttr.find (.ref x) (.ref C) "__class__") (.bind (.builtin "getset_descriptor.__get__") (.builtin "object.__class__"))) (hm : PySem.W.mroIn K C (.type "object") = some true)
    (hq : Q (.done (.ret (.ref C))) ⟨h, g, d, t, os⟩) : wpAny (model prog w) A (Builtin.«object.__getattribute__» ⟨[.ref x, .str "__class__" tk], []⟩) Q E ⟨h, g, d, t, os⟩ := by
  have L0 := I.type (M := model prog w)
  refine wpAny_bind (wpAny_bind (wpAny_pure (wpAny_pure ?_)))
  refine wpAny_bind (wpAny_pure (wpAny_bind (L0.at (wpAny_bind (L3.at ?_)))))
  show wpAny _ _ (holding [Value.builtin "object.__class__"] (call (.builtin "getset_descriptor.__get__") [.builtin "object.__class__", .ref x, .ref C]) >>= ret) _ _ _
  exact wpAny_bind (wpAny_holding (wpAny_call (PySem.W.class_get (s := ⟨h, g, d, t, os⟩) (ox := ox) (od := none) Y I hm (wpAny_pure hq))))
theorem exc_class {prog : Program} {w : World} {A : Around} {E : Value → Shared → Prop} {s : Shared} {K : PySem.W.Frag} {x C : Addr} {ox : Obj} {Q : Option Value → Shared → Prop} (c : ExI K C) (Y : K.In s.heap) (I : PySem.W.InstAt s.heap x ox C none)
    (h : Q (some (.ref C)) { s with toks := s.toks + 1 }) : wpAny (model prog w) A (getAttr? (.ref x) "__class__") Q E s := by
  have hf : PySem.W.findObj K C none "__class__" = some (.bind (.builtin "getset_descriptor.__get__") (.builtin "object.__class__")) := by
    obtain ⟨cd, hc, _⟩ := PySem.W.any_some c.hd
    unfold PySem.W.findObj
    rw [hc, Option.bind_some, c.ha, Option.bind_some]
    simp [c.hn, c.htk]
  obtain ⟨hh, g, d, t, os⟩ := s
  have L0 := I.type (M := model prog w)
  have L1 := PySem.W.looks_findIn (M := model prog w) Y c.ga
  have L2 := PySem.W.looks_findIn (M := model prog w) Y c.gt
  have L3 := PySem.W.looks_find (M := model prog w) Y I hf
  have L4 := PySem.W.looks_mroIn (M := model prog w) Y c.be
  unfold getAttr? getAttrBy? getAttrBy
  refine wpAny_bind (wpAny_mkText (wpAny_bind (wpAny_attempt (wpAny_holding (wpAny_bind (L0.at (wpAny_bind (L1.at ?_))))))))
  show wpAny _ _ (getAttrByItsOwn _ _ _ _ _ _) _ _ _
  unfold getAttrByItsOwn
  refine wpAny_bind (show wpAny _ _ (typeLookup (.ref C) "__getattr__") _ _ _ from L2.at ?_)
  refine wpAny_bind (wpAny_attempt (wpAny_holding ?_))
  show wpAny _ _ (boundAndCalled _ _ _) _ _ _
  unfold boundAndCalled
  refine wpAny_bind (wpAny_of_eq (PySem.F.attr_ValueError.ga.bind _) ?_)
  refine wpAny_call (codeAny_call_builtin PySem.F.attr_ValueError.ga.plain PySem.F.entry_bexc_ga ?_)
  refine ga_check (L0.andThen L4) (ga_entry Y I L3 c.hm ?_)
  show wpAny _ _ (handedOut (.ref C)) _ _ _
  exact wpAny_pure (wpAny_pure h)
theorem kitx_err {K : PySem.W.Frag} {x C : Addr} {vs : Array Value} (c : ExI K C) : PySem.W.KitX K (.ref x) (.ref C) (fun h => PySem.W.InstAt h x (exO (.ref C) vs) C none) where
  ty := fun _ _ _ I => I.type
  it := fun M h Y _ => by
    obtain ⟨cd, hc, _⟩ := PySem.W.any_some c.hd
    unfold PySem.W.clsIn at hc
    split at hc
    · rename_i ho
      intro A' Q' E' s' k q
      unfold isType loadHead
      exact wpAny_bind (wpAny_loadPart (k _ _ (Y _ _ ho)) (wpAny_pure q))
    · cases hc
  ne := fun h tp dd its n sl Y htp => by
    obtain ⟨cd, hc, _⟩ := PySem.W.any_some c.hd
    refine Bool.eq_false_iff.mpr fun q => ?_
    have e : C = tp := Value.ref.inj (beq_iff_eq.mp q)
    subst e
    unfold PySem.W.clsIn at hc
    split at hc
    · rename_i ho
      have z := (Y _ _ ho).symm.trans htp
      cases z
    · cases hc
  ca := fun Y I k => exc_class c Y I k
section
variable {X : Cx}
/-- the class, own or built-in, as a value -/
def clsV : Value → V
  | .ref a => .ref a
  | .type n => .ty n
  | _ => .non
theorem call_isiE : CallR X (.builtin "isinstance") (fun xs H Q => ∃ a C vs c b, xs = [.ref a, clsV c] ∧ (∃ n, c = .ref n ∨ ∃ t, c = .type t) ∧ H a = some (.frz (exO (.ref C) vs) (.own a)) ∧ ExI X.K C ∧ PySem.W.kitOne X.K (.ref C) c = some b ∧ Q (.bl b) H) := by
  intro pins s σ H xs us Q I r h
  obtain ⟨a, C, vs, c, b, rfl, hc, hf, ci, e, q⟩ := h
  obtain ⟨u, v, rfl, ru, rv⟩ := vals2 r
  cases ru
  have ev : v = c := by
    obtain ⟨n, hc | ⟨t, hc⟩⟩ := hc
    · subst hc; exact rv
    · subst hc; exact rv
  subst ev
  obtain ⟨g, _⟩ := I.hok a _ hf
  exact PySem.W.kia_one (kitx_err (vs := vs) ci) I.kIn ⟨g, rfl, rfl, trivial⟩ e (fun z => nomatch z) fun tk => ⟨.bl b, H, I.tok tk, rfl, q⟩
end
end L2

set_option Elab.async false
set_option linter.all false
set_option maxRecDepth 100000
set_option maxHeartbeats 4000000
namespace L2
open PySem PySem.Spec PyProof.Rows QQ
/-! ## comprehensions with a test -/
section
variable {prog : Program} {w : World} {A : Around} {R : Result → Shared → Prop} {s : Shared}
theorem compI_loop {elt cnd target iter : Expr} {scope : Scope} {pos : Pos} {it acc : Value} {env : Env} (J : Nat → Shared → Prop)
    (turn : ∀ n z, J n z → wpAny (model prog w) A (pyNext it) (fun r z1 => match r with
      | none => R (.ok .next) z1
      | some v => wpAny (model prog w) A (letOwnedTupleGo target it v) (fun _ z2 => wpAny (model prog w) A (assign target env v) (fun _ z3 => wpAny (model prog w) A (isTrue cnd env (eval cnd env)) (fun b z6 => if b = true then wpAny (model prog w) A (eval elt env) (fun x z4 =>
          wpAny (model prog w) A (call (.builtin "list.append") [acc, x]) (fun _ z5 => ∃ m, m < n ∧ J m z5)
            (notedBy (model prog w) A env fun e s' => R (.error e) s') z4) (notedBy (model prog w) A env fun e s' => R (.error e) s') z6 else ∃ m, m < n ∧ J m z6) (notedBy (model prog w) A env fun e s' => R (.error e) s') z3)
            (notedBy (model prog w) A env fun e s' => R (.error e) s') z2) (notedBy (model prog w) A env fun e s' => R (.error e) s') z1) (notedBy (model prog w) A env fun e s' => R (.error e) s') z)
    (n : Nat) (h : J n s) : codeAny (model prog w) A (.compLoop (.ListComp elt [⟨target, iter, [cnd], 0⟩] scope pos) 0 it acc env) R s := by
  refine codeAny_loop rfl J (fun k z hz => ?_) n h
  show wpAny _ _ ((compTurn (.ListComp elt [⟨target, iter, [cnd], 0⟩] scope pos) 0 it acc env).onRaise (fun q => do noteFrame q env; theTreesLotGoes q)) _ _ z
  refine wpAny_noted ?_
  rw [compTurn_list]
  refine wpAny_bind (wpAny_standAt (wpAny_bind (wpAny_mono (turn k z hz) (fun r z1 g1 => ?_) fun _ _ q => q)))
  cases r with
  | none => exact wpAny_pure g1
  | some v =>
    refine wpAny_bind (wpAny_mono g1 (fun _ z2 g2 => wpAny_bind (wpAny_mono g2 (fun _ z3 g3 => ?_) fun _ _ q => q)) fun _ _ q => q)
    refine wpAny_bind (wpAny_tests_one (wpAny_mono g3 (fun b z6 g6 => ?_) fun _ _ q => q))
    cases b with
    | false => exact wpAny_pure ⟨rfl, g6⟩
    | true => exact wpAny_bind (wpAny_bind (wpAny_mono g6 (fun x z4 g4 => wpAny_bind (wpAny_mono g4 (fun _ z5 g5 => wpAny_pure (wpAny_pure ⟨rfl, g5⟩)) fun _ _ q => q)) fun _ _ q => q))
end
/-- [elt for target in iter if cnd] -/
def tCompI (n : Nat) (wi : TI) (g : TG) (tt : TT) (te : TE) : TE := fun σ H Q => wi σ H fun J H1 => ∀ l, H1 l = none → ∃ W : Nat → Nat → List V → St → Hp → Prop,
  (∃ m, W 0 m [] (List.replicate n none) (upd H1 l (.lst []))) ∧ ∀ i m ys σ' H', W i m ys σ' H' →
    (J.stop i H' ∧ Q (.ref l) H') ∨ (J.go i H' ∧ ∀ x H2, J.yld i H' x H2 → g x σ' H2 fun σ3 H3 => tt σ3 H3 fun c H5 => if c = true then te σ3 H5 fun y H4 =>
      H4 l = some (.lst ys) ∧ ys.length < sizeLine ∧ ∃ m', m' < m ∧ W (i + 1) m' (ys ++ [y]) σ3 (upd H4 l (.lst (ys ++ [y]))) else ∃ m', m' < m ∧ W (i + 1) m' ys σ3 H5)
section
variable {X : Cx} {N : List Str} {scope : Scope} {elt cnd target iter : Expr} {pos : Pos} {wi : TI} {g : TG} {tt : TT} {te : TE}
theorem compI_core {pins : List (Addr × Obj)} {σ : St} {H : Hp} {s : Shared} {Q : VK} {RR : Value → Env → Result → Shared → Prop}
    (hc : X.calm = true) (hkind : scope.kind = .function) (hfree : ∀ x ∈ scope.names, x.2 ≠ .free) (hcell : ∀ x ∈ scope.names, x.2 ≠ .cell)
    (hi : PI X target iter wi) (hg : ∀ fp s H, PG (cxComp X N scope fp s H) target g) (ht : ∀ fp s H, PT (cxComp X N scope fp s H) cnd tt) (he : ∀ fp s H, PE (cxComp X N scope fp s H) elt te)
    (I : Inv X pins σ H s) (h : tCompI N.length wi g tt te σ H Q)
    (hR : ∀ (l C : Addr) (H' : Hp) (s' : Shared), Inv X pins σ H' s' → FpOk X pins H' C → (∃ m, s'.heap.Ns C m) → Q (.ref l) H' → RR (.ref l) (compEnv scope C X.env) (.ok .next) s') :
    wpAny (model X.prog X.w) X.A (eval iter X.env) (fun x s₁ => wpAny (model X.prog X.w) X.A (pyIter x) (fun it s₂ => wpAny (model X.prog X.w) X.A (newList []) (fun acc s₃ =>
      wpAny (model X.prog X.w) X.A (newFunctionEnv scope X.env.globals [] [] X.env.qual none .none (some X.env)) (fun cenv s₄ =>
        codeAny (model X.prog X.w) X.A (.compStart (.ListComp elt [⟨target, iter, [cnd], 0⟩] scope pos) 0 it acc { cenv with scope := scope }) (RR acc { cenv with scope := scope }) s₄) X.xe s₃) X.xe s₂) X.xe s₁) X.xe s := by
  refine thn (hi pins s σ H _ I h) fun v s1 h1 => thn h1 fun itv s2 h2 => ?_
  obtain ⟨it, fp, tn, J, H2, e, I2, T, st2, f2, hw⟩ := h2
  subst e
  have hl2 : H2 s2.heap.objs.size = none := I2.hok.fresh (Nat.le_refl _)
  obtain ⟨W, ⟨m0, w0⟩, turn⟩ := hw s2.heap.objs.size hl2
  have lt2 : ∀ b ∈ fp, b < s2.heap.objs.size := fun b hb => let ⟨o, e, _⟩ := T.obj _ _ st2 b hb; Heap.lt_size e
  refine wpAny_newList ?_
  have I3 : Inv X pins σ (upd H2 s2.heap.objs.size (.lst [])) { s2 with heap := s2.heap.push { cls := .type "list", data := .seq ([] : List Value).toArray } } :=
    I2.laid (t' := s2.toks) (fun b u e => Heap.get?_push_of_some _ e) (Nat.le_refl _) ⟨Nat.zero_le _, [], 0, .nil, Heap.get?_push_size _ rfl⟩
  have st3 : tn 0 (s2.heap.push { cls := .type "list", data := .seq ([] : List Value).toArray }) := T.keep _ _ _ st2 fun b hb o e => Heap.get?_push_of_some _ e
  have lt3 : ∀ b ∈ fp, b < (s2.heap.push { cls := .type "list", data := .seq ([] : List Value).toArray }).objs.size := fun b hb => by rw [Heap.size_push]; exact Nat.lt_succ_of_lt (lt2 b hb)
  have f3 : ∀ b ∈ fp, FpOk X pins (upd H2 s2.heap.objs.size (.lst [])) b := fun b hb => ⟨by rw [upd_ne (Nat.ne_of_lt (lt2 b hb))]; exact (f2 b hb).1, (f2 b hb).2⟩
  generalize s2.heap.objs.size = l at *
  generalize upd H2 l (.lst []) = H3 at *
  have hs3 : ∃ s3 : Shared, s3 = { s2 with heap := s2.heap.push { cls := .type "list", data := .seq ([] : List Value).toArray } } := ⟨_, rfl⟩
  obtain ⟨s3, e3⟩ := hs3
  rw [← e3] at I3
  rw [← e3]
  have st3 : tn 0 s3.heap := by rw [e3]; exact st3
  have lt3 : ∀ b ∈ fp, b < s3.heap.objs.size := by rw [e3]; exact lt3
  clear e3
  refine wpAny_newFunctionEnv hcell (by intro y hy; simp at hy) (fun h4 hns hsb => ?_) hkind
  have kp : ∀ b o, s3.heap.get? b = some o → h4.get? b = some o := fun b o e => hsb.extBut b o (Nat.ne_of_lt (Heap.lt_size e)) (Heap.get?_push_of_some _ e)
  have I4 := inv_comp (N := N) (t' := s3.toks + ([] : List (Str × Value)).length) I3 hkind hfree hcell f3 lt3 hns kp
  have st4 : tn 0 h4 := T.keep _ _ _ st3 fun b hb o e => kp b o e
  have stat : ∀ {H' : Hp}, (∀ b ∈ fp, H' b = none) → ∀ b ∈ fp, FpOk (cxComp X N scope fp s3 H3) [] H' b := fun hn b hb =>
    ⟨hn b hb, (I4.ok.exf b hb).1, I4.ok.exfs b hb, .inl hb, fun x c e => (comp_nocell e).elim, fun p hp => absurd (show p ∈ ([] : List (Addr × Obj)) from hp) (by simp)⟩
  have loop : codeAny (model X.prog X.w) X.A (.compLoop (.ListComp elt [⟨target, iter, [cnd], 0⟩] scope pos) 0 (.ref it) (.ref l) (compEnv scope s3.heap.objs.size X.env)) (RR (.ref l) (compEnv scope s3.heap.objs.size X.env))
      { s3 with heap := h4, toks := s3.toks + ([] : List (Str × Value)).length } := by
    refine compI_loop (fun n s' => ∃ i ys σ' H', Inv (cxComp X N scope fp s3 H3) [] σ' H' s' ∧ tn i s'.heap ∧ (∀ b ∈ fp, H' b = none) ∧ W i n ys σ' H') ?_ m0 ⟨0, [], _, _, I4, st4, fun b hb => (f3 b hb).1, w0⟩
    rintro n s5 ⟨i, ys, σ5, H5, I5, st5, fr5, w5⟩
    rcases turn i n ys σ5 H5 w5 with ⟨stop, q⟩ | ⟨go, step⟩
    · refine thn (T.done (cxComp X N scope fp s3 H3) rfl rfl rfl hc i [] s5 σ5 H5 _ I5 (stat fr5) st5 stop) fun r s6 ⟨hr, I6⟩ => ?_
      subst hr
      exact hR _ _ _ _ (comp_back I3 f3 I6) (I3.fpOk (Nat.le_refl _) I6.free) (let ⟨m, hn, _⟩ := I6.loc; ⟨m, hn⟩) q
    · refine thn (T.item (cxComp X N scope fp s3 H3) rfl rfl rfl hc i [] s5 σ5 H5 _ I5 (stat fr5) st5 go) fun r s6 ⟨u, hr, h6⟩ => ?_
      subst hr
      refine thn h6 fun _ s7 ⟨x, H7, I7, r7, y7, st7, fr7⟩ => ?_
      have I7' := I7.pinned (stat fr7) (T.obj _ _ st7)
      refine wpAny_mono (hg fp s3 H3 _ s7 σ5 H7 x u _ I7' r7 (step x H7 y7)) (fun _ s8 ⟨σ8, H8, I8, q8⟩ => ?_) (fun _ _ z => False.elim z)
      refine wpAny_mono (ht fp s3 H3 _ s8 σ8 H8 _ I8 q8) (fun bb s85 ⟨H85, I85, q85⟩ => ?_) (fun _ _ z => False.elim z)
      cases bb with
      | false =>
        rw [if_neg Bool.false_ne_true] at q85 ⊢
        obtain ⟨m', hm', w9⟩ := q85
        refine ⟨m', hm', i + 1, ys, σ8, H85, I85.unpinned, T.keep _ _ _ st7 fun b hb o e => (I85.pin (b, o) (List.mem_append_right _ (List.mem_append_right _ (mem_pinsAt hb e)))).1, fun b hb => ?_, w9⟩
        obtain ⟨o, e, d⟩ := T.obj _ _ st7 b hb
        exact (I85.pin (b, o) (List.mem_append_right _ (List.mem_append_right _ (mem_pinsAt hb e)))).2.1
      | true =>
      rw [if_pos rfl] at q85 ⊢
      refine wpAny_mono (he fp s3 H3 _ s85 σ8 H85 _ I85 q85) (fun v s9 ⟨y, H9, I9, r9, hl9, hz9, m', hm', w9⟩ => ?_) (fun _ _ z => False.elim z)
      refine wpAny_mono (mt_append (X := cxComp X N scope fp s3 H3) _ s9 σ8 H9 (.ref l) [y] (.ref l) [v] (fun z Hz => Hz = upd H9 l (.lst (ys ++ [y]))) I9 rfl (.cons r9 .nil) ⟨l, ys, y, rfl, rfl, hl9, hz9, rfl⟩)
        (fun _ s10 ⟨z, Hz, I10, _, eH⟩ => ?_) (fun _ _ z => False.elim z)
      subst eH
      refine ⟨m', hm', i + 1, ys ++ [y], σ8, _, I10.unpinned, T.keep _ _ _ st7 fun b hb o e => (I10.pin (b, o) (List.mem_append_right _ (List.mem_append_right _ (mem_pinsAt hb e)))).1, fun b hb => ?_, w9⟩
      obtain ⟨o, e, d⟩ := T.obj _ _ st7 b hb
      exact (I10.pin (b, o) (List.mem_append_right _ (List.mem_append_right _ (mem_pinsAt hb e)))).2.1
  exact codeAny_compStart_list loop (T.self X.A 0 _ _ _ st4 loop)
theorem ps_setCI {i : Nat} {y : Str} {py spos : Pos} (hN : X.N.Nodup) (hiy : X.N[i]? = some y) (hy : Loc X.env.scope y)
    (hc : X.calm = true) (hkind : scope.kind = .function) (hfree : ∀ x ∈ scope.names, x.2 ≠ .free) (hcell : ∀ x ∈ scope.names, x.2 ≠ .cell) (hnames : ∀ x ∈ scope.names, x.2 = .local → scope.names.lookup x.1 = some .local)
    (hi : PI X target iter wi) (hg : ∀ fp s H, PG (cxComp X N scope fp s H) target g) (ht : ∀ fp s H, PT (cxComp X N scope fp s H) cnd tt) (he : ∀ fp s H, PE (cxComp X N scope fp s H) elt te)
    (hsw : swapsWith (.ListComp elt [⟨target, iter, [cnd], 0⟩] scope pos) (some (.Name y py)) spos.line X.env = pure true)
    (hs : ∀ x, foldedSetIterable iter X.env x = pure x := by intro _; rfl) (hf : X.fn y = true ∨ X.env.scope.names.lookup y = some .local := by first | exact .inl rfl | exact .inr rfl | assumption) :
    PS X (.Assign [.Name y py] (.ListComp elt [⟨target, iter, [cnd], 0⟩] scope pos) spos) (tSetC i (tCompI N.length wi g tt te)) := by
  intro pins s σ H D I h
  rw [exec_Assign_Name_used _ _ _ _ hsw]
  refine wpAny_bind (wpAny_standAt (wpAny_bind ?_))
  show wpAny _ X.A (do let _ ← comprehension (.ListComp elt [⟨target, iter, [cnd], 0⟩] scope pos) scope X.env _ (newList []) false (eval iter X.env) (some (assign (.Name y py) X.env))) _ _ s
  refine wpAny_bind (wpAny_mono (wpAny_comprehension_use (Q := fun _ s' => SP X pins D .next s') rfl hs hfree hkind hnames (compI_core (RR := fun acc cenv r s' => match r with
      | .ok _ => wpAny (model X.prog X.w) X.A (assign (.Name y py) X.env acc) (fun _ s'' => ∃ m, s''.heap.Ns cenv.locals m ∧ ∀ h', Heap.SameBut cenv.locals s''.heap h' → SP X pins D .next { s'' with heap := h' }) X.xe s'
      | .error x => ∃ m, s'.heap.Ns cenv.locals m ∧ ∀ h', Heap.SameBut cenv.locals s'.heap h' → wpAny (model X.prog X.w) X.A (passOn "comprehension.variables-let-go" x cenv) (fun _ s' => SP X pins D .next s') X.xe { s' with heap := h' })
      hc hkind hfree hcell hi hg ht he I h ?_)) (fun _ s' hq => wpAny_pure (wpAny_pure hq)) fun _ _ e => e)
  rintro l C H' s' I' fC ⟨m, hn⟩ q
  refine wpAny_assign_Name (store_ok2 (v := .ref l) I' hN hiy hy (show RelV (.ref l) (.ref l) from rfl) (fun s2 I2 ⟨a, sb, ha⟩ => ?_) hf)
  have hCa : C ≠ a := by
    rcases ha with ha | ha
    · rw [ha]; exact fC.2.1
    · exact Ne.symm (fC.2.2.2.2.1 y a ha)
  exact ⟨m, hn.sameBut sb hCa, fun h' sb' => ⟨_, H', I2.turned (t' := s2.toks) (fun b o hb e => (sb'.2 b hb).trans e) fC.1 fC.2.1 fC.2.2.2.1 fC.2.2.2.2.1 fC.2.2.2.2.2, q⟩⟩
end
/-- over a list, the element a value that is kept or not -/
theorem compI_li {K : PySem.W.Frag} {a l : Addr} {xs : List V} {n : Nat} {g : TG} {tt : TT} {te : TE} {R : Hp → Prop} {H1 : Hp} (Pv : Nat → List V → Hp → Prop) (h0 : Pv 0 [] (upd H1 l (.lst []))) (hl : ∀ i ys H, i ≤ xs.length → Pv i ys H → SqL K H a xs)
    (hs : ∀ i x ys σ H, xs[i]? = some x → Pv i ys H → σ.length = n → g x σ H fun σ3 H3 => tt σ3 H3 fun c H5 => if c = true then te σ3 H5 fun y H4 => H4 l = some (.lst ys) ∧ ys.length < sizeLine ∧ σ3.length = n ∧ Pv (i + 1) (ys ++ [y]) (upd H4 l (.lst (ys ++ [y]))) else σ3.length = n ∧ Pv (i + 1) ys H5)
    (hd : ∀ ys H, Pv xs.length ys H → R H) (mg : ∀ x σ H (A B : St → Hp → Prop), (∀ σ' H', A σ' H' → B σ' H') → g x σ H A → g x σ H B) (mtt : ∀ σ H (A B : Bool → Hp → Prop), (∀ v H', A v H' → B v H') → tt σ H A → tt σ H B) (mt : ∀ σ H (A B : VK), (∀ v H', A v H' → B v H') → te σ H A → te σ H B) :
    ∃ W : Nat → Nat → List V → St → Hp → Prop, (∃ m, W 0 m [] (List.replicate n none) (upd H1 l (.lst []))) ∧ ∀ i m ys σ' H', W i m ys σ' H' →
      ((Itl K a).stop i H' ∧ R H') ∨ ((Itl K a).go i H' ∧ ∀ x H2, (Itl K a).yld i H' x H2 → g x σ' H2 fun σ3 H3 => tt σ3 H3 fun c H5 => if c = true then te σ3 H5 fun y H4 =>
        H4 l = some (.lst ys) ∧ ys.length < sizeLine ∧ ∃ m', m' < m ∧ W (i + 1) m' (ys ++ [y]) σ3 (upd H4 l (.lst (ys ++ [y]))) else ∃ m', m' < m ∧ W (i + 1) m' ys σ3 H5) := by
  refine ⟨fun i m ys σ H => m = xs.length - i ∧ i ≤ xs.length ∧ σ.length = n ∧ Pv i ys H, ⟨xs.length, by simp, Nat.zero_le _, List.length_replicate, h0⟩, ?_⟩
  rintro i m ys σ H ⟨rfl, hi, hn, p⟩
  have q := hl i ys H hi p
  by_cases hlt : i < xs.length
  · refine .inr ⟨⟨xs, xs[i], q, by simp [hlt]⟩, fun x H' y => ?_⟩
    obtain ⟨e, y⟩ := y
    subst e
    refine mg _ _ _ _ _ (fun σ3 H3 z => mtt _ _ _ _ (fun c H5 z => ?_) z) (hs i x ys σ _ (y xs q) p hn)
    cases c with
    | true =>
      rw [if_pos rfl] at z ⊢
      exact mt _ _ _ _ (fun y H4 ⟨z1, z2, z3, z4⟩ => ⟨z1, z2, xs.length - (i + 1), by omega, rfl, hlt, z3, z4⟩) z
    | false =>
      rw [if_neg Bool.false_ne_true] at z ⊢
      exact ⟨xs.length - (i + 1), by omega, rfl, hlt, z.1, z.2⟩
  · have e : i = xs.length := by omega
    subst e
    exact .inl ⟨⟨xs, q, Nat.le_refl _⟩, hd ys H p⟩
/-! ### tuples of texts compared -/
theorem eqAt_str (A : Around) (s : Shared) (a : Str) (t : Tok) (c : Str) (u : Tok) : SeqAt.EqAt A s (.str a t) (.str c u) (a == c) := by
  first | exact SeqAt.EqAt.str_str a t c u | exact (MeetsSeq.EqGives.str_str a t c u).at A s
theorem op_eqTS {X : Cx} (hu : X.A.units < cLine) : OpR X (compareOp .Eq) (fun x y H Q => ∃ (p q : Addr) (a b : List Str), x = .ref p ∧ y = .ref q ∧ SqT X.K H p (a.map V.str) ∧ SqT X.K H q (b.map V.str) ∧ Q (.bl (decide (a = b))) H) := by
  intro pins s σ H x y v u Q I rx ry h
  obtain ⟨p, q, a, b, rfl, rfl, h1, h2, k⟩ := h
  cases rx
  cases ry
  obtain ⟨its, rv, pl, hz⟩ := I.tuple h1
  obtain ⟨its2, rv2, pl2, hz2⟩ := I.tuple h2
  have l1 := rv.length
  have l2 := rv2.length
  rw [List.length_map] at l1 l2
  refine SeqAt.eq_tupleAt (e := fun j => a[j]? == b[j]?) (show s.heap.IsTuple p its.toArray from pl) (show s.heap.IsTuple q its2.toArray from pl2) hu (fun j h1 h2 => ?_) ?_
  · have j1 : j < a.length := by simp at h1; omega
    have j2 : j < b.length := by simp at h2; omega
    obtain ⟨u1, e1, t1, r1⟩ := rv.get (i := j) (x := V.str a[j]) (by simp [j1])
    obtain ⟨u2, e2, t2, r2⟩ := rv2.get (i := j) (x := V.str b[j]) (by simp [j2])
    subst r1 r2
    have g1 : its.toArray[j] = Value.str a[j] t1 := by
      have := List.getElem?_eq_some_iff.mp e1
      obtain ⟨_, z⟩ := this
      simpa using z
    have g2 : its2.toArray[j] = Value.str b[j] t2 := by
      have := List.getElem?_eq_some_iff.mp e2
      obtain ⟨_, z⟩ := this
      simpa using z
    rw [g1, g2]
    have := eqAt_str X.A.in1 s a[j] t1 b[j] t2
    simpa [j1, j2] using this
  · refine ⟨.bl _, H, I, ?_, k⟩
    show Value.bool _ = Value.bool _
    congr 1
    simp only [List.size_toArray, ← l1, ← l2]
    rw [Bool.eq_iff_iff]
    simp only [Bool.and_eq_true, List.all_eq_true, List.mem_range, beq_iff_eq, decide_eq_true_eq]
    constructor
    · rintro ⟨h1, h2⟩
      refine List.ext_getElem? fun j => ?_
      by_cases hj : j < a.length
      · exact h1 j (by omega)
      · rw [List.getElem?_eq_none (by omega), List.getElem?_eq_none (by omega)]
    · rintro rfl
      exact ⟨fun _ _ => rfl, rfl⟩
end L2

set_option Elab.async false
set_option linter.all false
set_option maxRecDepth 100000
set_option maxHeartbeats 4000000
namespace L2
open PySem
theorem fn_of0 {CX : CXT} {P : Program} {w : World} {K : PySem.W.Frag} {mg : Str → Option Value} {base : Heap} {f : Addr} {name qual : Str} {params : Arguments} {body : List Stmt} {scope : Scope} {dV kV doc pm cdv ct oc : Value} {an od : Option Addr}
    {osl : Array (Option Value)} {N ps : List Str} {sp : Sp} (lk : K.lookup f = some ⟨oc, od, .func (PySem.W.fnOf name qual params body scope dV kV doc pm an cdv ct), osl⟩) (hcd : PySem.W.codeIn K cdv qual = true) (S : FnScope N ps scope)
    (len : ∀ vs H Q E, sp vs H Q E → vs.length = ps.length)
    (hbody : ∀ (A : Around) (outer : List Env) (s : Shared) (H : Hp) (vs : List V) (Q : VK) (E : XK), sp vs H Q E →
      ∃ t, PSs (cxOf CX P w K mg base N qual scope f cdv A outer s H E) body t ∧ t { nx := fun _ H' => Q .non H', rt := Q } (start N vs) H) :
    FnOk P w K mg base CX 0 f (PySem.W.fnOf name qual params body scope dV kV doc pm an cdv ct) ps sp := by
  refine ⟨len, fun A outer s H args us vs Q E hr e0 hb r hsp => ?_⟩
  have hl := len _ _ _ _ hsp
  have KX : K.In s.heap := e0.mod.kin.keeps fun b o e => (e0.bs b o e).1
  have lim : s.heap.NoLimit := e0.mod.nolimit.keeps fun b o e => (e0.bs b o e).1
  have hkind : ∀ y ∈ ps.zip us, scope.names.lookup y.1 = some .local ∨ (scope.names.lookup y.1 = some .cell ∧ ((cellsFrom (s.heap.objs.size + 1) scope.names []).lookup y.1).isSome = true) := fun ⟨n, v⟩ hy => by
    rcases S.par n (List.of_mem_zip hy).1 with q | q
    · exact .inl q
    · exact .inr ⟨q, PySem.W.cellsFrom_some _ _ _ (.inl q)⟩
  refine codeAny_call_function hr.depth (KX _ _ lk) rfl S.co S.gen rfl (PySem.W.codeRec_of KX hcd) (hb _ _ _ _ ?_)
  refine wpAny_newFunctionEnv_cells S.kind hkind fun env he s1 x => ?_
  subst he
  refine ⟨lim.keeps x.toInCall.keep, codeAny_func ?_⟩
  obtain ⟨t, ht, hq⟩ := hbody A outer s H vs Q E hsp
  have I : Inv (cxOf CX P w K mg base N qual scope f cdv A outer s H E) [] (start N vs) H s1 := inv_start S e0 hl r x
  refine wpAny_mono (ht [] s1 (start N vs) H _ I hq) (fun fl s' hs => ?_) fun e s' hs => hs
  have fin : ∀ {σ' : St} {H' : Hp} {v : V} {u : Value}, Inv (cxOf CX P w K mg base N qual scope f cdv A outer s H E) [] σ' H' s' → RelV v u → Q v H' → CE outer P w H s Q u s' :=
    fun {σ' H' v u} J rv q => ⟨v, H', J.os, J.bare, J.base, J.hok, rv, q⟩
  cases fl with
  | ret u =>
    obtain ⟨v, σ', H', J, rv, q⟩ := hs
    exact fin J rv q
  | next =>
    obtain ⟨σ', H', J, q⟩ := hs
    exact fin (v := V.non) (u := Value.none) J rfl q
  | brk =>
    obtain ⟨_, _, _, q⟩ := hs
    exact False.elim q
  | cont =>
    obtain ⟨_, _, _, q⟩ := hs
    exact False.elim q
theorem Fun.ok0 {P : Program} {w : World} {K : PySem.W.Frag} {mg : Str → Option Value} {base : Heap} {x qual : Str} {st : Stmt} {f : Addr} {fd : FuncData} {N ps : List Str} {sp : Sp} (F : Fun K x qual st f fd) (S : FnScope N ps (defScope st)) (len : ∀ vs H Q E, sp vs H Q E → vs.length = ps.length)
    (hbody : ∀ (cdv : Value) (A : Around) (outer : List Env) (s : Shared) (H : Hp) (vs : List V) (Q : VK) (E : XK), sp vs H Q E →
      ∃ t, PSs (cxOf CX0 P w K mg base N qual (defScope st) f cdv A outer s H E).nox (defBody st) t ∧ t { nx := fun _ H' => Q .non H', rt := Q } (start N vs) H) : FnOk P w K mg base CX0 0 f fd ps sp := by
  obtain ⟨oc, od, kV, doc, pm, an, cdv, ct, osl, rfl, lk, hcd⟩ := F.ex
  refine fn_of0 lk hcd S len fun A outer s H vs Q E hsp => ?_
  obtain ⟨t, h, q⟩ := hbody cdv A outer s H vs Q E hsp
  exact ⟨t, h.nox, q⟩
end L2

set_option Elab.async false
set_option linter.all false
set_option maxRecDepth 100000
set_option maxHeartbeats 4000000
namespace L2
open PySem PySem.Spec PyProof.Rows QQ
/-! ### rules by the K at hand; statements one by one -/
theorem seq_g {t u : TS} {D : Ends} {σ : St} {H : Hp} (h : ∀ R : St → Hp → Prop, (∀ σ H, u D σ H → R σ H) → t { D with nx := R } σ H) : tSeq t u D σ H := h (u D) fun _ _ z => z
theorem ix_listK {X : Cx} {K : PySem.W.Frag} (hK : X.K = K) : IxR X (rIxL K) := by
  subst hK
  exact ix_list
theorem ix_tupK {X : Cx} {K : PySem.W.Frag} (hK : X.K = K) : IxR X (rIxT K) := by
  subst hK
  exact ix_tup
def rNeL (K : PySem.W.Frag) : R2 := fun x y H Q => ∃ (p q : Addr) (ns ms : List Int), x = .ref p ∧ y = .ref q ∧ SqL K H p (ns.map V.int) ∧ SqL K H q (ms.map V.int) ∧ Q (.bl (!decide (ns = ms))) H
theorem op_neL {X : Cx} (hu : X.A.units + 64 < cLine) : OpR X (compareOp .NotEq) (rNeL X.K) := by
  intro pins s σ H x y v u Q I rx ry h
  obtain ⟨p, q, ns, ms, rfl, rfl, h1, h2, k⟩ := h
  cases rx
  cases ry
  obtain ⟨its, rv, pl, hz⟩ := I.list h1
  obtain ⟨its2, rv2, pl2, hz2⟩ := I.list h2
  exact PySem.W.ne_intsK pl.isList (intsAre_of rv) pl2.isList (intsAre_of rv2) hu ⟨.bl _, H, I, rfl, k⟩
theorem take_cut (xs : List V) (k : Nat) : cutV xs none (some ((k : Nat) : Int)) = xs.take k := by
  unfold cutV
  rw [HT.sIx_none, HT.sIx_nat, List.drop_zero, Nat.sub_zero]
  by_cases h : k ≤ xs.length
  · rw [Nat.min_eq_left h]
  · rw [Nat.min_eq_right (by omega), List.take_length, List.take_of_length_le (by omega)]
theorem drop_cut (xs : List V) (k : Nat) : cutV xs (some ((k : Nat) : Int)) none = xs.drop k := by
  unfold cutV
  rw [HT.sIx_none, HT.sIx_nat]
  by_cases h : k ≤ xs.length
  · rw [Nat.min_eq_left h, ← List.length_drop, List.take_length]
  · rw [Nat.min_eq_right (by omega), List.drop_length, List.drop_of_length_le (by omega), List.take_nil]
theorem mid_cut (xs : List V) {m n : Nat} (hm : m ≤ n) (hn : n ≤ xs.length) : cutV xs (some ((m : Nat) : Int)) (some ((n : Nat) : Int)) = (xs.drop m).take (n - m) := by
  unfold cutV
  rw [HT.sIx_nat, HT.sIx_nat, Nat.min_eq_left (show m ≤ xs.length by omega), Nat.min_eq_left hn]
theorem lookup_one {a x : Str} {b c : Addr} (h : List.lookup x [(a, b)] = some c) : x = a ∧ c = b := by
  rw [List.lookup_cons] at h
  cases hx : x == a with
  | true => rw [hx] at h; exact ⟨eq_of_beq hx, (Option.some.inj h).symm⟩
  | false => rw [hx] at h; cases h
theorem none_of {H H' : Hp} (s : Same H H') {q : Addr} (h : H' q = none) : H q = none := by
  cases e : H q with
  | none => rfl
  | some o => rw [s _ _ e] at h; cases h
theorem same_new {H : Hp} {p : Addr} {o : HO} (h : H p = none) : Same H (upd H p o) := fun b u e => by
  rw [upd_ne (ne_of_none e h)]; exact e
/-! ### [elt for target in iter if cnd] as a value -/
section
variable {X : Cx} {N : List Str} {scope : Scope} {elt cnd target iter : Expr} {pos : Pos} {wi : TI} {g : TG} {tt : TT} {te : TE}
theorem pe_compI (hc : X.calm = true) (hkind : scope.kind = .function) (hfree : ∀ x ∈ scope.names, x.2 ≠ .free) (hcell : ∀ x ∈ scope.names, x.2 ≠ .cell) (hnames : ∀ x ∈ scope.names, x.2 = .local → scope.names.lookup x.1 = some .local)
    (hi : PI X target iter wi) (hg : ∀ fp s H, PG (cxComp X N scope fp s H) target g) (ht : ∀ fp s H, PT (cxComp X N scope fp s H) cnd tt) (he : ∀ fp s H, PE (cxComp X N scope fp s H) elt te)
    (hs : ∀ x, foldedSetIterable iter X.env x = pure x := by intro _; rfl) : PE X (.ListComp elt [⟨target, iter, [cnd], 0⟩] scope pos) (tCompI N.length wi g tt te) := by
  intro pins s σ H Q I h
  refine wpAny_ListComp hfree hkind hnames (compI_core (RR := fun acc cenv r s' => ∃ m, s'.heap.Ns cenv.locals m ∧ ∀ h', Heap.SameBut cenv.locals s'.heap h' →
    match r with
    | .ok _ => EP X pins σ Q acc { s' with heap := h' }
    | .error x => wpAny (model X.prog X.w) X.A (passOn "comprehension.variables-let-go" x cenv) (EP X pins σ Q) X.xe { s' with heap := h' }) hc hkind hfree hcell hi hg ht he I h ?_) hs
  rintro l C H' s' I' fC ⟨m, hn⟩ q
  exact ⟨m, hn, fun h' sb => ⟨.ref l, H', I'.turned (t' := s'.toks) (fun b o hb e => (sb.2 b hb).trans e) fC.1 fC.2.1 fC.2.2.2.1 fC.2.2.2.2.1 fC.2.2.2.2.2, rfl, q⟩⟩
end
section
variable {X : Cx}
/-! ### t[a:] of a tuple -/
def rSlF (K : PySem.W.Frag) : V → Option Int → Option Int → Hp → VK → Prop := fun x lo hi H Q => ∃ (a : Addr) (xs : List V) (n : Nat), x = .ref a ∧ lo = some (n : Int) ∧ hi = none ∧ SqT K H a xs ∧ 1 ≤ n ∧ n ≤ xs.length ∧ ∀ p, H p = none → Q (.ref p) (upd H p (.tup (xs.drop n)))
theorem sl_tupF {K : PySem.W.Frag} (hK : X.K = K) : SlR X (rSlF K) := by
  subst hK
  intro pins s σ H x v vl vu lo hi sl Q I rx hs pl pu h
  obtain ⟨a, xs, n, rfl, rfl, rfl, hx, h1, h2, q⟩ := h
  cases rx
  obtain ⟨its, r, ht, hz⟩ := I.tuple hx
  have hlen := r.length
  cases pl
  cases pu
  refine ⟨"tuple", _, F.slot_tuple_getitem.lookup, ht.typeIs, ?_⟩
  refine getItem_tuple_from (a := n) ht hs h1 (by rw [List.size_toArray]; omega) ?_ (by rw [List.size_toArray]; omega)
  refine ⟨.ref s.heap.objs.size, _, I.laid (t' := s.toks) (o := .tup (xs.drop n)) (fun b ob q => Heap.get?_push_of_some _ q) (Nat.le_refl _) ?_, rfl, q _ (I.hok.fresh (Nat.le_refl _))⟩
  refine ⟨?_, _, r.drop n, IsTup.new _ _⟩
  rw [List.length_drop]; omega
/-! ### lists of tuples of plain things compared, the same ones -/
theorem eqV_self : ∀ x : V, flatV x = true → eqV x x = true := by
  intro x h
  cases x <;> simp [flatV, eqV] at h ⊢
theorem eqAt_tup {pins : List (Addr × Obj)} {σ : St} {H : Hp} {s : Shared} (I : Inv X pins σ H s) {a b : Addr} {xs : List V} (ha : SqT X.K H a xs) (hb : SqT X.K H b xs) (fl : xs.all flatV = true) {A : Around} (hu : A.units < cLine) : SeqAt.EqAt A s (.ref a) (.ref b) true := by
  by_cases e : a = b
  · subst e; exact .same _
  · obtain ⟨its, rv, pl, hz⟩ := I.tuple ha
    obtain ⟨its2, rv2, pl2, hz2⟩ := I.tuple hb
    have l1 := rv.length
    have l2 := rv2.length
    refine .of_refs e ?_
    have R := SeqAt.RcAt.tuples (A := A) (e := fun _ => true) (show s.heap.IsTuple a its.toArray from pl) (show s.heap.IsTuple b its2.toArray from pl2) hu (fun j h1 h2 => ?_)
    · have e2 : ((List.range (min its.toArray.size its2.toArray.size)).all (fun _ => true) && its.toArray.size == its2.toArray.size) = true := by
        rw [List.size_toArray, List.size_toArray, ← l1, ← l2]; simp
      rw [e2] at R
      exact R
    · have j1 : j < xs.length := by simp at h1; omega
      obtain ⟨u1, e1, r1⟩ := rv.get (i := j) (x := xs[j]) (by simp [j1])
      obtain ⟨u2, e2, r2⟩ := rv2.get (i := j) (x := xs[j]) (by simp [j1])
      have g1 : its.toArray[j] = u1 := by
        obtain ⟨_, z⟩ := List.getElem?_eq_some_iff.mp e1
        simpa using z
      have g2 : its2.toArray[j] = u2 := by
        obtain ⟨_, z⟩ := List.getElem?_eq_some_iff.mp e2
        simpa using z
      have f1 : flatV xs[j] = true := List.all_eq_true.mp fl _ (List.getElem_mem j1)
      rw [g1, g2, ← eqV_self _ f1]
      exact eqAt_V r1 r2 f1 f1
/-- two lists of tuples, item by item the same -/
def SameTs (K : PySem.W.Frag) (H : Hp) (p q : Addr) : Prop := ∃ ps qs : List Addr, SqL K H p (ps.map V.ref) ∧ SqL K H q (qs.map V.ref) ∧ ps.length = qs.length ∧ ∀ (i : Nat) (a b : Addr), ps[i]? = some a → qs[i]? = some b → ∃ xs : List V, SqT K H a xs ∧ SqT K H b xs ∧ xs.all flatV = true
theorem sameTs_at {pins : List (Addr × Obj)} {σ : St} {H : Hp} {s : Shared} (I : Inv X pins σ H s) {p q : Addr} (h : SameTs X.K H p q) {A : Around} (hu : A.units < cLine) : ∃ its its2 : List Value, s.heap.IsList p its.toArray ∧ s.heap.IsList q its2.toArray ∧ its.toArray.size = its2.toArray.size ∧ ∀ j (h1 : j < its.toArray.size) (h2 : j < its2.toArray.size), SeqAt.EqAt A s its.toArray[j] its2.toArray[j] true := by
  obtain ⟨ps, qs, h1, h2, hl, hi⟩ := h
  obtain ⟨its, rv, pl, hz⟩ := I.list h1
  obtain ⟨its2, rv2, pl2, hz2⟩ := I.list h2
  have l1 := rv.length
  have l2 := rv2.length
  rw [List.length_map] at l1 l2
  refine ⟨its, its2, pl.isList, pl2.isList, by rw [List.size_toArray, List.size_toArray]; omega, fun j j1 j2 => ?_⟩
  have k1 : j < ps.length := by simp at j1; omega
  have k2 : j < qs.length := by omega
  obtain ⟨u1, e1, r1⟩ := rv.get (i := j) (x := .ref ps[j]) (by simp [k1])
  obtain ⟨u2, e2, r2⟩ := rv2.get (i := j) (x := .ref qs[j]) (by simp [k2])
  cases r1
  cases r2
  have g1 : its.toArray[j] = .ref ps[j] := by
    obtain ⟨_, z⟩ := List.getElem?_eq_some_iff.mp e1
    simpa using z
  have g2 : its2.toArray[j] = .ref qs[j] := by
    obtain ⟨_, z⟩ := List.getElem?_eq_some_iff.mp e2
    simpa using z
  obtain ⟨xs, q1, q2, fl⟩ := hi j ps[j] qs[j] (by simp [k1]) (by simp [k2])
  rw [g1, g2]
  exact eqAt_tup I q1 q2 fl hu
def rNeLT (K : PySem.W.Frag) : R2 := fun x y H Q => ∃ (p q : Addr), x = .ref p ∧ y = .ref q ∧ SameTs K H p q ∧ Q (.bl false) H
theorem op_neLT (hu : X.A.units + 64 < cLine) : OpR X (compareOp .NotEq) (rNeLT X.K) := by
  intro pins s σ H x y v u Q I rx ry h
  obtain ⟨p, q, rfl, rfl, h, k⟩ := h
  cases rx
  cases ry
  obtain ⟨its, its2, pl, pl2, hz, he⟩ := sameTs_at (A := X.A.in1) I h (by show X.A.units + 1 < _; omega)
  refine SeqAt.RcNeAt.lists (e := fun _ => true) pl pl2 hz (by omega) he _ _ _ _ ?_
  refine ⟨.bl false, H, I, ?_, k⟩
  show Value.bool _ = Value.bool _
  simp
def rEqLT (K : PySem.W.Frag) : R2 := fun x y H Q => ∃ (p q : Addr), x = .ref p ∧ y = .ref q ∧ SameTs K H p q ∧ Q (.bl true) H
theorem op_eqLT (hu : X.A.units + 64 < cLine) : OpR X (compareOp .Eq) (rEqLT X.K) := by
  intro pins s σ H x y v u Q I rx ry h
  obtain ⟨p, q, rfl, rfl, h, k⟩ := h
  cases rx
  cases ry
  obtain ⟨its, its2, pl, pl2, hz, he⟩ := sameTs_at (A := X.A.in1) I h (by show X.A.units + 1 < _; omega)
  refine SeqAt.RcAt.lists (e := fun _ => true) pl pl2 hz (by omega) he _ _ _ _ ?_
  refine ⟨.bl true, H, I, ?_, k⟩
  show Value.bool _ = Value.bool _
  simp
end
end L2

set_option Elab.async false
set_option linter.all false
set_option maxRecDepth 100000
set_option maxHeartbeats 4000000
namespace L2
open PySem PySem.Spec PyProof.Rows QQ
section
variable {X : Cx}
theorem op_is_bl : OpR X (compareOp .Is) (fun x y H Q => ∃ c d, x = .bl c ∧ y = .bl d ∧ Q (.bl (c == d)) H) := by
  intro pins s σ H x y v u Q I rx ry h
  obtain ⟨c, d, rfl, rfl, q⟩ := h
  cases rx
  cases ry
  exact PyProof.Rows.is_bool ⟨.bl (c == d), H, I, rfl, q⟩
/-! ### try, where nothing is raised -/
theorem ps_tryN {body : List Stmt} {h₀ : ExceptHandler} {hs : List ExceptHandler} {tb : TS} {pos : Pos} (hb : PSs X.nox body tb) : PS X (.Try body (h₀ :: hs) [] [] pos) tb := by
  intro pins s σ H D I h
  refine wpAny_Try_except (wpAny_mono (hb pins s σ H D (I.wish _) h) (fun f s1 q => ?_) fun e s1 q => q.elim)
  have q' : SP X pins D f s1 := SP.unwish q
  cases f with
  | next => exact wpAny_execs_nil q'
  | brk => exact q'
  | cont => exact q'
  | ret u => exact q'
/-! ### xs += ys of lists -/
theorem inI_list_add : typeLookup (.type "list") (dunderI "add") = pure (some (.builtin "list.__iadd__")) := PySem.F.slot_list_iadd.lookup
theorem seqI_list_add : seqSlot? (.type "list") (dunderI "add") = pure (some (.builtin "list.__iadd__")) := PyProof.Rows.seqSlot_of inI_list_add (by decide +kernel)
theorem inplace_list {M : Model} {A : Around} {E : Value → Shared → Prop} {s : Shared} {a b : Value} {Q : Value → Shared → Prop} (ha : s.TypeIs a "list") (hb : s.TypeIs b "list")
    (hc : wpAny M A (call (.builtin "list.__iadd__") [a, b]) Q E s) : wpAny M A (inplaceOp .Add a b) Q E s := by
  unfold inplaceOp
  refine wpAny_holding ?_
  have hfi : fillsInplaceSlot (.type "list") "add" (Operator.Add == .Add) = pure false := by
    unfold fillsInplaceSlot
    show (typeLookup (.type "list") (dunderI "add") >>= fun fi => pure (fi.isSome && !isSeqSlot fi)) = pure false
    rw [inI_list_add, pure_bind, show isSeqSlot (some (.builtin "list.__iadd__")) = true by decide +kernel]
    rfl
  refine wpAny_bind (wpAny_typeOf ha (wpAny_bind (wpAny_of_eq hfi ?_)))
  show wpAny M A (if false = true then _ else _) Q E s
  rw [if_neg Bool.false_ne_true]
  refine wpAny_bind (PyProof.Rows.binaryOp1_none (nm := "add") ha hb PySem.noFill_list_add ?_)
  refine wpAny_bind (wpAny_of_eq seqI_list_add ?_)
  exact wpAny_bind (wpAny_rule hc)
def ipL : TIp := fun x y H Q => ∃ l b xs zs, x = .ref l ∧ y = .ref b ∧ H l = some (.lst xs) ∧ H b = some (.lst zs) ∧ xs.length + zs.length ≤ sizeLine ∧ Q (.ref l) (upd H l (.lst (xs ++ zs)))
theorem ip_lcat : PIp X .Add ipL := by
  intro pins s σ H x y v u Q I rx ry h
  obtain ⟨l, b, xs, zs, rfl, rfl, hH, hB, hz, q⟩ := h
  cases rx
  cases ry
  obtain ⟨z, its, n, r, hl, e⟩ := I.lstM hH
  obtain ⟨z2, its2, n2, r2, hl2, e2⟩ := I.lstM hB
  have hsz : its.toArray.size + its2.toArray.size ≤ sizeLine := by rw [List.size_toArray, List.size_toArray]; omega
  have hlong : ¬ (!its.toArray.isEmpty && Builtin.List.listTooLong (its.toArray.size + its2.toArray.size)) = true := by
    rw [notLongL hsz, Bool.and_false]
    exact Bool.false_ne_true
  refine inplace_list ⟨_, e, rfl⟩ ⟨_, e2, rfl⟩ (call_meets PySem.F.slot_list_iadd ⟨_, e, rfl⟩ PySem.F.entry_list_iadd (PySem.F.args_list_iadd_2 _ _)
    (AutoSeq1.list___iadd___list_list_0 l its.toArray n b its2.toArray n2 hlong (by rw [List.size_toArray]; omega) (by omega)) ⟨e, e2, ?_⟩)
  refine ⟨.ref l, _, I.lset (its' := its ++ its2) hH e (by simp) (r.append r2) ?_, rfl, q⟩
  rw [List.length_append]
  omega
end
end L2

set_option Elab.async false
set_option linter.all false
set_option maxRecDepth 100000
set_option maxHeartbeats 4000000
namespace QQ
open PySem PyProof.Rows
section
variable {prog : Program} {w : World} {A : Around} {E : Value → Shared → Prop} {s : Shared}
theorem nextOf_end_q {it l : Addr} {i : Nat} {items} {Q : Value → Shared → Prop} (hq : Hq A s.heap)
    (hit : s.heap.IsListIter it l i) (hl : s.heap.IsList l items) (hx : items[i]? = none)
    (hE : ∀ h' e, Heap.ExtBut it s.heap h' → (∃ o, h'.get? e = some o ∧ o.cls = .type "StopIteration") → E (.ref e) { s with heap := h' }) :
    wpAny (model prog w) A (Builtin.SmallTypes.nextOf (.ref it)) Q E s := by
  obtain ⟨o, ho, hc, hd⟩ := id hit
  obtain ⟨ol, hol, _, nl, hdl⟩ := hl
  have hn := hq_not hq ho hd (by simp)
  unfold Builtin.SmallTypes.nextOf
  refine wpAny_bind (wpAny_callSpecial?_slot (name := Str.ofString "__next__") hit.typeIs slot_listiter_next (wpAny_call_entry slot_listiter_next hit.typeIs entry_listiter_next ?_ (args_listiter_next _)))
  show wpAny _ _ (field (.ref it) 0 >>= _) _ _ s
  refine wpAny_bind (wpAny_field ho hd (x := .ref l) rfl ?_)
  show wpAny _ _ (if (Value.ref l == Value.none) = true then _ else _) _ _ s
  rw [if_neg (show ¬ ((Value.ref l == Value.none) = true) from Bool.false_ne_true)]
  show wpAny _ _ (field (.ref it) 1 >>= _) _ _ s
  refine wpAny_bind (wpAny_field ho hd (x := .int i 0) rfl ?_)
  show wpAny _ _ (seqItems? (.ref l) >>= _) _ _ s
  refine wpAny_bind (wpAny_seqItems hol hdl ?_)
  simp only [Int.toNat_natCast, hx]
  refine wpAny_bind (wpAny_rule (wpAny_bind (wpAny_setField ho hd (by simp) ?_)))
  have sb1 := Heap.SameBut.update (h := s.heap) it (Obj.mapFields (·.setIfInBounds 0 Value.none))
  refine stop_quiet (A := A.in1) (hq.keep fun a ea o' e => sb1.extBut a o' (fun z => hn (by rw [ea, z])) e) fun h' e k he => ?_
  exact hE _ e (fun b ob hb e1 => k b ob (sb1.extBut b ob hb e1)) he
theorem zip_end_q0 {z TI TO i1 i2 l1 l2 : Addr} {k1 k2 : Nat} {xs ys : Array Value} {a b : Value} {Q : Fin → Shared → Prop} (hq : Hq A s.heap) (D : ZipApart z TI TO i1 i2 l1 l2)
    (hz : IsZip s.heap z TI TO .none) (hTI : IsPair s.heap TI (.ref i1) (.ref i2)) (hTO : IsPair s.heap TO a b)
    (h1 : s.heap.IsListIter i1 l1 k1) (h2 : s.heap.IsListIter i2 l2 k2) (hl1 : s.heap.IsList l1 xs) (hl2 : s.heap.IsList l2 ys) (hend : xs[k1]? = none ∨ ys[k2]? = none)
    (hE : ∀ h' e, (∀ c o, c ≠ z → c ≠ TO → c ≠ i1 → c ≠ i2 → s.heap.get? c = some o → h'.get? c = some o) → (∃ o, h'.get? e = some o ∧ o.cls = .type "StopIteration") → E (.ref e) { s with heap := h' }) :
    wpAny (model prog w) A (Builtin.«zip.__next__» ⟨[.ref z], []⟩) Q E s := by
  have nz : A.handled ≠ some (.ref z) := hq_not hq hz rfl (by simp)
  have n1 : A.handled ≠ some (.ref i1) := by obtain ⟨o, ho, _, hd⟩ := id h1; exact hq_not hq ho hd (by simp)
  have nTO : A.handled ≠ some (.ref TO) := by
    rcases hq with q | ⟨c, o, vs, e, g, d, _⟩
    · rw [q]; intro x; cases x
    · rw [e]
      intro x
      have : c = TO := Value.ref.inj (Option.some.inj x)
      subst this
      rw [hTO] at g; cases g
      cases d
  show wpAny _ _ (field (.ref z) 2 >>= _) _ _ _
  refine wpAny_bind (wpAny_field hz rfl (x := .bool false) rfl ?_)
  show wpAny _ _ (field (.ref z) 3 >>= _) _ _ _
  refine wpAny_bind (wpAny_field hz rfl (x := .ref TI) rfl ?_)
  refine wpAny_bind (wpAny_seqItems hTI rfl ?_)
  show wpAny _ _ (Builtin.SmallTypes.ownedTupleIsFree (.ref z) >>= _) _ _ _
  refine wpAny_bind ?_
  unfold Builtin.SmallTypes.ownedTupleIsFree
  refine wpAny_bind (wpAny_field hz rfl (x := .none) rfl (wpAny_pure ?_))
  simp only [if_true]
  refine wpAny_bind (wpAny_rule ?_)
  refine wpAny_bind (wpAny_field hz rfl (x := .ref TO) rfl ?_)
  refine wpAny_bind (wpAny_setField_rec hz (by simp) fun h₁ hz₁ hs₁ => ?_)
  replace hz₁ : IsZip h₁ z TI TO .ellipsis := hz₁
  have hq1 : Hq A h₁ := hq.keep fun c ec o e => hs₁.extBut _ _ (fun x => nz (by rw [ec, x])) e
  refine wpAny_bind ?_
  simp only [List.zipIdx_cons, List.zipIdx_nil, List.forIn_cons, List.forIn_nil]
  refine wpAny_bind (wpAny_bind (wpAny_onRaise ?_))
  show wpAny _ _ (Builtin.SmallTypes.nextOf (.ref i1) >>= _) _ _ _
  cases hx : xs[k1]? with
  | none =>
    refine wpAny_bind (nextOf_end_q hq1 (h1.extBut hs₁.extBut D.i1z) (hl1.extBut hs₁.extBut D.l1z) hx fun h₂ e hs₂ he => ?_)
    obtain ⟨oe, hoe, hce⟩ := he
    have hz₂ : IsZip h₂ z TI TO .ellipsis := hs₂ _ _ D.i1z.symm hz₁
    have hez : e ≠ z := fun x => by subst x; rw [hz₂] at hoe; cases hoe; simp at hce
    refine wpAny_setField_rec hz₂ (by simp) fun h₃ _ hs₃ => hE h₃ e (fun c o c1 _ c3 _ x => hs₃.extBut _ _ c1 (hs₂ _ _ c3 (hs₁.extBut _ _ c1 x))) ⟨oe, hs₃.extBut _ _ hez hoe, hce⟩
  | some x =>
    have hy : ys[k2]? = none := by rcases hend with h | h; rw [hx] at h; cases h; exact h
    refine wpAny_bind (wpAny_nextOf_list_item (h1.extBut hs₁.extBut D.i1z) (hl1.extBut hs₁.extBut D.l1z) hx fun h₂ h1₂ hs₂ => wpAny_pure ?_)
    have hq2 : Hq A h₂ := hq1.keep fun c ec o e => hs₂.extBut _ _ (fun x => n1 (by rw [ec, x])) e
    have hTO₂ : IsPair h₂ TO a b := hs₂.extBut _ _ D.TOi1 (hs₁.extBut _ _ D.TOz hTO)
    refine wpAny_bind (wpAny_seqItems hTO₂ rfl ?_)
    refine wpAny_bind (wpAny_updateSeq_pair hTO₂ fun h₃ hTO₃ hs₃ => ?_)
    have hq3 : Hq A h₃ := hq2.keep fun c ec o e => hs₃.extBut _ _ (fun x => nTO (by rw [ec, x])) e
    refine wpAny_bind (wpAny_letGo (wpAny_pure ?_))
    refine wpAny_bind (wpAny_bind (wpAny_onRaise ?_))
    show wpAny _ _ (Builtin.SmallTypes.nextOf (.ref i2) >>= _) _ _ _
    refine wpAny_bind (nextOf_end_q hq3 (((h2.extBut hs₁.extBut D.i2z).extBut hs₂.extBut D.i12.symm).extBut hs₃.extBut D.TOi2.symm)
      (((hl2.extBut hs₁.extBut D.l2z).extBut hs₂.extBut D.l2i1).extBut hs₃.extBut D.l2TO) hy fun h₄ e hs₄ he => ?_)
    obtain ⟨oe, hoe, hce⟩ := he
    have hz₄ : IsZip h₄ z TI TO .ellipsis := hs₄ _ _ D.i2z.symm (hs₃.extBut _ _ D.TOz.symm (hs₂.extBut _ _ D.i1z.symm hz₁))
    have hez : e ≠ z := fun x => by subst x; rw [hz₄] at hoe; cases hoe; simp at hce
    refine wpAny_setField_rec hz₄ (by simp) fun h₅ _ hs₅ => hE h₅ e (fun c o c1 c2 c3 c4 x => hs₅.extBut _ _ c1 (hs₄ _ _ c4 (hs₃.extBut _ _ c2 (hs₂.extBut _ _ c3 (hs₁.extBut _ _ c1 x))))) ⟨oe, hs₅.extBut _ _ hez hoe, hce⟩
theorem zip_end_q {z TI TO i1 i2 l1 l2 : Addr} {k1 k2 : Nat} {xs ys : Array Value} {a b : Value} {Q : Option Value → Shared → Prop} (hq : Hq A s.heap) (D : ZipApart z TI TO i1 i2 l1 l2)
    (hz : IsZip s.heap z TI TO .none) (hTI : IsPair s.heap TI (.ref i1) (.ref i2)) (hTO : IsPair s.heap TO a b)
    (h1 : s.heap.IsListIter i1 l1 k1) (h2 : s.heap.IsListIter i2 l2 k2) (hl1 : s.heap.IsList l1 xs) (hl2 : s.heap.IsList l2 ys) (hend : xs[k1]? = none ∨ ys[k2]? = none)
    (hQ : ∀ h', (∀ c o, c ≠ z → c ≠ TO → c ≠ i1 → c ≠ i2 → s.heap.get? c = some o → h'.get? c = some o) → Q none { s with heap := h' }) : wpAny (model prog w) A (pyNext (.ref z)) Q E s := by
  have hT : s.TypeIs (.ref z) "zip" := ⟨_, hz, rfl⟩
  unfold pyNext
  refine wpAny_bind (wpAny_attempt (wpAny_callSpecial?_slot (name := Str.ofString "__next__") hT PySem.F.slot_zip_next
    (wpAny_call_entry PySem.F.slot_zip_next hT PySem.F.entry_zip_next (zip_end_q0 (A := A.in1) hq D hz hTI hTO h1 h2 hl1 hl2 hend fun h' e hk he => ?_) (PySem.F.args_zip_next_1 _))))
  obtain ⟨o, ho, hc⟩ := he
  refine wpAny_bind (wpAny_isInstance (T := "StopIteration") (b := true) ⟨o, ho, hc⟩ isSubtype_stop ?_)
  exact wpAny_pure (hQ _ hk)
end
end QQ
namespace L2
open PySem PySem.Spec PyProof.Rows QQ
/-! ### zip of two lists -/
def Itz (K : PySem.W.Frag) (a b : Addr) : It :=
  ⟨fun i H => ∃ xs ys x y, SqL K H a xs ∧ SqL K H b ys ∧ xs[i]? = some x ∧ ys[i]? = some y,
   fun i H v H' => ∃ p x y, H p = none ∧ v = .ref p ∧ H' = upd H p (.tup [x, y]) ∧ (∀ xs, SqL K H a xs → xs[i]? = some x) ∧ ∀ ys, SqL K H b ys → ys[i]? = some y,
   fun i H => ∃ xs ys, SqL K H a xs ∧ SqL K H b ys ∧ (xs.length ≤ i ∨ ys.length ≤ i)⟩
theorem turn_zip {P : Program} {w : World} {K : PySem.W.Frag} {es : List Expr} {k : Nat} {pos : Pos} {a b z TI TO i1 i2 : Addr} (D : ZipApart z TI TO i1 i2 a b) :
    Turn P w K (.Tuple es k pos) (Itz K a b) [z, TI, TO, i1, i2] z (fun i h => IsZip h z TI TO .none ∧ IsPair h TI (.ref i1) (.ref i2) ∧ (∃ u v, IsPair h TO u v) ∧ h.IsListIter i1 a i ∧ h.IsListIter i2 b i) where
  mem := by simp
  obj := fun i h st c hc => by
    obtain ⟨hz, hTI, ⟨u, v, hTO⟩, h1, h2⟩ := st
    simp only [List.mem_cons, List.not_mem_nil, or_false] at hc
    rcases hc with rfl | rfl | rfl | rfl | rfl
    · exact ⟨_, hz, fun v z => by cases z⟩
    · exact ⟨_, hTI, fun v z => by cases z⟩
    · exact ⟨_, hTO, fun v z => by cases z⟩
    · obtain ⟨o, e', c, d⟩ := h1
      exact ⟨o, e', fun v z => by rw [d] at z; cases z⟩
    · obtain ⟨o, e', c, d⟩ := h2
      exact ⟨o, e', fun v z => by rw [d] at z; cases z⟩
  keep := fun i h h' st k => by
    obtain ⟨hz, hTI, ⟨u, v, hTO⟩, h1, h2⟩ := st
    exact ⟨k z (by simp) _ hz, k TI (by simp) _ hTI, ⟨u, v, k TO (by simp) _ hTO⟩, h1.at fun o x => k i1 (by simp) o x, h2.at fun o x => k i2 (by simp) o x⟩
  item := by
    intro X hP hw hK hc i pins s σ H E I hf st hg
    subst hP hw hK
    obtain ⟨hz, hTI, ⟨u0, v0, hTO⟩, h1, h2⟩ := st
    obtain ⟨xs, ys, x, y, hq1, hq2, hx, hy⟩ := hg
    obtain ⟨its, rv, p, hsz1⟩ := I.list hq1
    obtain ⟨its2, rv2, p2, hsz2⟩ := I.list hq2
    obtain ⟨u, hu, ru⟩ := rv.get hx
    obtain ⟨v, hv, rw'⟩ := rv2.get hy
    have zlt : z < s.heap.objs.size := Heap.lt_size hz
    have TIlt : TI < s.heap.objs.size := Heap.lt_size hTI
    have TOlt : TO < s.heap.objs.size := Heap.lt_size hTO
    have i1lt : i1 < s.heap.objs.size := by obtain ⟨o, e', _⟩ := id h1; exact Heap.lt_size e'
    have i2lt : i2 < s.heap.objs.size := by obtain ⟨o, e', _⟩ := id h2; exact Heap.lt_size e'
    have hT : H s.heap.objs.size = none := I.hok.fresh (Nat.le_refl _)
    refine wpAny_pyNext_zip_item D hz hTI hTO h1 h2 p.isList p2.isList (x := u) (y := v) (by simpa using hu) (by simpa using hv) fun h' hz' hTO' h1' h2' ht' hsz' kk => ?_
    refine ⟨_, rfl, wpAny_letOwnedTupleGo_zip (s := { s with heap := h' }) hz' fun h3 hz3 hs3 => ?_⟩
    have kept : ∀ c o, c ≠ z → c ≠ TO → c ≠ i1 → c ≠ i2 → s.heap.get? c = some o → h3.get? c = some o := fun c o n1 n2 n3 n4 e => (hs3.2 c n1).trans (kk c o n1 n2 n3 n4 e)
    have htup : h3.get? s.heap.objs.size = some { cls := .type "tuple", data := .seq #[u, v] } := (hs3.2 _ (Nat.ne_of_gt zlt)).trans ht'
    have hT2 : ∀ c o, s.heap.get? c = some o → c ≠ s.heap.objs.size := fun c o e => Nat.ne_of_lt (Heap.lt_size e)
    have nT : ∀ c o, H c = some o → c ≠ s.heap.objs.size := fun c o e q => by rw [q, hT] at e; cases e
    have nF : ∀ c o, H c = some o → c ≠ z ∧ c ≠ TO ∧ c ≠ i1 ∧ c ≠ i2 := fun c o e => ⟨fun q => (by rw [q, (hf z (by simp)).1] at e; cases e), fun q => (by rw [q, (hf TO (by simp)).1] at e; cases e), fun q => (by rw [q, (hf i1 (by simp)).1] at e; cases e), fun q => (by rw [q, (hf i2 (by simp)).1] at e; cases e)⟩
    have hTI3 : IsPair h3 TI (.ref i1) (.ref i2) := kept _ _ D.TIz D.TITO D.TIi1 D.TIi2 hTI
    have hTO3 : IsPair h3 TO u v := (hs3.2 _ D.TOz).trans hTO'
    have h13 : h3.IsListIter i1 a (i + 1) := h1'.at fun o e => (hs3.2 _ D.i1z).trans e
    have h23 : h3.IsListIter i2 b (i + 1) := h2'.at fun o e => (hs3.2 _ D.i2z).trans e
    have mem4 : ∀ {c : Addr}, c ∈ [z, TO, i1, i2] → c ∈ [z, TI, TO, i1, i2] := fun {c} hc => by
      simp only [List.mem_cons, List.not_mem_nil, or_false] at hc ⊢
      rcases hc with h | h | h | h <;> simp [h]
    have nch : ∀ {c : Addr}, c ∉ [z, TO, i1, i2] → c ≠ z ∧ c ≠ TO ∧ c ≠ i1 ∧ c ≠ i2 := fun {c} hc => ⟨fun q => hc (by simp [q]), fun q => hc (by simp [q]), fun q => hc (by simp [q]), fun q => hc (by simp [q])⟩
    have I2 : Inv X pins σ (upd H s.heap.objs.size (.tup [x, y])) { s with heap := h3 } := by
      refine I.step (g' := s.gens) (d' := s.drawn) (t' := s.toks) (ch := [z, TO, i1, i2]) (fun c hc' => ?_) (fun c o _ _ hc' e _ => let ⟨n1, n2, n3, n4⟩ := nch hc'; kept c o n1 n2 n3 n4 e)
        (fun c o _ _ hc' e _ => let ⟨n1, n2, n3, n4⟩ := nch hc'; ⟨o.slots, kept c o n1 n2 n3 n4 e⟩) (fun c o _ e n => by rw [upd_ne (hT2 c o e)]; exact n)
        (fun c o hc' e => let ⟨n1, n2, n3, n4⟩ := nch hc'; ⟨o, kept c o n1 n2 n3 n4 e⟩) (fun c xs e => by rw [upd_ne (nT c _ e)]; exact e) (fun c o u e => by rw [upd_ne (nT c _ e)]; exact e)
        (fun c ps e => ⟨#[], by rw [upd_ne (nT c _ e), e]; simp⟩) (fun m hm => ?_) (fun c o e => ?_) I.bare
      · obtain ⟨e0, e1, e2, e3, e4, e5⟩ := hf c (mem4 hc')
        exact ⟨e3, e1, e4, e5⟩
      · obtain ⟨o, es', ep, ho', r⟩ := hm
        exact ⟨o, es', ep, kept _ o (Ne.symm (hf z (by simp)).2.1) (Ne.symm (hf TO (by simp)).2.1) (Ne.symm (hf i1 (by simp)).2.1) (Ne.symm (hf i2 (by simp)).2.1) ho', r⟩
      · by_cases hb : c = s.heap.objs.size
        · subst hb
          rw [upd_same] at e
          cases e
          exact ⟨by show 2 ≤ sizeLine; decide, [u, v], .cons ru (.cons rw' .nil), ⟨_, htup, rfl, _, rfl⟩⟩
        · rw [upd_ne hb] at e
          refine (I.hok c o e).stay (fun c' v hc' q => ?_) (fun c q => by rw [upd_ne (nT c _ q)]; exact q) fun c xs q => by rw [upd_ne (nT c _ q)]; exact q
          rcases hc' with q' | q'
          · subst q'; obtain ⟨n1, n2, n3, n4⟩ := nF _ _ e; exact kept c' v n1 n2 n3 n4 q
          · obtain ⟨n1, n2, n3, n4⟩ := nF _ _ q'; exact kept c' v n1 n2 n3 n4 q
    refine ⟨.ref s.heap.objs.size, _, I2, rfl, ⟨_, x, y, hT, rfl, rfl, fun zs hz => by rw [I.list_inj hz hq1]; exact hx, fun zs hz => by rw [I.list_inj hz hq2]; exact hy⟩, ⟨hz3, hTI3, ⟨u, v, hTO3⟩, h13, h23⟩, fun c hc' => ?_⟩
    have hlt : c < s.heap.objs.size := by
      simp only [List.mem_cons, List.not_mem_nil, or_false] at hc'
      rcases hc' with rfl | rfl | rfl | rfl | rfl <;> assumption
    rw [upd_ne (Nat.ne_of_lt hlt)]
    exact (hf c hc').1
  done := by
    intro X hP hw hK hc i pins s σ H E I hf st hg
    subst hP hw hK
    obtain ⟨hz, hTI, ⟨u0, v0, hTO⟩, h1, h2⟩ := st
    obtain ⟨xs, ys, hq1, hq2, hend⟩ := hg
    obtain ⟨its, rv, p, hsz1⟩ := I.list hq1
    obtain ⟨its2, rv2, p2, hsz2⟩ := I.list hq2
    have l1 := rv.length
    have l2 := rv2.length
    refine zip_end_q I.hq D hz hTI hTO h1 h2 p.isList p2.isList (by rcases hend with h | h; exact .inl (by simp; omega); exact .inr (by simp; omega)) fun h' kk => ⟨rfl, ?_⟩
    have nF : ∀ c o, H c = some o → c ≠ z ∧ c ≠ TO ∧ c ≠ i1 ∧ c ≠ i2 := fun c o e => ⟨fun q => (by rw [q, (hf z (by simp)).1] at e; cases e), fun q => (by rw [q, (hf TO (by simp)).1] at e; cases e), fun q => (by rw [q, (hf i1 (by simp)).1] at e; cases e), fun q => (by rw [q, (hf i2 (by simp)).1] at e; cases e)⟩
    have mem4 : ∀ {c : Addr}, c ∈ [z, TO, i1, i2] → c ∈ [z, TI, TO, i1, i2] := fun {c} hc => by
      simp only [List.mem_cons, List.not_mem_nil, or_false] at hc ⊢
      rcases hc with h | h | h | h <;> simp [h]
    have nch : ∀ {c : Addr}, c ∉ [z, TO, i1, i2] → c ≠ z ∧ c ≠ TO ∧ c ≠ i1 ∧ c ≠ i2 := fun {c} hc => ⟨fun q => hc (by simp [q]), fun q => hc (by simp [q]), fun q => hc (by simp [q]), fun q => hc (by simp [q])⟩
    refine I.step (g' := s.gens) (d' := s.drawn) (t' := s.toks) (ch := [z, TO, i1, i2]) (fun c hc' => ?_) (fun c o _ _ hc' e _ => let ⟨n1, n2, n3, n4⟩ := nch hc'; kk c o n1 n2 n3 n4 e)
      (fun c o _ _ hc' e _ => let ⟨n1, n2, n3, n4⟩ := nch hc'; ⟨o.slots, kk c o n1 n2 n3 n4 e⟩) (fun c o _ e n => n)
      (fun c o hc' e => let ⟨n1, n2, n3, n4⟩ := nch hc'; ⟨o, kk c o n1 n2 n3 n4 e⟩) (fun c xs e => e) (fun c o u e => e)
      (fun c ps e => ⟨#[], by rw [e]; simp⟩) (fun m hm => ?_) (fun c o e => ?_) I.bare
    · obtain ⟨e0, e1, e2, e3, e4, e5⟩ := hf c (mem4 hc')
      exact ⟨e3, e1, e4, e5⟩
    · obtain ⟨o, es', ep, ho', r⟩ := hm
      exact ⟨o, es', ep, kk _ o (Ne.symm (hf z (by simp)).2.1) (Ne.symm (hf TO (by simp)).2.1) (Ne.symm (hf i1 (by simp)).2.1) (Ne.symm (hf i2 (by simp)).2.1) ho', r⟩
    · refine (I.hok c o e).stay (fun c' v hc' q => ?_) (fun c q => q) fun c xs q => q
      rcases hc' with q' | q'
      · subst q'; obtain ⟨n1, n2, n3, n4⟩ := nF _ _ e; exact kk c' v n1 n2 n3 n4 q
      · obtain ⟨n1, n2, n3, n4⟩ := nF _ _ q'; exact kk c' v n1 n2 n3 n4 q
  self := fun _ _ _ _ _ st h => by
    obtain ⟨hz, _⟩ := st
    exact wpAny_pyIter_zip hz h
def iZip (K : PySem.W.Frag) (ta : TA) : TI := fun σ H R => ta σ H fun vs H1 => ∃ l1 l2 xs ys, vs = [.ref l1, .ref l2] ∧ SqL K H1 l1 xs ∧ SqL K H1 l2 ys ∧ R (Itz K l1 l2) H1
theorem pi_zip {X : Cx} {a b : Expr} {ta : TA} {p pos q : Pos} {es : List Expr} {k : Nat} (hg : Gl X "zip") (hm : X.mg "zip" = none) (ha : PA X [a, b] ta) (hs : starEach [a, b] X.env = (false, eval a X.env) :: starEach [b] X.env := by rfl) (hs2 : starEach [b] X.env = [(false, eval b X.env)] := by rfl) :
    PI X (.Tuple es k q) (.Call (.Name "zip" p) [a, b] [] pos) (iZip X.K ta) := by
  intro pins s σ H R I h
  refine Call_ (ld_blt I hg hm boot_zip (PyProof.Rows.callWith_type1 (thn (ha pos pins s σ H _ I h) fun us s1 ⟨vs, H1, I1, r1, q1⟩ => ?_) hs (by rw [hs2]; rfl)))
  obtain ⟨l1, l2, xs, ys, e, hq1, hq2, q⟩ := q1
  subst e
  obtain ⟨u1, u2, rfl, r2, r3⟩ := vals2 r1
  cases r2
  cases r3
  obtain ⟨its, rv, p1, hz1⟩ := I1.list hq1
  obtain ⟨its2, rv2, p2, hz2⟩ := I1.list hq2
  have a1 : l1 < s1.heap.objs.size := by obtain ⟨o, e, _⟩ := p1.isList; exact Heap.lt_size e
  have a2 : l2 < s1.heap.objs.size := by obtain ⟨o, e, _⟩ := p2.isList; exact Heap.lt_size e
  refine call_zip_2 p1.isList p2.isList fun h' hz hTI hTO hit1 hit2 hsz hk => ?_
  have I2 : Inv X pins σ H1 { s1 with heap := h' } := I1.kept (t' := s1.toks) hk
  refine wpAny_pyIter_zip hz ⟨s1.heap.objs.size + 4, [s1.heap.objs.size + 4, s1.heap.objs.size + 2, s1.heap.objs.size + 3, s1.heap.objs.size, s1.heap.objs.size + 1], _, _, H1, rfl, I2, turn_zip (zipApart_new a1 a2), ⟨hz, hTI, ⟨_, _, hTO⟩, hit1, hit2⟩, fun c hc => ?_, q⟩
  have hb' : s1.heap.objs.size ≤ c := by
    simp only [List.mem_cons, List.not_mem_nil, or_false] at hc
    rcases hc with rfl | rfl | rfl | rfl | rfl <;> first | exact Nat.le_refl _ | exact Nat.le_add_right _ _
  exact I1.fpOk hb' (I1.hok.fresh hb')
theorem for_zip {K : PySem.W.Frag} {a b : Addr} {xs ys : List V} {g : TG} {tb : TS} {D : Ends} {σ : St} {H : Hp} (Pv : Nat → St → Hp → Prop) (hlen : xs.length = ys.length) (h0 : Pv 0 σ H) (hl : ∀ i σ H, i ≤ xs.length → Pv i σ H → SqL K H a xs ∧ SqL K H b ys)
    (hs : ∀ i x y p σ H, xs[i]? = some x → ys[i]? = some y → H p = none → Pv i σ H → g (.ref p) σ (upd H p (.tup [x, y])) fun σ2 H2 => tb { D with nx := Pv (i + 1), ct := Pv (i + 1), bk := D.nx } σ2 H2) (hd : ∀ σ H, Pv xs.length σ H → D.nx σ H) :
    ∃ W : Nat → Nat → St → Hp → Prop, (∃ m, W 0 m σ H) ∧ ∀ i m σ H, W i m σ H →
      ((Itz K a b).stop i H ∧ D.nx σ H) ∨ ((Itz K a b).go i H ∧ ∃ N : St → Hp → Prop, (∀ σ' H', N σ' H' → ∃ m', m' < m ∧ W (i + 1) m' σ' H') ∧ ∀ x H', (Itz K a b).yld i H x H' → g x σ H' fun σ2 H2 => tb { D with nx := N, ct := N, bk := D.nx } σ2 H2) := by
  refine ⟨fun i m σ H => m = xs.length - i ∧ i ≤ xs.length ∧ Pv i σ H, ⟨xs.length, by simp, Nat.zero_le _, h0⟩, ?_⟩
  rintro i m σ H ⟨rfl, hi, p⟩
  obtain ⟨q1, q2⟩ := hl i σ H hi p
  by_cases hlt : i < xs.length
  · refine .inr ⟨⟨xs, ys, xs[i], ys[i]'(by omega), q1, q2, by simp [hlt], by simp [show i < ys.length by omega]⟩, Pv (i + 1), fun σ' H' p' => ⟨xs.length - (i + 1), by omega, rfl, hlt, p'⟩, fun x H' y => ?_⟩
    obtain ⟨p1, x1, y1, hp1, e1, e2, w1, w2⟩ := y
    subst e1 e2
    exact hs i x1 y1 p1 σ _ (w1 xs q1) (w2 ys q2) hp1 p
  · have e : i = xs.length := by omega
    subst e
    exact .inl ⟨⟨xs, ys, q1, q2, .inl (Nat.le_refl _)⟩, hd σ H p⟩
/-! ### t != u of tuples of plain things, the same ones -/
def rNeTT (K : PySem.W.Frag) : R2 := fun x y H Q => ∃ (p q : Addr) (xs : List V), x = .ref p ∧ y = .ref q ∧ SqT K H p xs ∧ SqT K H q xs ∧ xs.all flatV = true ∧ Q (.bl false) H
theorem op_neTT {X : Cx} (hu : X.A.units + 64 < cLine) : OpR X (compareOp .NotEq) (rNeTT X.K) := by
  intro pins s σ H x y v u Q I rx ry h
  obtain ⟨p, q, xs, rfl, rfl, ha, hb, fl, k⟩ := h
  cases rx
  cases ry
  obtain ⟨its, rv, pl, hz⟩ := I.tuple ha
  obtain ⟨its2, rv2, pl2, hz2⟩ := I.tuple hb
  have l1 := rv.length
  have l2 := rv2.length
  refine SeqAt.RcNeAt.tuples (e := fun _ => true) (show s.heap.IsTuple p its.toArray from pl) (show s.heap.IsTuple q its2.toArray from pl2) (by omega) (fun j h1 h2 => ?_) _ _ _ _ ?_
  · have j1 : j < xs.length := by simp at h1; omega
    obtain ⟨u1, e1, r1⟩ := rv.get (i := j) (x := xs[j]) (by simp [j1])
    obtain ⟨u2, e2, r2⟩ := rv2.get (i := j) (x := xs[j]) (by simp [j1])
    have g1 : its.toArray[j] = u1 := by
      obtain ⟨_, z⟩ := List.getElem?_eq_some_iff.mp e1
      simpa using z
    have g2 : its2.toArray[j] = u2 := by
      obtain ⟨_, z⟩ := List.getElem?_eq_some_iff.mp e2
      simpa using z
    have f1 : flatV xs[j] = true := List.all_eq_true.mp fl _ (List.getElem_mem j1)
    rw [g1, g2, ← eqV_self _ f1]
    exact eqAt_V r1 r2 f1 f1
  · refine ⟨.bl false, H, I, ?_, k⟩
    show Value.bool _ = Value.bool _
    congr 1
    rw [List.size_toArray, List.size_toArray, ← l1, ← l2]
    simp
/-! ### lists of lists of ints compared, the same ones -/
theorem eqAt_lst {X : Cx} {pins : List (Addr × Obj)} {σ : St} {H : Hp} {s : Shared} (I : Inv X pins σ H s) {a b : Addr} {ns : List Int} (ha : SqL X.K H a (ns.map V.int)) (hb : SqL X.K H b (ns.map V.int)) {A : Around} (hu : A.units < cLine) : SeqAt.EqAt A s (.ref a) (.ref b) true := by
  by_cases e : a = b
  · subst e; exact .same _
  · obtain ⟨its, rv, pl, hz⟩ := I.list ha
    obtain ⟨its2, rv2, pl2, hz2⟩ := I.list hb
    have l1 := rv.length
    have l2 := rv2.length
    rw [List.length_map] at l1 l2
    refine .of_refs e ?_
    have R := SeqAt.RcAt.lists (A := A) (e := fun _ => true) pl.isList pl2.isList (by rw [List.size_toArray, List.size_toArray]; omega) hu (fun j h1 h2 => ?_)
    · have e2 : (List.range its.toArray.size).all (fun _ => true) = true := by simp
      rw [e2] at R
      exact R
    · have j1 : j < ns.length := by simp at h1; omega
      obtain ⟨u1, e1, r1⟩ := rv.get (i := j) (x := .int ns[j]) (by simp [j1])
      obtain ⟨u2, e2, r2⟩ := rv2.get (i := j) (x := .int ns[j]) (by simp [j1])
      have g1 : its.toArray[j] = u1 := by
        obtain ⟨_, z⟩ := List.getElem?_eq_some_iff.mp e1
        simpa using z
      have g2 : its2.toArray[j] = u2 := by
        obtain ⟨_, z⟩ := List.getElem?_eq_some_iff.mp e2
        simpa using z
      have hh : eqV (V.int ns[j]) (V.int ns[j]) = true := eqV_self _ rfl
      rw [g1, g2, ← hh]
      exact eqAt_V r1 r2 rfl rfl
def SameLs (K : PySem.W.Frag) (H : Hp) (p q : Addr) : Prop := ∃ ps qs : List Addr, SqL K H p (ps.map V.ref) ∧ SqL K H q (qs.map V.ref) ∧ ps.length = qs.length ∧ ∀ (i : Nat) (a b : Addr), ps[i]? = some a → qs[i]? = some b → ∃ ns : List Int, SqL K H a (ns.map V.int) ∧ SqL K H b (ns.map V.int)
def rNeLL (K : PySem.W.Frag) : R2 := fun x y H Q => ∃ (p q : Addr), x = .ref p ∧ y = .ref q ∧ SameLs K H p q ∧ Q (.bl false) H
theorem op_neLL {X : Cx} (hu : X.A.units + 64 < cLine) : OpR X (compareOp .NotEq) (rNeLL X.K) := by
  intro pins s σ H x y v u Q I rx ry h
  obtain ⟨p, q, rfl, rfl, ⟨ps, qs, h1, h2, hl, hi⟩, k⟩ := h
  cases rx
  cases ry
  obtain ⟨its, rv, pl, hz⟩ := I.list h1
  obtain ⟨its2, rv2, pl2, hz2⟩ := I.list h2
  have l1 := rv.length
  have l2 := rv2.length
  rw [List.length_map] at l1 l2
  refine SeqAt.RcNeAt.lists (e := fun _ => true) pl.isList pl2.isList (by rw [List.size_toArray, List.size_toArray]; omega) (by omega) (fun j j1 j2 => ?_) _ _ _ _ ?_
  · have k1 : j < ps.length := by simp at j1; omega
    have k2 : j < qs.length := by omega
    obtain ⟨u1, e1, r1⟩ := rv.get (i := j) (x := .ref ps[j]) (by simp [k1])
    obtain ⟨u2, e2, r2⟩ := rv2.get (i := j) (x := .ref qs[j]) (by simp [k2])
    cases r1
    cases r2
    have g1 : its.toArray[j] = .ref ps[j] := by
      obtain ⟨_, z⟩ := List.getElem?_eq_some_iff.mp e1
      simpa using z
    have g2 : its2.toArray[j] = .ref qs[j] := by
      obtain ⟨_, z⟩ := List.getElem?_eq_some_iff.mp e2
      simpa using z
    obtain ⟨ns, q1, q2⟩ := hi j ps[j] qs[j] (by simp [k1]) (by simp [k2])
    rw [g1, g2]
    exact eqAt_lst I q1 q2 (by show X.A.units + 1 < _; omega)
  · refine ⟨.bl false, H, I, ?_, k⟩
    show Value.bool _ = Value.bool _
    simp
end L2

set_option Elab.async false
set_option linter.all false
set_option maxRecDepth 100000
set_option maxHeartbeats 4000000
namespace L2
open PySem PySem.Spec PyProof.Rows QQ
/-! ### comprehensions with captured names, with a test, as values -/
def tCompCI (js : List (Option Nat)) (wi : TI) (g : TG) (tt : TT) (te : TE) : TE := fun σ H Q => wi σ H fun J H1 => ∀ l, H1 l = none → ∃ W : Nat → Nat → List V → St → Hp → Prop,
  (∃ m, W 0 m [] (cap js σ) (upd H1 l (.lst []))) ∧ ∀ i m ys σ' H', W i m ys σ' H' →
    (J.stop i H' ∧ Q (.ref l) H') ∨ (J.go i H' ∧ ∀ x H2, J.yld i H' x H2 → g x σ' H2 fun σ3 H3 => tt σ3 H3 fun c H5 => if c = true then te σ3 H5 fun y H4 =>
      H4 l = some (.lst ys) ∧ ys.length < sizeLine ∧ ∃ m', m' < m ∧ W (i + 1) m' (ys ++ [y]) σ3 (upd H4 l (.lst (ys ++ [y]))) else ∃ m', m' < m ∧ W (i + 1) m' ys σ3 H5)
section
variable {X : Cx} {N : List Str} {scope : Scope} {cl : List (Str × Addr)} {js : List (Option Nat)} {elt cnd target iter : Expr} {pos : Pos} {wi : TI} {g : TG} {tt : TT} {te : TE}
theorem compCI_core {pins : List (Addr × Obj)} {σ : St} {H : Hp} {s : Shared} {Q : VK} {RR : Value → Addr → Result → Shared → Prop}
    (hc : X.calm = true) (Cp : Caps X N scope cl js)
    (hi : PI X target iter wi) (hg : ∀ fp s H, PG (cxCompC X N scope cl fp s H) target g) (ht : ∀ fp s H, PT (cxCompC X N scope cl fp s H) cnd tt) (he : ∀ fp s H, PE (cxCompC X N scope cl fp s H) elt te)
    (I : Inv X pins σ H s) (h : tCompCI js wi g tt te σ H Q)
    (hR : ∀ (l C : Addr) (H' : Hp) (s' : Shared), Inv X pins σ H' s' → FpOk X pins H' C → (∃ m, s'.heap.Ns C m) → Q (.ref l) H' → RR (.ref l) C (.ok .next) s') :
    wpAny (model X.prog X.w) X.A (eval iter X.env) (fun x s₁ => wpAny (model X.prog X.w) X.A (pyIter x) (fun it s₂ => wpAny (model X.prog X.w) X.A (newList []) (fun acc s₃ =>
      wpAny (model X.prog X.w) X.A (newFunctionEnv scope X.env.globals cl [] X.env.qual none .none (some X.env)) (fun cenv s₄ =>
        codeAny (model X.prog X.w) X.A (.compStart (.ListComp elt [⟨target, iter, [cnd], 0⟩] scope pos) 0 it acc { cenv with scope := relabel scope X.env }) (RR acc cenv.locals) s₄) X.xe s₃) X.xe s₂) X.xe s₁) X.xe s := by
  refine thn (hi pins s σ H _ I h) fun v s1 h1 => thn h1 fun itv s2 h2 => ?_
  obtain ⟨it, fp, tn, J, H2, e, I2, T, st2, f2, hw⟩ := h2
  subst e
  have hl2 : H2 s2.heap.objs.size = none := I2.hok.fresh (Nat.le_refl _)
  obtain ⟨W, ⟨m0, w0⟩, turn⟩ := hw s2.heap.objs.size hl2
  have lt2 : ∀ b ∈ fp, b < s2.heap.objs.size := fun b hb => let ⟨o, e, _⟩ := T.obj _ _ st2 b hb; Heap.lt_size e
  refine wpAny_newList ?_
  have I3 : Inv X pins σ (upd H2 s2.heap.objs.size (.lst [])) { s2 with heap := s2.heap.push { cls := .type "list", data := .seq ([] : List Value).toArray } } :=
    I2.laid (t' := s2.toks) (fun b u e => Heap.get?_push_of_some _ e) (Nat.le_refl _) ⟨Nat.zero_le _, [], 0, .nil, Heap.get?_push_size _ rfl⟩
  have st3 : tn 0 (s2.heap.push { cls := .type "list", data := .seq ([] : List Value).toArray }) := T.keep _ _ _ st2 fun b hb o e => Heap.get?_push_of_some _ e
  have lt3 : ∀ b ∈ fp, b < (s2.heap.push { cls := .type "list", data := .seq ([] : List Value).toArray }).objs.size := fun b hb => by rw [Heap.size_push]; exact Nat.lt_succ_of_lt (lt2 b hb)
  have f3 : ∀ b ∈ fp, FpOk X pins (upd H2 s2.heap.objs.size (.lst [])) b := fun b hb => ⟨by rw [upd_ne (Nat.ne_of_lt (lt2 b hb))]; exact (f2 b hb).1, (f2 b hb).2⟩
  generalize s2.heap.objs.size = l at *
  generalize upd H2 l (.lst []) = H3 at *
  have hs3 : ∃ s3 : Shared, s3 = { s2 with heap := s2.heap.push { cls := .type "list", data := .seq ([] : List Value).toArray } } := ⟨_, rfl⟩
  obtain ⟨s3, e3⟩ := hs3
  rw [← e3] at I3
  rw [← e3]
  have st3 : tn 0 s3.heap := by rw [e3]; exact st3
  have lt3 : ∀ b ∈ fp, b < s3.heap.objs.size := by rw [e3]; exact lt3
  clear e3
  refine wpAny_newFunctionEnv Cp.nocell (by intro y hy; simp at hy) (fun h4 hns hsb => ?_) Cp.kind
  have kp : ∀ b o, s3.heap.get? b = some o → h4.get? b = some o := fun b o e => hsb.extBut b o (Nat.ne_of_lt (Heap.lt_size e)) (Heap.get?_push_of_some _ e)
  have I4 := inv_compC (N := N) (t' := s3.toks + ([] : List (Str × Value)).length) I3 Cp f3 lt3 hns kp
  have st4 : tn 0 h4 := T.keep _ _ _ st3 fun b hb o e => kp b o e
  have stat : ∀ {H' : Hp}, (∀ b ∈ fp, H' b = none) → ∀ b ∈ fp, FpOk (cxCompC X N scope cl fp s3 H3) [] H' b := fun hn b hb =>
    ⟨hn b hb, (I4.ok.exf b hb).1, I4.ok.exfs b hb, .inl hb, (I4.ok.exf b hb).2, fun p hp => absurd (show p ∈ ([] : List (Addr × Obj)) from hp) (by simp)⟩
  have loop : codeAny (model X.prog X.w) X.A (.compLoop (.ListComp elt [⟨target, iter, [cnd], 0⟩] scope pos) 0 (.ref it) (.ref l) (compEnvC scope cl s3.heap.objs.size X.env)) (RR (.ref l) s3.heap.objs.size)
      { s3 with heap := h4, toks := s3.toks + ([] : List (Str × Value)).length } := by
    refine compI_loop (fun n s' => ∃ i ys σ' H', Inv (cxCompC X N scope cl fp s3 H3) [] σ' H' s' ∧ tn i s'.heap ∧ (∀ b ∈ fp, H' b = none) ∧ W i n ys σ' H') ?_ m0 ⟨0, [], _, _, I4, st4, fun b hb => (f3 b hb).1, w0⟩
    rintro n s5 ⟨i, ys, σ5, H5, I5, st5, fr5, w5⟩
    rcases turn i n ys σ5 H5 w5 with ⟨stop, q⟩ | ⟨go, step⟩
    · refine thn (T.done (cxCompC X N scope cl fp s3 H3) rfl rfl rfl hc i [] s5 σ5 H5 _ I5 (stat fr5) st5 stop) fun r s6 ⟨hr, I6⟩ => ?_
      subst hr
      exact hR _ _ _ _ (compC_back I3 f3 I6) (I3.fpOk (Nat.le_refl _) I6.free) (let ⟨m, hn, _⟩ := I6.loc; ⟨m, hn⟩) q
    · refine thn (T.item (cxCompC X N scope cl fp s3 H3) rfl rfl rfl hc i [] s5 σ5 H5 _ I5 (stat fr5) st5 go) fun r s6 ⟨u, hr, h6⟩ => ?_
      subst hr
      refine thn h6 fun _ s7 ⟨x, H7, I7, r7, y7, st7, fr7⟩ => ?_
      have I7' := I7.pinned (stat fr7) (T.obj _ _ st7)
      refine wpAny_mono (hg fp s3 H3 _ s7 σ5 H7 x u _ I7' r7 (step x H7 y7)) (fun _ s8 ⟨σ8, H8, I8, q8⟩ => ?_) (fun _ _ z => False.elim z)
      refine wpAny_mono (ht fp s3 H3 _ s8 σ8 H8 _ I8 q8) (fun bb s85 ⟨H85, I85, q85⟩ => ?_) (fun _ _ z => False.elim z)
      cases bb with
      | false =>
        rw [if_neg Bool.false_ne_true] at q85 ⊢
        obtain ⟨m', hm', w9⟩ := q85
        refine ⟨m', hm', i + 1, ys, σ8, H85, I85.unpinned, T.keep _ _ _ st7 fun b hb o e => (I85.pin (b, o) (List.mem_append_right _ (List.mem_append_right _ (mem_pinsAt hb e)))).1, fun b hb => ?_, w9⟩
        obtain ⟨o, e, d⟩ := T.obj _ _ st7 b hb
        exact (I85.pin (b, o) (List.mem_append_right _ (List.mem_append_right _ (mem_pinsAt hb e)))).2.1
      | true =>
      rw [if_pos rfl] at q85 ⊢
      refine wpAny_mono (he fp s3 H3 _ s85 σ8 H85 _ I85 q85) (fun v s9 ⟨y, H9, I9, r9, hl9, hz9, m', hm', w9⟩ => ?_) (fun _ _ z => False.elim z)
      refine wpAny_mono (mt_append (X := cxCompC X N scope cl fp s3 H3) _ s9 σ8 H9 (.ref l) [y] (.ref l) [v] (fun z Hz => Hz = upd H9 l (.lst (ys ++ [y]))) I9 rfl (.cons r9 .nil) ⟨l, ys, y, rfl, rfl, hl9, hz9, rfl⟩)
        (fun _ s10 ⟨z, Hz, I10, _, eH⟩ => ?_) (fun _ _ z => False.elim z)
      subst eH
      refine ⟨m', hm', i + 1, ys ++ [y], σ8, _, I10.unpinned, T.keep _ _ _ st7 fun b hb o e => (I10.pin (b, o) (List.mem_append_right _ (List.mem_append_right _ (mem_pinsAt hb e)))).1, fun b hb => ?_, w9⟩
      obtain ⟨o, e, d⟩ := T.obj _ _ st7 b hb
      exact (I10.pin (b, o) (List.mem_append_right _ (List.mem_append_right _ (mem_pinsAt hb e)))).2.1
  exact codeAny_compStart_list loop (T.self X.A 0 _ _ _ st4 loop)
theorem pe_compCI (hc : X.calm = true) (Cp : Caps X N scope cl js)
    (hi : PI X target iter wi) (hg : ∀ fp s H, PG (cxCompC X N scope cl fp s H) target g) (ht : ∀ fp s H, PT (cxCompC X N scope cl fp s H) cnd tt) (he : ∀ fp s H, PE (cxCompC X N scope cl fp s H) elt te)
    (hs : ∀ x, foldedSetIterable iter X.env x = pure x := by intro _; rfl) : PE X (.ListComp elt [⟨target, iter, [cnd], 0⟩] scope pos) (tCompCI js wi g tt te) := by
  intro pins s σ H Q I h
  rw [eval_ListComp]
  refine wpAny_comprehension_free (use := none) (Q := EP X pins σ Q) rfl hs Cp.clos Cp.kind Cp.names
    (compCI_core (RR := fun acc C => compPost (model X.prog X.w) X.A X.xe none (EP X pins σ Q) acc C) hc Cp hi hg ht he I h ?_)
  rintro l C H' s' I' fC ⟨m, hn⟩ q
  exact ⟨m, hn, fun h' sb' => ⟨.ref l, H', I'.turned (t' := s'.toks) (fun b o hb e => (sb'.2 b hb).trans e) fC.1 fC.2.1 fC.2.2.2.1 fC.2.2.2.2.1 fC.2.2.2.2.2, rfl, q⟩⟩
theorem pe_compC (hc : X.calm = true) (Cp : Caps X N scope cl js)
    (hi : PI X target iter wi) (hg : ∀ fp s H, PG (cxCompC X N scope cl fp s H) target g) (he : ∀ fp s H, PE (cxCompC X N scope cl fp s H) elt te)
    (hs : ∀ x, foldedSetIterable iter X.env x = pure x := by intro _; rfl) : PE X (.ListComp elt [⟨target, iter, [], 0⟩] scope pos) (tCompC js wi g te) := by
  intro pins s σ H Q I h
  rw [eval_ListComp]
  refine wpAny_comprehension_free (use := none) (Q := EP X pins σ Q) rfl hs Cp.clos Cp.kind Cp.names
    (compC_core (RR := fun acc C => compPost (model X.prog X.w) X.A X.xe none (EP X pins σ Q) acc C) hc Cp hi hg he I h ?_)
  rintro l C H' s' I' fC ⟨m, hn⟩ q
  exact ⟨m, hn, fun h' sb' => ⟨.ref l, H', I'.turned (t' := s'.toks) (fun b o hb e => (sb'.2 b hb).trans e) fC.1 fC.2.1 fC.2.2.2.1 fC.2.2.2.2.1 fC.2.2.2.2.2, rfl, q⟩⟩
end
/-- over a list, the captured names as they are -/
theorem compCI_li {K : PySem.W.Frag} {a l : Addr} {xs : List V} {σ0 : St} {g : TG} {tt : TT} {te : TE} {R : Hp → Prop} {H1 : Hp} (Pv : Nat → List V → St → Hp → Prop) (h0 : Pv 0 [] σ0 (upd H1 l (.lst []))) (hl : ∀ i ys σ H, i ≤ xs.length → Pv i ys σ H → SqL K H a xs)
    (hs : ∀ i x ys σ H, xs[i]? = some x → Pv i ys σ H → g x σ H fun σ3 H3 => tt σ3 H3 fun c H5 => if c = true then te σ3 H5 fun y H4 => H4 l = some (.lst ys) ∧ ys.length < sizeLine ∧ Pv (i + 1) (ys ++ [y]) σ3 (upd H4 l (.lst (ys ++ [y]))) else Pv (i + 1) ys σ3 H5)
    (hd : ∀ ys σ H, Pv xs.length ys σ H → R H) (mg : ∀ x σ H (A B : St → Hp → Prop), (∀ σ' H', A σ' H' → B σ' H') → g x σ H A → g x σ H B) (mtt : ∀ σ H (A B : Bool → Hp → Prop), (∀ v H', A v H' → B v H') → tt σ H A → tt σ H B) (mt : ∀ σ H (A B : VK), (∀ v H', A v H' → B v H') → te σ H A → te σ H B) :
    ∃ W : Nat → Nat → List V → St → Hp → Prop, (∃ m, W 0 m [] σ0 (upd H1 l (.lst []))) ∧ ∀ i m ys σ' H', W i m ys σ' H' →
      ((Itl K a).stop i H' ∧ R H') ∨ ((Itl K a).go i H' ∧ ∀ x H2, (Itl K a).yld i H' x H2 → g x σ' H2 fun σ3 H3 => tt σ3 H3 fun c H5 => if c = true then te σ3 H5 fun y H4 =>
        H4 l = some (.lst ys) ∧ ys.length < sizeLine ∧ ∃ m', m' < m ∧ W (i + 1) m' (ys ++ [y]) σ3 (upd H4 l (.lst (ys ++ [y]))) else ∃ m', m' < m ∧ W (i + 1) m' ys σ3 H5) := by
  refine ⟨fun i m ys σ H => m = xs.length - i ∧ i ≤ xs.length ∧ Pv i ys σ H, ⟨xs.length, by simp, Nat.zero_le _, h0⟩, ?_⟩
  rintro i m ys σ H ⟨rfl, hi, p⟩
  have q := hl i ys σ H hi p
  by_cases hlt : i < xs.length
  · refine .inr ⟨⟨xs, xs[i], q, by simp [hlt]⟩, fun x H' y => ?_⟩
    obtain ⟨e, y⟩ := y
    subst e
    refine mg _ _ _ _ _ (fun σ3 H3 z => mtt _ _ _ _ (fun c H5 z => ?_) z) (hs i x ys σ _ (y xs q) p)
    cases c with
    | true =>
      rw [if_pos rfl] at z ⊢
      exact mt _ _ _ _ (fun y H4 ⟨z1, z2, z4⟩ => ⟨z1, z2, xs.length - (i + 1), by omega, rfl, hlt, z4⟩) z
    | false =>
      rw [if_neg Bool.false_ne_true] at z ⊢
      exact ⟨xs.length - (i + 1), by omega, rfl, hlt, z⟩
  · have e : i = xs.length := by omega
    subst e
    exact .inl ⟨⟨xs, q, Nat.le_refl _⟩, hd ys σ H p⟩
end L2

set_option Elab.async false
set_option linter.all false
set_option maxRecDepth 100000
set_option maxHeartbeats 4000000
namespace L2
open PySem PySem.Spec PyProof.Rows QQ
/-! ### xs[::-1] -/
theorem range_pick {α : Type} : ∀ l : List α, (List.range l.length).filterMap (fun k => l[k]?) = l
  | [] => rfl
  | a :: l => by
    rw [List.length_cons, List.range_succ_eq_map, List.filterMap_cons]
    have e : ((List.range l.length).map Nat.succ).filterMap (fun k => (a :: l)[k]?) = l := by
      rw [List.filterMap_map]
      exact range_pick l
    show a :: _ = _
    rw [e]
theorem fm_congr {α β : Type} {f g : α → Option β} : ∀ {l : List α}, (∀ x ∈ l, f x = g x) → l.filterMap f = l.filterMap g
  | [], _ => rfl
  | a :: l, h => by rw [List.filterMap_cons, List.filterMap_cons, h a List.mem_cons_self, fm_congr fun x hx => h x (List.mem_cons_of_mem _ hx)]
theorem vals_rev {xs : List V} {us : List Value} (r : Vals xs us) : Vals xs.reverse us.reverse := by
  induction r with
  | nil => exact .nil
  | cons r1 _ ih => rw [List.reverse_cons, List.reverse_cons]; exact ih.append (.cons r1 .nil)
theorem pick_rev (its : List Value) : slicePick its.toArray none none (some (-1)) = its.reverse.toArray := by
  have h : (Builtin.Str.strSliceIndices none none (-1) its.length).filterMap (fun i => its.toArray[i]?) = its.reverse := by
    rw [picked_rev, List.filterMap_map]
    have e : (List.range its.length).filterMap ((fun i => its.toArray[i]?) ∘ fun k => its.length - 1 - k) = (List.range its.reverse.length).filterMap (fun k => its.reverse[k]?) := by
      rw [List.length_reverse]
      refine fm_congr fun k hk => ?_
      have hk' := List.mem_range.mp hk
      show its.toArray[its.length - 1 - k]? = _
      rw [List.getElem?_reverse hk']
      simp
    rw [e, range_pick]
  exact congrArg List.toArray h
section
variable {X : Cx} {e e1 : Expr} {te t1 : TE} {pos p2 : Pos}
def tRev (K : PySem.W.Frag) (te t1 : TE) : TE := fun σ H Q => te σ H fun x H1 => t1 σ H1 fun y H2 => ∃ a xs, x = .ref a ∧ y = .int (-1) ∧ SqL K H2 a xs ∧ ∀ p, H2 p = none → Q (.ref p) (upd H2 p (.lst xs.reverse))
theorem pe_rev (he : PE X e te) (h1 : PE X e1 t1) : PE X (.Subscript e (.Slice none none (some e1) p2) pos) (tRev X.K te t1) := by
  intro pins s σ H Q I h
  refine Subscript_ (thn (he pins s σ H _ I h) fun v s1 ⟨x, H1, I1, r1, q1⟩ => ?_)
  refine wpAny_Slice ?_
  rw [evalPart_none]
  refine wpAny_pure (wpAny_pure ?_)
  rw [evalPart_some]
  refine thn (h1 pins s1 σ H1 _ I1 q1) fun u s2 ⟨y, H2, I2, r2, a, xs, ex, ey, hx, q⟩ => ?_
  subst ex ey
  cases r1
  obtain ⟨t, rfl⟩ := r2
  have I4 : Inv X pins σ H2 { s2 with heap := s2.heap.push { cls := .type "slice", data := .fields #[.none, .none, .int (-1) t] } } := I2.kept (t' := s2.toks) fun b ob q => Heap.get?_push_of_some _ q
  obtain ⟨its, r, ht, hz⟩ := I4.list hx
  have hlen := r.length
  refine tail_any (ops := [.ref a, .ref s2.heap.objs.size]) ht.isList.typeIs slot_list_getitem.lookup ?_ (by with_unfolding_all rfl)
  refine wpAny_getItem_list_slice ht.isList (Heap.IsSliceOf.new ..) .none .none (.int (-1) t) (by decide) ?_ (by rw [List.size_toArray] <;> omega)
  rw [pick_rev]
  refine ⟨.ref _, _, I4.laid (t' := s2.toks) (o := .lst xs.reverse) (fun b ob q => Heap.get?_push_of_some _ q) (Nat.le_refl _) ?_, rfl, q _ (I4.hok.fresh (Nat.le_refl _))⟩
  exact ⟨by rw [List.length_reverse]; exact hz, _, 0, vals_rev r, Heap.get?_push_size _ rfl⟩
end
end L2

namespace W16
/-- a piece: a sign, or a copy -/
inductive Pc where
  | sg (s : Nat)
  | cp (b z : Nat)
deriving DecidableEq
def Pc.size : Pc → Nat
  | .sg _ => 1
  | .cp _ z => z
/-- how many signs from p on are those b places ahead, at most m -/
def al (S : List Nat) (p b : Nat) : Nat → Nat
  | 0 => 0
  | m + 1 => if al S p b m = m ∧ S[p + m]? = S[p + m - b]? then m + 1 else al S p b m
theorem al_le (S : List Nat) (p b : Nat) : ∀ m, al S p b m ≤ m
  | 0 => Nat.le_refl _
  | m + 1 => by
    unfold al
    have := al_le S p b m
    split <;> omega
theorem al_all {S : List Nat} {p b : Nat} : ∀ {m : Nat}, ∀ i < al S p b m, S[p + i]? = S[p + i - b]?
  | 0, i, h => by simp [al] at h
  | m + 1, i, h => by
    unfold al at h
    split at h
    · rename_i c
      by_cases e : i = m
      · subst e; exact c.2
      · exact al_all (m := m) i (by rw [c.1]; omega)
    · exact al_all (m := m) i h
theorem al_of {S : List Nat} {p b : Nat} : ∀ {m : Nat}, (∀ i < m, S[p + i]? = S[p + i - b]?) → al S p b m = m
  | 0, _ => rfl
  | m + 1, h => by
    unfold al
    rw [if_pos ⟨al_of fun i hi => h i (by omega), h m (by omega)⟩]
/-- where the run ends -/
theorem al_end {S : List Nat} {p b r : Nat} (h : ∀ i < r, S[p + i]? = S[p + i - b]?) (hn : S[p + r]? ≠ S[p + r - b]?) : ∀ m, r ≤ m → al S p b m = r
  | 0, hm => by have : r = 0 := by omega
                subst this; rfl
  | m + 1, hm => by
    by_cases e : r = m + 1
    · subst e; exact al_of h
    · have ih := al_end h hn m (by omega)
      unfold al
      rw [ih]
      split
      · rename_i c
        rw [← c.1] at c
        exact absurd c.2 hn
      · rfl
theorem al_next {S : List Nat} {p b m : Nat} (h : al S p b m < m) : S[p + al S p b m]? ≠ S[p + al S p b m - b]? := by
  induction m with
  | zero => simp [al] at h
  | succ m ih =>
    by_cases c : al S p b m = m ∧ S[p + m]? = S[p + m - b]?
    · have e : al S p b (m + 1) = m + 1 := by unfold al; rw [if_pos c]
      omega
    · have e : al S p b (m + 1) = al S p b m := by rw [al, if_neg c]
      rw [e]
      by_cases q : al S p b m = m
      · rw [q]
        exact fun z => c ⟨q, z⟩
      · exact ih (by have := al_le S p b m; omega)
/-- the longest copy of those up to n places ahead, the nearest of several -/
def lc (S : List Nat) (p m : Nat) : Nat → Nat × Nat
  | 0 => (0, 0)
  | n + 1 => if (lc S p m n).2 < al S p (n + 1) m then (n + 1, al S p (n + 1) m) else lc S p m n
theorem lc_le (S : List Nat) (p m : Nat) : ∀ n, (lc S p m n).2 ≤ m
  | 0 => Nat.zero_le _
  | n + 1 => by
    unfold lc
    split
    · exact al_le ..
    · exact lc_le S p m n
/-- the longest: no farther one is longer -/
theorem lc_full {S : List Nat} {p m k : Nat} (h : (lc S p m k).2 = m) : ∀ n, k ≤ n → lc S p m n = lc S p m k
  | 0, hk => by have : k = 0 := by omega
                subst this; rfl
  | n + 1, hk => by
    by_cases e : k = n + 1
    · subst e; rfl
    · have ih := lc_full h n (by omega)
      rw [lc, ih, h, if_neg]
      have := al_le S p (n + 1) m
      omega
/-- a sign that is another one where the longest so far ends -/
theorem lc_pass {S : List Nat} {p m n : Nat} (h : S[p + (lc S p m n).2]? ≠ S[p + (lc S p m n).2 - (n + 1)]?) : lc S p m (n + 1) = lc S p m n := by
  rw [lc, if_neg]
  intro c
  exact h (al_all _ c)
theorem lc_good {S : List Nat} {p m : Nat} : ∀ {n : Nat}, 0 < (lc S p m n).2 → 1 ≤ (lc S p m n).1 ∧ (lc S p m n).1 ≤ n ∧ (lc S p m n).2 = al S p (lc S p m n).1 m
  | 0, h => by simp [lc] at h
  | n + 1, h => by
    unfold lc at h ⊢
    split
    · exact ⟨Nat.succ_le_succ (Nat.zero_le _), Nat.le_refl _, rfl⟩
    · rename_i c
      rw [if_neg c] at h
      obtain ⟨a, b, e⟩ := lc_good h
      exact ⟨a, by omega, e⟩
/-- the most signs that a copy may have at a place; how far back it may reach -/
def most (S : List Nat) (p : Nat) : Nat := min 18 (S.length - p)
def far (p : Nat) : Nat := min 255 p
def lcAt (S : List Nat) (p : Nat) : Nat × Nat := lc S p (most S p) (far p)
def pcAt (S : List Nat) (p : Nat) : Pc := if 3 ≤ (lcAt S p).2 then .cp (lcAt S p).1 (lcAt S p).2 else .sg (S.getD p 0)
/-- pieces that lead from a place to another -/
def Walk (S : List Nat) : Nat → List Pc → Nat → Prop
  | p, [], q => p = q
  | p, x :: xs, q => p < S.length ∧ x = pcAt S p ∧ Walk S (p + x.size) xs q
theorem walk_snoc {S : List Nat} : ∀ {P : List Pc} {p q : Nat}, Walk S p P q → q < S.length → Walk S p (P ++ [pcAt S q]) (q + (pcAt S q).size)
  | [], p, q, h, hq => by
    cases h
    exact ⟨hq, rfl, rfl⟩
  | x :: P, p, q, h, hq => ⟨h.1, h.2.1, walk_snoc h.2.2 hq⟩
theorem pcAt_size {S : List Nat} {p : Nat} (h : p < S.length) : 1 ≤ (pcAt S p).size ∧ p + (pcAt S p).size ≤ S.length := by
  unfold pcAt
  split
  · rename_i c
    have := lc_le S p (most S p) (far p)
    show 1 ≤ (lcAt S p).2 ∧ p + (lcAt S p).2 ≤ S.length
    unfold lcAt at c ⊢
    unfold most at this c ⊢
    omega
  · show 1 ≤ 1 ∧ p + 1 ≤ S.length
    omega
def pos (a : Nat) (P : List Pc) : Nat := a + (P.map Pc.size).sum
theorem pos_nil (a : Nat) : pos a [] = a := rfl
theorem pos_cons (a : Nat) (x : Pc) (P : List Pc) : pos a (x :: P) = pos (a + x.size) P := by simp [pos]; omega
theorem walk_pos {S : List Nat} : ∀ {P : List Pc} {p q : Nat}, Walk S p P q → q = pos p P
  | [], p, q, h => h.symm
  | x :: P, p, q, h => by rw [pos_cons]; exact walk_pos h.2.2
theorem walk_le {S : List Nat} : ∀ {P : List Pc} {p q : Nat}, Walk S p P q → p ≤ S.length → q ≤ S.length
  | [], p, q, h, hp => by cases h; exact hp
  | x :: P, p, q, h, hp => walk_le h.2.2 (by rw [h.2.1]; exact (pcAt_size h.1).2)
theorem walk_len {S : List Nat} : ∀ {P : List Pc} {p q : Nat}, Walk S p P q → p + P.length ≤ q
  | [], p, q, h => by cases h; simp
  | x :: P, p, q, h => by
    have := walk_len h.2.2
    have h1 := (pcAt_size h.1).1
    rw [← h.2.1] at h1
    simp
    omega
/-- the i-th piece is that of its place -/
theorem walk_at {S : List Nat} : ∀ {P : List Pc} {p q : Nat} {i : Nat} {x : Pc}, Walk S p P q → P[i]? = some x → pos p (P.take i) < S.length ∧ x = pcAt S (pos p (P.take i)) ∧ pos p (P.take (i + 1)) = pos p (P.take i) + x.size
  | [], p, q, i, x, h, e => by simp at e
  | y :: P, p, q, 0, x, h, e => by
    simp at e
    subst e
    refine ⟨h.1, h.2.1, ?_⟩
    simp [pos]
  | y :: P, p, q, i + 1, x, h, e => by
    have := walk_at h.2.2 (i := i) (x := x) (by simpa using e)
    rw [List.take_succ_cons, List.take_succ_cons, pos_cons, pos_cons]
    exact this
theorem walk_take {S : List Nat} : ∀ {P : List Pc} {p q : Nat} (i : Nat), Walk S p P q → Walk S p (P.take i) (pos p (P.take i))
  | [], p, q, i, h => by simp [Walk, pos]
  | y :: P, p, q, 0, h => by simp [Walk, pos]
  | y :: P, p, q, i + 1, h => by
    rw [List.take_succ_cons, pos_cons]
    exact ⟨h.1, h.2.1, walk_take i h.2.2⟩
theorem pos_full {a : Nat} {P : List Pc} : pos a (P.take P.length) = pos a P := by rw [List.take_length]
/-- what a copy is -/
theorem cp_good {S : List Nat} {p b z : Nat} (hp : p < S.length) (h : pcAt S p = .cp b z) : 1 ≤ b ∧ b ≤ p ∧ b ≤ 255 ∧ 3 ≤ z ∧ z ≤ 18 ∧ p + z ≤ S.length ∧ (∀ i < z, S[p + i]? = S[p + i - b]?) ∧ (z < 18 → p + z < S.length → S[p + z]? ≠ S[p + z - b]?) := by
  unfold pcAt at h
  split at h
  · rename_i c
    have e1 : (lcAt S p).1 = b := by injection h
    have e2 : (lcAt S p).2 = z := by injection h
    rw [e2] at c
    have g := lc_good (S := S) (p := p) (m := most S p) (n := far p) (by show 0 < (lcAt S p).2; omega)
    have l := lc_le S p (most S p) (far p)
    change 1 ≤ (lcAt S p).1 ∧ (lcAt S p).1 ≤ far p ∧ (lcAt S p).2 = al S p (lcAt S p).1 (most S p) at g
    change (lcAt S p).2 ≤ most S p at l
    rw [e1, e2] at g
    rw [e2] at l
    have hf : far p ≤ 255 ∧ far p ≤ p := by unfold far; omega
    have hm : most S p ≤ 18 ∧ most S p ≤ S.length - p ∧ (most S p = 18 ∨ most S p = S.length - p) := by unfold most; omega
    refine ⟨g.1, by omega, by omega, c, by omega, by omega, fun i hi => al_all (m := most S p) i (by omega), fun h1 h2 => ?_⟩
    have := al_next (S := S) (p := p) (b := b) (m := most S p) (by rw [← g.2.2]; omega)
    rw [← g.2.2] at this
    exact this
  · cases h
theorem sg_good {S : List Nat} {p s : Nat} (hp : p < S.length) (h : pcAt S p = .sg s) : S[p]? = some s := by
  unfold pcAt at h
  split at h
  · cases h
  · injection h with h
    rw [← h]
    simp [List.getD, hp]
/-! each sign by another one -/
theorem get_map_eq {f : Nat → Nat} (hf : ∀ x y, f x = f y → x = y) {S : List Nat} {i j : Nat} : (S.map f)[i]? = (S.map f)[j]? ↔ S[i]? = S[j]? := by
  rw [List.getElem?_map, List.getElem?_map]
  cases S[i]? <;> cases S[j]? <;> simp
  exact ⟨hf _ _, fun e => by rw [e]⟩
theorem get_map_eqOn {f : Nat → Nat} {S : List Nat} (hf : ∀ x ∈ S, ∀ y ∈ S, f x = f y → x = y) {i j : Nat} : (S.map f)[i]? = (S.map f)[j]? ↔ S[i]? = S[j]? := by
  rw [List.getElem?_map, List.getElem?_map]
  cases h1 : S[i]? <;> cases h2 : S[j]? <;> simp
  exact ⟨hf _ (List.mem_of_getElem? h1) _ (List.mem_of_getElem? h2), fun e => by rw [e]⟩
theorem al_map {f : Nat → Nat} {S : List Nat} (hf : ∀ x ∈ S, ∀ y ∈ S, f x = f y → x = y) (p b : Nat) : ∀ m, al (S.map f) p b m = al S p b m
  | 0 => rfl
  | m + 1 => by
    unfold al
    rw [al_map hf p b m]
    simp only [get_map_eqOn hf]
theorem lc_map {f : Nat → Nat} {S : List Nat} (hf : ∀ x ∈ S, ∀ y ∈ S, f x = f y → x = y) (p m : Nat) : ∀ n, lc (S.map f) p m n = lc S p m n
  | 0 => rfl
  | n + 1 => by
    unfold lc
    rw [lc_map hf p m n, al_map hf]
def Pc.turn (f : Nat → Nat) : Pc → Pc
  | .sg s => .sg (f s)
  | .cp b z => .cp b z
theorem turn_size (f : Nat → Nat) (x : Pc) : (x.turn f).size = x.size := by cases x <;> rfl
theorem pcAt_map {f : Nat → Nat} {S : List Nat} (hf : ∀ x ∈ S, ∀ y ∈ S, f x = f y → x = y) {p : Nat} (hp : p < S.length) : pcAt (S.map f) p = (pcAt S p).turn f := by
  have e : lcAt (S.map f) p = lcAt S p := by
    unfold lcAt most
    rw [List.length_map, lc_map hf]
  unfold pcAt
  rw [e]
  split
  · rfl
  · simp [Pc.turn, List.getD, hp]
theorem walk_map {f : Nat → Nat} {S : List Nat} (hf : ∀ x ∈ S, ∀ y ∈ S, f x = f y → x = y) : ∀ {P P' : List Pc} {p q : Nat}, Walk S p P S.length → Walk (S.map f) p P' S.length → P' = P.map (Pc.turn f)
  | [], [], _, _, _, _ => rfl
  | [], x :: P', p, q, h, h' => by
    have h : p = S.length := h
    have := h'.1
    simp at this
    omega
  | x :: P, [], p, q, h, h' => by
    have h' : p = S.length := h'
    have := h.1
    omega
  | x :: P, y :: P', p, q, h, h' => by
    have hp := h.1
    have e : y = x.turn f := by rw [h'.2.1, h.2.1, pcAt_map hf hp]
    have h3 := h'.2.2
    rw [e, turn_size] at h3
    rw [List.map_cons, ← e, walk_map hf (q := q) h.2.2 h3]
/-- the copies among pieces -/
def cps : List Pc → List (Nat × Nat)
  | [] => []
  | .sg _ :: P => cps P
  | .cp b z :: P => (b, z) :: cps P
theorem cps_turn (f : Nat → Nat) : ∀ P : List Pc, cps (P.map (Pc.turn f)) = cps P
  | [] => rfl
  | .sg _ :: P => cps_turn f P
  | .cp b z :: P => by
    show (b, z) :: cps (P.map (Pc.turn f)) = _
    rw [cps_turn f P]
    rfl
theorem cps_append : ∀ P Q : List Pc, cps (P ++ Q) = cps P ++ cps Q
  | [], Q => rfl
  | .sg _ :: P, Q => cps_append P Q
  | .cp b z :: P, Q => by show (b, z) :: cps (P ++ Q) = _; rw [cps_append P Q]; rfl
end W16

set_option Elab.async false
set_option linter.all false
set_option maxRecDepth 100000
set_option maxHeartbeats 4000000
namespace K14
open PySem L2 QQ W16
seal PE PA PS PSs PT PW PG PI
/-! ### the text by places -/
def top (i : Nat) : Stmt := PySem.Challenge.pw_balepress_k14_pieces.main.body.getD i (.Pass ⟨0, 0, 0, 0⟩)
abbrev sIsNumb : Stmt := top 5
abbrev sWhole : Stmt := top 6
abbrev sAreWhole : Stmt := top 7
abbrev sIsRow : Stmt := top 8
abbrev sNeedRow : Stmt := top 9
abbrev sNeedWin : Stmt := top 14
abbrev sAlike : Stmt := top 15
abbrev sLongest : Stmt := top 16
abbrev sPiecesOf : Stmt := top 17
abbrev sCellAt : Stmt := top 19
abbrev sMixed : Stmt := top 20
abbrev sSigns : Stmt := top 21
abbrev sDrawn : Stmt := top 22
abbrev sSame : Stmt := top 23
abbrev sSize : Stmt := top 24
abbrev sLPieces : Stmt := top 25
abbrev sLaw : Stmt := top 26
abbrev vN (n : Nat) : V := .int ((n : Nat) : Int)
/-- what the names of the text's top stand for -/
structure Txt (K : PySem.W.Frag) (mg : Str → Option Value) : Prop where
  isi : mg "isinstance" = none
  bool : mg "bool" = none
  int : mg "int" = none
  list : mg "list" = none
  tuple : mg "tuple" = none
  str : mg "str" = none
  len : mg "len" = none
  range : mg "range" = none
  min : mg "min" = none
  zip : mg "zip" = none
  great : ∃ t, mg "GREATEST" = some (.int 255 t)
  far : ∃ t, mg "FARTHEST" = some (.int 255 t)
  least : ∃ t, mg "LEAST_COPIED" = some (.int 3 t)
  most : ∃ t, mg "MOST_COPIED" = some (.int 18 t)
  isnumb : ∃ (f : Addr) (fd : FuncData), Fun K "is_number" "is_number" sIsNumb f fd ∧ mg "is_number" = some (.ref f) ∧ Binds K fd ["thing"] []
/-- a def of the top -/
structure Fn (K : PySem.W.Frag) (mg : Str → Option Value) (x : Str) (st : Stmt) (ps : List Str) (f : Addr) (fd : FuncData) : Prop where
  F : Fun K x x st f fd
  m : mg x = some (.ref f)
  b : Binds K fd ps []
/-- a def of the top whose last parameter has a default -/
structure FnD (K : PySem.W.Frag) (mg : Str → Option Value) (x : Str) (st : Stmt) (ps : List Str) (f : Addr) (fd : FuncData) : Prop where
  F : ∃ dV, FunD K x x st dV f fd
  m : mg x = some (.ref f)
  b : Binds K fd ps []
  d : Binds K fd ps [.none]
theorem FnD.kp {K : PySem.W.Frag} {mg : Str → Option Value} {x : Str} {st : Stmt} {ps : List Str} {f : Addr} {fd : FuncData} (F : FnD K mg x st ps f fd) : PySem.W.keepIn K (.ref f) = true := F.F.elim fun _ z => z.kp
section
variable (K : PySem.W.Frag)
theorem kit_ib : PySem.W.kitOne K (.type "int") (.type "bool") = some false := by
  show (if (Value.type "int" == Value.type "bool") = true then some true else if PySem.W.kitMeta "bool" = true then (fastBuiltinMro "int").map (·.contains (.type "bool")) else none) = some false
  decide +kernel
theorem kit_ii : PySem.W.kitOne K (.type "int") (.type "int") = some true := by
  show (if (Value.type "int" == Value.type "int") = true then some true else if PySem.W.kitMeta "int" = true then (fastBuiltinMro "int").map (·.contains (.type "int")) else none) = some true
  decide +kernel
theorem kit_ll : PySem.W.kitOne K (.type "list") (.type "list") = some true := by
  show (if (Value.type "list" == Value.type "list") = true then some true else if PySem.W.kitMeta "list" = true then (fastBuiltinMro "list").map (·.contains (.type "list")) else none) = some true
  decide +kernel
theorem kit_tt : PySem.W.kitOne K (.type "tuple") (.type "tuple") = some true := by
  show (if (Value.type "tuple" == Value.type "tuple") = true then some true else if PySem.W.kitMeta "tuple" = true then (fastBuiltinMro "tuple").map (·.contains (.type "tuple")) else none) = some true
  decide +kernel
theorem kit_ss : PySem.W.kitOne K (.type "str") (.type "str") = some true := by
  show (if (Value.type "str" == Value.type "str") = true then some true else if PySem.W.kitMeta "str" = true then (fastBuiltinMro "str").map (·.contains (.type "str")) else none) = some true
  decide +kernel
end
theorem vN_inj {x y : Nat} : vN x = vN y ↔ x = y := by
  constructor
  · intro h
    injection h with h
    omega
  · rintro rfl; rfl
theorem get_vN {S : List Nat} {i : Nat} (h : i < S.length) : (S.map vN)[i]? = some (vN S[i]) := by simp [h]
theorem map_get {B : List Nat} {i : Nat} {y : V} (h : (B.map vN)[i]? = some y) : ∃ b, B[i]? = some b ∧ y = vN b := by
  rw [List.getElem?_map] at h
  cases e : B[i]? with
  | none => rw [e] at h; cases h
  | some z => rw [e] at h; exact ⟨z, rfl, (Option.some.inj h).symm⟩
theorem take_snoc {B : List Nat} {i b : Nat} (h : B[i]? = some b) : B.take (i + 1) = B.take i ++ [b] := by rw [List.take_add_one, h]; rfl
theorem sl2000 {n : Nat} (h : n ≤ 2000) : n ≤ sizeLine := Nat.le_trans h (by decide)
theorem sl2000' {n : Nat} (h : n ≤ 2000) : n < sizeLine := Nat.lt_of_le_of_lt h (by decide)
section
variable {P : Program} {w : World} {K : PySem.W.Frag} {mg : Str → Option Value} {base : Heap}
/-! ### is_whole, are_whole, is_row, need_row, need_window -/
def spWhole : Sp := fun vs H Q _ => ∃ (i lo hi : Int), vs = [.int i, .int lo, .int hi] ∧ Q (.bl (decide (lo ≤ i) && decide (i ≤ hi))) H
theorem scWhole : FnScope ["thing", "least", "most"] ["thing", "least", "most"] (defScope sWhole) := ⟨rfl, rfl, rfl, by decide +kernel, rfl, by decide +kernel, by decide +kernel⟩
def spNumb  : Sp := fun vs H Q _ => ∃ (x : V) (b : Bool), vs = [x] ∧ ((∃ i, x = .int i) ∧ b = true) ∧ Q (.bl b) H
theorem scNumb : FnScope ["thing"] ["thing"] (defScope sIsNumb) := ⟨rfl, rfl, rfl, by decide +kernel, rfl, by decide +kernel, by decide +kernel⟩
theorem ok_numb {f : Addr} {fd : FuncData} (F : Fun K "is_number" "is_number" sIsNumb f fd) (T : Txt K mg) : FnOk P w K mg base CX0 0 f fd ["thing"] spNumb := by
  refine F.ok0 scNumb (fun vs H Q E h => ?_) (fun cdv A outer s H vs Q E h => ?_)
  · obtain ⟨x, b, rfl, _⟩ := h
    rfl
  · obtain ⟨x, b, rfl, hw, k⟩ := h
    refine ⟨_, pss_one (ps_ret (pe_and (pe_callB call_isi (by rfl) T.isi PyProof.Rows.boot_isinstance (pa_cons (pv 0) (pa_cons (pe_bltn (v := .ty "int") (by rfl) T.int PyProof.Rows.boot_int rfl) pa_nil))) (pe_one (pe_not (pe_callB call_isi (by rfl) T.isi PyProof.Rows.boot_isinstance (pa_cons (pv 0) (pa_cons (pe_bltn (v := .ty "bool") (by rfl) T.bool PyProof.Rows.boot_bool rfl) pa_nil))))))), ?_⟩
    obtain ⟨⟨i, rfl⟩, rfl⟩ := hw
    refine ⟨_, rfl, _, _, _, _, rfl, .int _, kit_ii K, _, rfl, iteT ?_⟩
    exact ⟨_, rfl, _, _, _, _, rfl, .int _, kit_ib K, _, rfl, k⟩
theorem ok_whole {f : Addr} {fd : FuncData} (F : Fn K mg "is_whole" sWhole ["thing", "least", "most"] f fd) (T : Txt K mg) : FnOk P w K mg base CX0 1 f fd ["thing", "least", "most"] spWhole := by
  obtain ⟨fN, fdN, NF, Nm, Nb⟩ := T.isnumb
  have GN := ok_numb (P := P) (w := w) (base := base) NF T
  refine F.F.ok scWhole (fun vs H Q E h => ?_) (fun cdv A outer s H vs Q E hr h => ?_)
  · obtain ⟨i, lo, hi, rfl, _⟩ := h
    rfl
  · obtain ⟨i, lo, hi, rfl, k⟩ := h
    refine ⟨_, pss_one (ps_ret (pe_and (pe_call GN hr (by rfl) Nm NF.kp Nb .nil pass0 (pa_cons (pv 0) pa_nil)) (pe_one (pe_chain op_le op_le (pv 1) (pv 0) (pv 2))))), ?_⟩
    refine ⟨_, rfl, _, true, rfl, ⟨⟨i, rfl⟩, rfl⟩, _, rfl, iteT ?_⟩
    refine ⟨_, rfl, _, rfl, _, _, rfl, rfl, _, rfl, ?_⟩
    refine ite2 (fun h1 => ?_) (fun h1 => ?_)
    · refine ⟨_, rfl, _, _, rfl, rfl, ?_⟩
      rw [h1, Bool.true_and] at k
      exact k
    · have h2 : decide (lo ≤ i) = false := by simpa using h1
      rw [h2, Bool.false_and] at k
      exact k
def spAreWhole : Sp := fun vs H Q _ => ∃ (a : Addr) (B : List Nat) (lo hi : Int), vs = [.ref a, .int lo, .int hi] ∧ H a = some (.lst (B.map vN)) ∧ (∀ b ∈ B, lo ≤ ((b : Nat) : Int) ∧ ((b : Nat) : Int) ≤ hi) ∧ Q (.bl true) H
theorem scAreWhole : FnScope ["thing", "least", "most", "number"] ["thing", "least", "most"] (defScope sAreWhole) := ⟨rfl, rfl, rfl, by decide +kernel, rfl, by decide +kernel, by decide +kernel⟩
theorem ok_arewhole {f fW : Addr} {fd fdW : FuncData} (F : Fn K mg "are_whole" sAreWhole ["thing", "least", "most"] f fd) (W : Fn K mg "is_whole" sWhole ["thing", "least", "most"] fW fdW) (T : Txt K mg) : FnOk P w K mg base CX0 2 f fd ["thing", "least", "most"] spAreWhole := by
  have GW : FnOk P w K mg base CX0 1 fW fdW ["thing", "least", "most"] spWhole := ok_whole W T
  refine F.F.ok scAreWhole (fun vs H Q E h => ?_) (fun cdv A outer s H vs Q E hr h => ?_)
  · obtain ⟨a, B, lo, hi, rfl, _⟩ := h
    rfl
  · obtain ⟨a, B, lo, hi, rfl, hB, hb, k⟩ := h
    refine ⟨_, pss_cons (ps_if (pt_not (pt_val (pe_callB call_isi (by rfl) T.isi PyProof.Rows.boot_isinstance (pa_cons (pv 0) (pa_cons (pe_bltn (v := .ty "list") (by rfl) T.list PyProof.Rows.boot_list rfl) pa_nil))))) (pss_one (ps_ret pe_bl)) pss_nil)
      (pss_cons (ps_for PassesOwn.never rfl (pi_list (pv 0)) (pg_name (i := 3) scAreWhole.nd rfl (Or.inl rfl))
        (pss_one (ps_if (pt_not (pt_val (pe_call GW hr (by rfl) W.m W.F.kp W.b .nil pass0 (pa_cons (pv 3) (pa_cons (pv 1) (pa_cons (pv 2) pa_nil)))))) (pss_one (ps_ret pe_bl)) pss_nil)))
      (pss_one (ps_ret pe_bl))), ?_⟩
    refine ⟨_, rfl, _, _, _, _, rfl, .lst hB, kit_ll K, _, rfl, iteF ?_⟩
    refine ⟨_, rfl, a, rfl, ⟨_, SqL.of hB⟩, for_list (D := ⟨_, _, fun _ _ => False, fun _ _ => False⟩) (K := K) (a := a) (xs := B.map vN) (fun i σ H2 => ∃ v : Option V, σ = [some (.ref a), some (.int lo), some (.int hi), v] ∧ H2 = H)
      ⟨none, rfl, rfl⟩ (fun i σ H2 _ ⟨_, _, e⟩ => by rw [e]; exact SqL.of hB) ?_ ?_⟩
    · rintro i y σ H2 hi ⟨v, rfl, rfl⟩
      obtain ⟨b, hb1, rfl⟩ := map_get hi
      obtain ⟨h2, h3⟩ := hb b (List.mem_of_getElem? hb1)
      refine ⟨_, rfl, _, rfl, _, rfl, _, _, _, rfl, _, rfl, ?_⟩
      rw [decide_eq_true h2, decide_eq_true h3]
      exact iteF ⟨_, rfl, rfl⟩
    · rintro σ H2 ⟨v, rfl, rfl⟩
      exact k
def spIsRow : Sp := fun vs H Q _ => ∃ (a : Addr) (B : List Nat), vs = [.ref a] ∧ H a = some (.lst (B.map vN)) ∧ (∀ b ∈ B, b < 256) ∧ Q (.bl true) H
theorem scIsRow : FnScope ["thing"] ["thing"] (defScope sIsRow) := ⟨rfl, rfl, rfl, by decide +kernel, rfl, by decide +kernel, by decide +kernel⟩
/-- the defs of rows -/
structure Rows (K : PySem.W.Frag) (mg : Str → Option Value) : Prop where
  X : Txt K mg
  whole : ∃ f fd, Fn K mg "is_whole" sWhole ["thing", "least", "most"] f fd
  arewhole : ∃ f fd, Fn K mg "are_whole" sAreWhole ["thing", "least", "most"] f fd
  isrow : ∃ f fd, Fn K mg "is_row" sIsRow ["thing"] f fd
theorem ok_isrow {f : Addr} {fd : FuncData} (F : Fn K mg "is_row" sIsRow ["thing"] f fd) (Y : Rows K mg) : FnOk P w K mg base CX0 3 f fd ["thing"] spIsRow := by
  obtain ⟨T, ⟨_, _, W⟩, ⟨_, _, AW⟩, _⟩ := Y
  have GA := ok_arewhole (P := P) (w := w) (base := base) AW W T
  obtain ⟨tg, hg⟩ := T.great
  refine F.F.ok scIsRow (fun vs H Q E h => ?_) (fun cdv A outer s H vs Q E hr h => ?_)
  · obtain ⟨a, B, rfl, _⟩ := h
    rfl
  · obtain ⟨a, B, rfl, hB, hb, k⟩ := h
    refine ⟨_, pss_one (ps_ret (pe_call GA hr (by rfl) AW.m AW.F.kp AW.b .nil pass0 (pa_cons (pv 0) (pa_cons pe_int (pa_cons (pe_glob (v := .int 255) (by rfl) hg ⟨tg, rfl⟩) pa_nil))))), ?_⟩
    exact ⟨_, rfl, a, B, 0, 255, rfl, hB, fun b z => by have := hb b z; omega, k⟩
def spNeedRow : Sp := fun vs H Q _ => ∃ (a : Addr) (B : List Nat), vs = [.ref a] ∧ H a = some (.lst (B.map vN)) ∧ (∀ b ∈ B, b < 256) ∧ ∀ l, H l = none → Q (.ref l) (upd H l (.lst (B.map vN)))
theorem scNeedRow : FnScope ["thing"] ["thing"] (defScope sNeedRow) := ⟨rfl, rfl, rfl, by decide +kernel, rfl, by decide +kernel, by decide +kernel⟩
theorem ok_needrow {f : Addr} {fd : FuncData} (F : Fn K mg "need_row" sNeedRow ["thing"] f fd) (Y : Rows K mg) : FnOk P w K mg base CX0 4 f fd ["thing"] spNeedRow := by
  obtain ⟨fR, fdR, R⟩ := Y.isrow
  have GR := ok_isrow (P := P) (w := w) (base := base) R Y
  have T := Y.X
  refine F.F.ok scNeedRow (fun vs H Q E h => ?_) (fun cdv A outer s H vs Q E hr h => ?_)
  · obtain ⟨a, B, rfl, _⟩ := h
    rfl
  · obtain ⟨a, B, rfl, hB, hb, k⟩ := h
    refine ⟨_, pss_cons (ps_if (pt_not (pt_val (pe_call GR hr (by rfl) R.m R.F.kp R.b .nil pass0 (pa_cons (pv 0) pa_nil)))) (pss_one ps_never) pss_nil)
      (pss_one (ps_ret (pe_callTy call_list_of (by rfl) T.list PyProof.Rows.boot_list (pa_cons (pv 0) pa_nil)))), ?_⟩
    refine ⟨_, rfl, a, B, rfl, hB, hb, _, rfl, iteF ?_⟩
    exact ⟨_, rfl, a, _, rfl, .inl (SqL.of hB), k⟩
/-- a window that is handed in: None, or a row -/
def WinV (H : Hp) (x : V) (W : List Nat) : Prop := (x = .non ∧ W = []) ∨ ∃ b, x = .ref b ∧ H b = some (.lst (W.map vN))
theorem WinV.same {H H' : Hp} {x : V} {W : List Nat} (h : WinV H x W) (s : Same H H') : WinV H' x W := by
  rcases h with h | ⟨b, h1, h2⟩
  · exact .inl h
  · exact .inr ⟨b, h1, s _ _ h2⟩
def spNeedWin : Sp := fun vs H Q _ => ∃ (x : V) (W : List Nat), vs = [x, .int 255] ∧ WinV H x W ∧ (∀ b ∈ W, b < 256) ∧ W.length ≤ 255 ∧ ∀ l, H l = none → Q (.ref l) (upd H l (.lst (W.map vN)))
theorem scNeedWin : FnScope ["before", "most", "window"] ["before", "most"] (defScope sNeedWin) := ⟨rfl, rfl, rfl, by decide +kernel, rfl, by decide +kernel, by decide +kernel⟩
theorem ok_needwin {f fN : Addr} {fd fdN : FuncData} (F : Fn K mg "need_window" sNeedWin ["before", "most"] f fd) (N : Fn K mg "need_row" sNeedRow ["thing"] fN fdN) (Y : Rows K mg) : FnOk P w K mg base CX0 5 f fd ["before", "most"] spNeedWin := by
  have GN := ok_needrow (P := P) (w := w) (base := base) N Y
  have T := Y.X
  refine F.F.ok scNeedWin (fun vs H Q E h => ?_) (fun cdv A outer s H vs Q E hr h => ?_)
  · obtain ⟨x, W, rfl, _⟩ := h
    rfl
  · obtain ⟨x, W, rfl, hx, hb, hl, k⟩ := h
    refine ⟨_, pss_cons (ps_if (pt_cmpR op_isN (pv 0) pe_non (nomark _)) (pss_one (ps_ret (pe_lst pa_nil))) pss_nil)
      (pss_cons (ps_set (i := 2) scNeedWin.nd rfl (Or.inl rfl) (pe_call GN hr (by rfl) N.m N.F.kp N.b .nil pass0 (pa_cons (pv 0) pa_nil)))
      (pss_cons (ps_if (pt_cmpR op_gt (pe_callB call_len_seq (by rfl) T.len PySem.boot_len (pa_cons (pv 2) pa_nil)) (pv 1) (nomark _)) (pss_one ps_never) pss_nil)
      (pss_one (ps_ret (pv 2))))), ?_⟩
    rcases hx with ⟨rfl, rfl⟩ | ⟨b, rfl, hB⟩
    · exact ⟨_, rfl, rfl, _, rfl, ite2 (fun _ => ⟨by decide, k⟩) (fun h => absurd (decide_eq_true rfl) h)⟩
    · refine ⟨_, rfl, rfl, _, rfl, ite2 (fun h => absurd (of_decide_eq_true h) (by intro z; cases z)) (fun _ => ?_)⟩
      refine ⟨_, rfl, b, W, rfl, hB, hb, fun l hn => ?_⟩
      refine ⟨_, rfl, l, _, rfl, .inl (SqL.of upd_same), _, rfl, _, _, rfl, rfl, _, rfl, ite2 (fun h => ?_) (fun _ => ?_)⟩
      · have := of_decide_eq_true h
        rw [List.length_map] at this
        omega
      · exact ⟨_, rfl, k l hn⟩
/-! ### alike_from, longest_copy -/
def spAlike : Sp := fun vs H Q _ => ∃ (a : Addr) (S : List Nat) (p b m : Nat), vs = [.ref a, vN p, vN b, vN m] ∧ H a = some (.lst (S.map vN)) ∧ b ≤ p ∧ p + m ≤ S.length ∧ Q (vN (al S p b m)) H
theorem scAlike : FnScope ["signs", "place", "back", "most", "size"] ["signs", "place", "back", "most"] (defScope sAlike) := ⟨rfl, rfl, rfl, by decide +kernel, rfl, by decide +kernel, by decide +kernel⟩
theorem ok_alike {f : Addr} {fd : FuncData} (F : Fn K mg "alike_from" sAlike ["signs", "place", "back", "most"] f fd) : FnOk P w K mg base CX0 1 f fd ["signs", "place", "back", "most"] spAlike := by
  refine F.F.ok scAlike (fun vs H Q E h => ?_) (fun cdv A outer st H vs Q E hr h => ?_)
  · obtain ⟨a, S, p, b, m, rfl, _⟩ := h
    rfl
  · obtain ⟨a, S, p, b, m, rfl, hS, hb, hm, k⟩ := h
    refine ⟨_, pss_cons (ps_set (i := 4) scAlike.nd rfl (Or.inl rfl) pe_int)
      (pss_cons (ps_while PassesOwn.never (PW.pt (pw_and (pt_cmpR op_lt (pv 4) (pv 3) (nomark _)) (pw_and1 (pt_cmpR op_eq (pe_ix ix_list (pv 0) (pe_op op_add (pv 1) (pv 4)) (fun _ _ => rfl)) (pe_ix ix_list (pv 0) (pe_op op_sub (pe_op op_add (pv 1) (pv 4)) (pv 2)) (fun _ _ => rfl)) (nomark _)))))
        (pss_one (ps_set (i := 4) scAlike.nd rfl (Or.inl rfl) (pe_op op_add (pv 4) pe_int))))
      (pss_one (ps_ret (pv 4)))), ?_⟩
    refine seq_g fun R1 g1 => g1 _ _ ?_
    clear g1
    refine seq_g fun R1 g1 => ?_
    refine ⟨fun n σ H2 => ∃ i : Nat, n = m - i ∧ σ = [some (.ref a), some (vN p), some (vN b), some (vN m), some (vN i)] ∧ H2 = H ∧ i ≤ m ∧ ∀ j < i, S[p + j]? = S[p + j - b]?, ⟨m, 0, rfl, rfl, rfl, Nat.zero_le _, fun j hj => absurd hj (Nat.not_lt_zero _)⟩, ?_⟩
    rintro n σ H2 ⟨i, rfl, rfl, rfl, hi, hall⟩
    refine ⟨_, rfl, _, rfl, _, _, rfl, rfl, _, rfl, ite2 (fun h1 => ?_) (fun h1 => ?_)⟩
    · have h2 : i < m := by have := of_decide_eq_true h1; omega
      have e1 : ((p : Nat) : Int) + ((i : Nat) : Int) = ((p + i : Nat) : Int) := by omega
      have e2 : ((p + i : Nat) : Int) - ((b : Nat) : Int) = ((p + i - b : Nat) : Int) := by omega
      have l1 : p + i < S.length := by omega
      have l2 : p + i - b < S.length := by omega
      refine ⟨_, rfl, _, rfl, _, rfl, _, _, rfl, rfl, ?_⟩
      try dsimp only
      rw [e1]
      refine ⟨a, _, _, _, rfl, rfl, SqL.of hS, atI_nat (get_vN l1), ?_⟩
      refine ⟨_, rfl, _, rfl, _, rfl, _, _, rfl, rfl, _, rfl, _, _, rfl, rfl, ?_⟩
      try dsimp only
      rw [e1, e2]
      refine ⟨a, _, _, _, rfl, rfl, SqL.of hS, atI_nat (get_vN l2), rfl, _, rfl, ite2 (fun h3 => ?_) (fun h3 => ?_)⟩
      · have h4 : S[p + i] = S[p + i - b] := vN_inj.mp (of_decide_eq_true h3)
        refine ⟨fun σ' H' => σ' = [some (.ref a), some (vN p), some (vN b), some (vN m), some (vN (i + 1))] ∧ H' = H2, fun σ' H' z => ⟨m - (i + 1), by omega, i + 1, rfl, z.1, z.2, by omega, fun j hj => ?_⟩, ?_⟩
        · by_cases e : j = i
          · subst e
            rw [List.getElem?_eq_getElem l1, List.getElem?_eq_getElem l2, h4]
          · exact hall j (by omega)
        · exact ⟨_, rfl, _, _, rfl, rfl, rfl, rfl⟩
      · refine g1 _ _ ⟨_, rfl, ?_⟩
        have h4 : S[p + i]? ≠ S[p + i - b]? := by
          rw [List.getElem?_eq_getElem l1, List.getElem?_eq_getElem l2]
          intro z
          exact h3 (decide_eq_true (vN_inj.mpr (Option.some.inj z)))
        rw [al_end hall h4 m (by omega)] at k
        exact k
    · refine iteF (g1 _ _ ⟨_, rfl, ?_⟩)
      have h2 : i = m := by
        have h1' : ¬ (decide ((i : Int) < (m : Int)) = true) := h1
        have : ¬ ((i : Int) < (m : Int)) := fun z => h1' (decide_eq_true z)
        omega
      subst h2
      rw [al_of hall] at k
      exact k
def spLongest : Sp := fun vs H Q _ => ∃ (a : Addr) (S : List Nat) (p : Nat), vs = [.ref a, vN p] ∧ H a = some (.lst (S.map vN)) ∧ p < S.length ∧ S.length ≤ 1000 ∧ ∀ t, H t = none → Q (.ref t) (upd H t (.tup [.str (Str.ofString "copy"), vN (lcAt S p).1, vN (lcAt S p).2]))
abbrev nLongest : List Str := ["signs", "place", "most", "best_back", "best_size", "back", "size"]
theorem scLongest : FnScope nLongest ["signs", "place"] (defScope sLongest) := ⟨rfl, rfl, rfl, by decide +kernel, rfl, by decide +kernel, by decide +kernel⟩
theorem ok_longest {f fA : Addr} {fd fdA : FuncData} (F : Fn K mg "longest_copy" sLongest ["signs", "place"] f fd) (AF : Fn K mg "alike_from" sAlike ["signs", "place", "back", "most"] fA fdA) (T : Txt K mg) : FnOk P w K mg base CX0 31 f fd ["signs", "place"] spLongest := by
  have GA := ok_alike (P := P) (w := w) (base := base) AF
  obtain ⟨tf, hf⟩ := T.far
  obtain ⟨tm, hm⟩ := T.most
  refine F.F.ok scLongest (fun vs H Q E h => ?_) (fun cdv A outer st H vs Q E hr h => ?_)
  · obtain ⟨a, S, p, rfl, _⟩ := h
    rfl
  · obtain ⟨a, S, p, rfl, hS, hp, hlen, k⟩ := h
    have hn := hr.hd (by decide)
    have hr1 : Room 1 _ := hr.mono (by decide)
    refine ⟨_, pss_cons (ps_set (i := 2) scLongest.nd rfl (Or.inl rfl) (pe_callB (call_min2 hn) (by rfl) T.min PyProof.Rows.boot_min (pa_cons (pe_glob (v := .int 18) (by rfl) hm ⟨tm, rfl⟩) (pa_cons (pe_op op_sub (pe_callB call_len_seq (by rfl) T.len PySem.boot_len (pa_cons (pv 0) pa_nil)) (pv 1)) pa_nil))))
      (pss_cons (ps_set (i := 3) scLongest.nd rfl (Or.inl rfl) pe_int)
      (pss_cons (ps_set (i := 4) scLongest.nd rfl (Or.inl rfl) pe_int)
      (pss_cons (ps_for PassesOwn.never rfl (pi_range2 (by rfl) T.range (pa_cons pe_int (pa_cons (pe_op op_add (pe_callB (call_min2 hn) (by rfl) T.min PyProof.Rows.boot_min (pa_cons (pe_glob (v := .int 255) (by rfl) hf ⟨tf, rfl⟩) (pa_cons (pv 1) pa_nil))) pe_int) pa_nil))) (pg_name (i := 5) scLongest.nd rfl (Or.inl rfl))
        (pss_cons (ps_if (pt_cmpR op_eq (pv 4) (pv 2) (nomark _)) (pss_one ps_break) pss_nil)
        (pss_one (ps_if (pt_cmpR op_eq (pe_ix ix_list (pv 0) (pe_op op_add (pv 1) (pv 4)) (fun _ _ => rfl)) (pe_ix ix_list (pv 0) (pe_op op_sub (pe_op op_add (pv 1) (pv 4)) (pv 5)) (fun _ _ => rfl)) (nomark _))
          (pss_cons (ps_set (i := 6) scLongest.nd rfl (Or.inl rfl) (pe_call GA hr1 (by rfl) AF.m AF.F.kp AF.b .nil pass0 (pa_cons (pv 0) (pa_cons (pv 1) (pa_cons (pv 5) (pa_cons (pv 2) pa_nil))))))
          (pss_one (ps_if (pt_cmpR op_gt (pv 6) (pv 4) (nomark _)) (pss_cons (ps_set (i := 3) scLongest.nd rfl (Or.inl rfl) (pv 5)) (pss_one (ps_set (i := 4) scLongest.nd rfl (Or.inl rfl) (pv 6)))) pss_nil))) pss_nil))))
      (pss_one (ps_ret (pe_tup (pa_cons pe_str (pa_cons (pv 3) (pa_cons (pv 4) pa_nil))))))))), ?_⟩
    refine seq_g fun R1 g1 => ?_
    refine ⟨_, rfl, a, _, rfl, .inl (SqL.of hS), _, rfl, _, _, rfl, rfl, _, _, rfl, g1 _ _ ?_⟩
    clear g1
    have em : (if ((S.map vN).length : Int) - ((p : Nat) : Int) < 18 then ((S.map vN).length : Int) - ((p : Nat) : Int) else 18) = ((most S p : Nat) : Int) := by
      rw [List.length_map]
      unfold most
      split <;> omega
    try dsimp only
    rw [em]
    have hm2 : most S p ≤ 18 ∧ p + most S p ≤ S.length := by unfold most; omega
    refine seq_g fun R1 g1 => g1 _ _ ?_
    clear g1
    refine seq_g fun R1 g1 => g1 _ _ ?_
    clear g1
    refine seq_g fun R1 g1 => ?_
    have JR : ∀ v5 v6 : Option V, R1 [some (.ref a), some (vN p), some (vN (most S p)), some (vN (lcAt S p).1), some (vN (lcAt S p).2), v5, v6] H := fun v5 v6 => by
      refine g1 _ _ ?_
      exact ⟨_, rfl, _, rfl, (by show 3 ≤ sizeLine; decide), k⟩
    clear g1
    have ef : (if ((p : Nat) : Int) < 255 then ((p : Nat) : Int) else 255) = ((far p : Nat) : Int) := by
      unfold far
      split <;> omega
    refine ⟨_, rfl, _, _, rfl, ?_⟩
    try dsimp only
    rw [ef]
    have hfar : far p ≤ 255 ∧ far p ≤ p := by unfold far; omega
    refine ⟨_, _, rfl, rfl, 1, ((far p : Nat) : Int) + 1, rfl, ⟨by omega, by omega, by omega, by omega⟩, ?_⟩
    have en : (((far p : Nat) : Int) + 1 - 1).toNat = far p := by omega
    try dsimp only
    rw [en]
    refine for_range (D := ⟨_, _, fun _ _ => False, fun _ _ => False⟩) (lo := 1) (n := far p) (fun j σ H2 => ∃ v5 v6 : Option V, σ = [some (.ref a), some (vN p), some (vN (most S p)), some (vN (lc S p (most S p) j).1), some (vN (lc S p (most S p) j).2), v5, v6] ∧ H2 = H) ⟨none, none, rfl, rfl⟩ ?_ ?_
    · rintro j σ H2 hj ⟨v5, v6, rfl, rfl⟩
      have eb : (1 : Int) + ((j : Nat) : Int) = ((j + 1 : Nat) : Int) := by omega
      try dsimp only
      rw [eb]
      refine seq_g fun R2 g2 => ?_
      refine ⟨_, rfl, _, rfl, rfl, _, rfl, ite2 (fun h1 => ?_) (fun h1 => ?_)⟩
      · have h2 : (lc S p (most S p) j).2 = most S p := vN_inj.mp (of_decide_eq_true h1)
        have e := lc_full h2 (far p) (by omega)
        have J := JR (some (vN (j + 1))) v6
        unfold lcAt at J
        rw [e] at J
        exact J
      · have h2 : (lc S p (most S p) j).2 ≠ most S p := fun z => h1 (decide_eq_true (vN_inj.mpr z))
        have hle := lc_le S p (most S p) j
        refine g2 _ _ ?_
        clear g2
        have e1 : ((p : Nat) : Int) + (((lc S p (most S p) j).2 : Nat) : Int) = ((p + (lc S p (most S p) j).2 : Nat) : Int) := by omega
        have e2 : ((p + (lc S p (most S p) j).2 : Nat) : Int) - ((j + 1 : Nat) : Int) = ((p + (lc S p (most S p) j).2 - (j + 1) : Nat) : Int) := by omega
        have l1 : p + (lc S p (most S p) j).2 < S.length := by omega
        have l2 : p + (lc S p (most S p) j).2 - (j + 1) < S.length := by omega
        refine ⟨_, rfl, _, rfl, _, rfl, _, _, rfl, rfl, ?_⟩
        try dsimp only
        rw [e1]
        refine ⟨a, _, _, _, rfl, rfl, SqL.of hS, atI_nat (get_vN l1), ?_⟩
        refine ⟨_, rfl, _, rfl, _, rfl, _, _, rfl, rfl, _, rfl, _, _, rfl, rfl, ?_⟩
        try dsimp only
        rw [e1, e2]
        refine ⟨a, _, _, _, rfl, rfl, SqL.of hS, atI_nat (get_vN l2), rfl, _, rfl, ite2 (fun h3 => ?_) (fun h3 => ?_)⟩
        · refine ⟨_, rfl, _, rfl, _, rfl, _, rfl, a, S, p, j + 1, most S p, rfl, hS, by omega, by omega, ?_⟩
          refine ⟨_, rfl, _, rfl, _, _, rfl, rfl, _, rfl, ite2 (fun h4 => ?_) (fun h4 => ?_)⟩
          · have h5 : (lc S p (most S p) j).2 < al S p (j + 1) (most S p) := by have := of_decide_eq_true h4; omega
            refine ⟨_, rfl, _, rfl, some (vN (j + 1)), some (vN (al S p (j + 1) (most S p))), ?_, rfl⟩
            rw [lc, if_pos h5]
            rfl
          · have h5 : ¬ (lc S p (most S p) j).2 < al S p (j + 1) (most S p) := fun z => h4 (decide_eq_true (by omega))
            refine ⟨some (vN (j + 1)), some (vN (al S p (j + 1) (most S p))), ?_, rfl⟩
            rw [lc, if_neg h5]
            rfl
        · refine ⟨some (vN (j + 1)), v6, ?_, rfl⟩
          have h4 : S[p + (lc S p (most S p) j).2]? ≠ S[p + (lc S p (most S p) j).2 - (j + 1)]? := by
            rw [List.getElem?_eq_getElem l1, List.getElem?_eq_getElem l2]
            intro z
            exact h3 (decide_eq_true (vN_inj.mpr (Option.some.inj z)))
          rw [lc_pass h4]
          rfl
    · rintro σ H2 ⟨v5, v6, rfl, rfl⟩
      exact JR v5 v6
end
end K14

set_option Elab.async false
set_option linter.all false
set_option maxRecDepth 100000
set_option maxHeartbeats 4000000
namespace K14
open PySem L2 QQ W16
seal PE PA PS PSs PT PW PG PI
theorem map_vN (R : List Nat) : R.map vN = (R.map fun b => ((b : Nat) : Int)).map V.int := by
  rw [List.map_map]; rfl
theorem three_at (a b c : Nat) (m : Int) : ∃ v : Nat, (v = a ∨ v = b ∨ v = c) ∧ atI [V.int ((a : Nat) : Int), V.int ((b : Nat) : Int), V.int ((c : Nat) : Int)] (m % 3) = some (vN v) := by
  obtain ⟨z, hz, ez⟩ : ∃ z : Nat, z < 3 ∧ m % 3 = (z : Int) := ⟨(m % 3).toNat, by omega, by omega⟩
  rw [ez]
  match z, hz with
  | 0, _ => exact ⟨a, .inl rfl, atI_nat rfl⟩
  | 1, _ => exact ⟨b, .inr (.inl rfl), atI_nat rfl⟩
  | 2, _ => exact ⟨c, .inr (.inr rfl), atI_nat rfl⟩
/-- a piece's items -/
def itm : Pc → List V
  | .sg s => [.str (Str.ofString "sign"), vN s]
  | .cp b z => [.str (Str.ofString "copy"), vN b, vN z]
/-- tuples that tell pieces -/
def PT' (H : Hp) (ts : List Addr) (P : List Pc) : Prop := ts.length = P.length ∧ ∀ (i : Nat) (a : Addr) (x : Pc), ts[i]? = some a → P[i]? = some x → H a = some (.tup (itm x))
/-- a list of pieces -/
def PL (H : Hp) (l : Addr) (P : List Pc) : Prop := ∃ ts : List Addr, H l = some (.lst (ts.map V.ref)) ∧ PT' H ts P
theorem PT'.keep {H H' : Hp} {ts : List Addr} {P : List Pc} (h : PT' H ts P) (k : ∀ a xs, H a = some (.tup xs) → H' a = some (.tup xs)) : PT' H' ts P := ⟨h.1, fun i a x h1 h2 => k _ _ (h.2 i a x h1 h2)⟩
theorem PL.same {H H' : Hp} {l : Addr} {P : List Pc} (h : PL H l P) (s : Same H H') : PL H' l P := by
  obtain ⟨ts, h1, h2⟩ := h
  exact ⟨ts, s _ _ h1, h2.keep fun _ _ z => s _ _ z⟩
theorem PT'.snoc {H : Hp} {ts : List Addr} {P : List Pc} (h : PT' H ts P) {t : Addr} {x : Pc} (e : H t = some (.tup (itm x))) : PT' H (ts ++ [t]) (P ++ [x]) := by
  refine ⟨by simp [h.1], fun i a y h1 h2 => ?_⟩
  rw [List.getElem?_append] at h1 h2
  rw [← h.1] at h2
  split at h1
  · rename_i c
    rw [if_pos c] at h2
    exact h.2 i a y h1 h2
  · rename_i c
    rw [if_neg c] at h2
    have e0 : i - ts.length = 0 := by
      have := (List.getElem?_eq_some_iff.mp h1).1
      simp at this
      omega
    rw [e0] at h1 h2
    cases h1
    cases h2
    exact e
section
variable {P : Program} {w : World} {K : PySem.W.Frag} {mg : Str → Option Value} {base : Heap}
/-! ### pieces_of -/
def spPiecesOf : Sp := fun vs H Q _ => ∃ (a : Addr) (x : V) (W T : List Nat), vs = [.ref a, x] ∧ H a = some (.lst (T.map vN)) ∧ WinV H x W ∧ (∀ b ∈ W, b < 256) ∧ (∀ b ∈ T, b < 256) ∧ W.length ≤ 255 ∧ T.length ≤ 500 ∧
  ∀ l P H', Same H H' → H l = none → PL H' l P → Walk (W ++ T) W.length P (W ++ T).length → Q (.ref l) H'
abbrev nPiecesOf : List Str := ["text", "before", "own_signs", "signs", "place", "pieces", "found"]
theorem scPiecesOf : FnScope nPiecesOf ["text", "before"] (defScope sPiecesOf) := ⟨rfl, rfl, rfl, by decide +kernel, rfl, by decide +kernel, by decide +kernel⟩
/-- the defs of windows that pieces_of reaches -/
structure Wins (K : PySem.W.Frag) (mg : Str → Option Value) : Prop where
  R : Rows K mg
  needrow : ∃ f fd, Fn K mg "need_row" sNeedRow ["thing"] f fd
  needwin : ∃ f fd, Fn K mg "need_window" sNeedWin ["before", "most"] f fd
  alike : ∃ f fd, Fn K mg "alike_from" sAlike ["signs", "place", "back", "most"] f fd
  longest : ∃ f fd, Fn K mg "longest_copy" sLongest ["signs", "place"] f fd
theorem ok_piecesof {f : Addr} {fd : FuncData} (F : FnD K mg "pieces_of" sPiecesOf ["text", "before"] f fd) (Y : Wins K mg) : FnOk P w K mg base CX0 32 f fd ["text", "before"] spPiecesOf := by
  obtain ⟨R, ⟨_, _, N⟩, ⟨_, _, NW⟩, ⟨_, _, AF⟩, ⟨_, _, L⟩⟩ := Y
  have GN := ok_needrow (P := P) (w := w) (base := base) N R
  have GW := ok_needwin (P := P) (w := w) (base := base) NW N R
  have GL := ok_longest (P := P) (w := w) (base := base) L AF R.X
  have T := R.X
  obtain ⟨tl, hlc⟩ := T.least
  obtain ⟨tf, hfr⟩ := T.far
  obtain ⟨dV, FF⟩ := F.F
  refine FF.ok scPiecesOf (fun vs H Q E h => ?_) (fun cdv A outer st H vs Q E hr h => ?_)
  · obtain ⟨a, x, W, T, rfl, _⟩ := h
    rfl
  · obtain ⟨a, x, W, Tx, rfl, ha, hx, hbW, hbT, hW, hT, k⟩ := h
    have hr4 : Room 4 _ := hr.mono (by decide)
    have hr5 : Room 5 _ := hr.mono (by decide)
    refine ⟨_, pss_cons (ps_set (i := 2) scPiecesOf.nd rfl (Or.inl rfl) (pe_call GN hr4 (by rfl) N.m N.F.kp N.b .nil pass0 (pa_cons (pv 0) pa_nil)))
      (pss_cons (ps_set (i := 3) scPiecesOf.nd rfl (Or.inl rfl) (pe_op op_cat (pe_call GW hr5 (by rfl) NW.m NW.F.kp NW.b .nil pass0 (pa_cons (pv 1) (pa_cons (pe_glob (v := .int 255) (by rfl) hfr ⟨tf, rfl⟩) pa_nil))) (pv 2)))
      (pss_cons (ps_set (i := 4) scPiecesOf.nd rfl (Or.inl rfl) (pe_op op_sub (pe_callB call_len_seq (by rfl) T.len PySem.boot_len (pa_cons (pv 3) pa_nil)) (pe_callB call_len_seq (by rfl) T.len PySem.boot_len (pa_cons (pv 2) pa_nil))))
      (pss_cons (ps_set (i := 5) scPiecesOf.nd rfl (Or.inl rfl) (pe_lst pa_nil))
      (pss_cons (ps_while PassesOwn.never (pt_cmpR op_lt (pv 4) (pe_callB call_len_seq (by rfl) T.len PySem.boot_len (pa_cons (pv 3) pa_nil)) (nomark _))
        (pss_cons (ps_set (i := 6) scPiecesOf.nd rfl (Or.inl rfl) (pe_call GL hr (by rfl) L.m L.F.kp L.b .nil pass0 (pa_cons (pv 3) (pa_cons (pv 4) pa_nil))))
        (pss_one (ps_if (pt_cmpR op_ge (pe_ix ix_tup (pv 6) pe_int (fun _ _ => rfl)) (pe_glob (v := .int 3) (by rfl) hlc ⟨tl, rfl⟩) (nomark _))
          (pss_cons (ps_expr (pe_bm PySem.F.plainAttrs_list PySem.F.slot_list_append PySem.F.type_list_append mt_append (pv 5) (pa_cons (pv 6) pa_nil)))
            (pss_one (ps_set (i := 4) scPiecesOf.nd rfl (Or.inl rfl) (pe_op op_add (pv 4) (pe_ix ix_tup (pv 6) pe_int (fun _ _ => rfl))))))
          (pss_cons (ps_expr (pe_bm PySem.F.plainAttrs_list PySem.F.slot_list_append PySem.F.type_list_append mt_append (pv 5) (pa_cons (pe_tup (pa_cons pe_str (pa_cons (pe_ix ix_list (pv 3) (pv 4) (fun _ _ => rfl)) pa_nil))) pa_nil)))
            (pss_one (ps_set (i := 4) scPiecesOf.nd rfl (Or.inl rfl) (pe_op op_add (pv 4) pe_int))))))))
      (pss_one (ps_ret (pv 5))))))), ?_⟩
    refine seq_g fun R1 g1 => ?_
    refine ⟨_, rfl, a, Tx, rfl, ha, hbT, fun l1 n1 => g1 _ _ ?_⟩
    clear g1
    have s1 : Same H (upd H l1 (.lst (Tx.map vN))) := same_new n1
    refine seq_g fun R1 g1 => ?_
    refine ⟨_, rfl, x, W, rfl, hx.same s1, hbW, hW, fun l2 n2 => ?_⟩
    have s2 := same_new (o := .lst (W.map vN)) n2
    have h1a : (upd (upd H l1 (.lst (Tx.map vN))) l2 (.lst (W.map vN))) l1 = some (.lst (Tx.map vN)) := s2 _ _ upd_same
    refine ⟨_, rfl, l2, l1, _, _, rfl, rfl, upd_same, h1a, sl2000 (by rw [List.length_map, List.length_map]; omega), fun l3 n3 => g1 _ _ ?_⟩
    clear g1
    have s3 := same_new (o := .lst (W.map vN ++ Tx.map vN)) n3
    try dsimp only
    rw [← List.map_append] at s3 ⊢
    have hS3 : (upd (upd (upd H l1 (.lst (Tx.map vN))) l2 (.lst (W.map vN))) l3 (.lst ((W ++ Tx).map vN))) l3 = some (.lst ((W ++ Tx).map vN)) := upd_same
    have hS1 := s3 _ _ h1a
    have s03 := (s1.trans s2).trans s3
    generalize hH3 : upd (upd (upd H l1 (.lst (Tx.map vN))) l2 (.lst (W.map vN))) l3 (.lst ((W ++ Tx).map vN)) = H3 at *
    clear hH3 s3 n3 h1a s2 n2 s1
    refine seq_g fun R1 g1 => ?_
    refine ⟨_, rfl, l3, _, rfl, .inl (SqL.of hS3), _, rfl, l1, _, rfl, .inl (SqL.of hS1), _, _, rfl, rfl, g1 _ _ ?_⟩
    clear g1
    have ep : (((W ++ Tx).map vN).length : Int) - ((Tx.map vN).length : Int) = ((W.length : Nat) : Int) := by
      rw [List.length_map, List.length_map, List.length_append]; omega
    try dsimp only
    rw [ep]
    generalize hS : W ++ Tx = S at *
    have hSl : S.length = W.length + Tx.length := by rw [← hS, List.length_append]
    refine seq_g fun R1 g1 => ?_
    refine ⟨by decide, fun l5 n5 => g1 _ _ ?_⟩
    clear g1
    have s5 := same_new (o := .lst []) n5
    have n5' : H l5 = none := none_of s03 n5
    have hS5 := s5 _ _ hS3
    have n35 : l3 ≠ l5 := ne_of_none hS3 n5
    have s05 := s03.trans s5
    refine seq_g fun R1 g1 => ?_
    refine ⟨fun n σ H2 => ∃ (q : Nat) (Pp : List Pc) (ts : List Addr) (v6 : Option V), n = S.length - q ∧ σ = [some (.ref a), some x, some (.ref l1), some (.ref l3), some (vN q), some (.ref l5), v6] ∧ q ≤ S.length ∧ Walk S W.length Pp q ∧ H2 l3 = some (.lst (S.map vN)) ∧ H2 l5 = some (.lst (ts.map V.ref)) ∧ PT' H2 ts Pp ∧ Same H H2,
      ⟨S.length - W.length, W.length, [], [], none, rfl, rfl, by omega, rfl, hS5, upd_same, ⟨rfl, fun i b y h => by simp at h⟩, s05⟩, ?_⟩
    rintro n σ H2 ⟨q, Pp, ts, v6, rfl, rfl, hq, hw, h3, h5, hts, sm⟩
    refine ⟨_, rfl, _, rfl, l3, _, rfl, .inl (SqL.of h3), _, _, rfl, rfl, _, rfl, ite2 (fun hc => ?_) (fun hc => ?_)⟩
    · have hq2 : q < S.length := by have := of_decide_eq_true hc; rw [List.length_map] at this; omega
      refine ⟨fun σ' H' => ∃ (q' : Nat) (Pp : List Pc) (ts : List Addr) (v6 : Option V), q < q' ∧ σ' = [some (.ref a), some x, some (.ref l1), some (.ref l3), some (vN q'), some (.ref l5), v6] ∧ q' ≤ S.length ∧ Walk S W.length Pp q' ∧ H' l3 = some (.lst (S.map vN)) ∧ H' l5 = some (.lst (ts.map V.ref)) ∧ PT' H' ts Pp ∧ Same H H',
        fun σ' H' ⟨q', Pp, ts, v6, hlt, z1, z2, z⟩ => ⟨S.length - q', by omega, q', Pp, ts, v6, rfl, z1, z2, z⟩, ?_⟩
      have hlen : Pp.length ≤ S.length := by have := walk_len hw; omega
      have hpz := pcAt_size hq2
      refine seq_g fun R2 g2 => ?_
      refine ⟨_, rfl, _, rfl, l3, S, q, rfl, h3, hq2, by omega, fun t nt => g2 _ _ ?_⟩
      clear g2
      have st := same_new (o := .tup [.str (Str.ofString "copy"), vN (lcAt S q).1, vN (lcAt S q).2]) nt
      have ht : (upd H2 t (.tup [.str (Str.ofString "copy"), vN (lcAt S q).1, vN (lcAt S q).2])) t = some (.tup [.str (Str.ofString "copy"), vN (lcAt S q).1, vN (lcAt S q).2]) := upd_same
      have h3t := st _ _ h3
      have h5t := st _ _ h5
      have htst := hts.keep (H' := upd H2 t (.tup [.str (Str.ofString "copy"), vN (lcAt S q).1, vN (lcAt S q).2])) fun _ _ z => st _ _ z
      have smt := sm.trans st
      generalize hHt : upd H2 t (.tup [.str (Str.ofString "copy"), vN (lcAt S q).1, vN (lcAt S q).2]) = Ht at *
      clear hHt st
      have hap : ∀ (H4 : Hp) (u : Addr), H4 l5 = some (.lst (ts.map V.ref)) → H4 l3 = some (.lst (S.map vN)) → PT' H4 ts Pp → Same H H4 → H4 u = some (.tup (itm (pcAt S q))) →
          (upd H4 l5 (.lst (ts.map V.ref ++ [.ref u]))) l3 = some (.lst (S.map vN)) ∧ (upd H4 l5 (.lst (ts.map V.ref ++ [.ref u]))) l5 = some (.lst ((ts ++ [u]).map V.ref)) ∧ PT' (upd H4 l5 (.lst (ts.map V.ref ++ [.ref u]))) (ts ++ [u]) (Pp ++ [pcAt S q]) ∧ Same H (upd H4 l5 (.lst (ts.map V.ref ++ [.ref u]))) := by
        intro H4 u a5 a3 at' as au
        have kt : ∀ b xs, H4 b = some (.tup xs) → (upd H4 l5 (.lst (ts.map V.ref ++ [.ref u]))) b = some (.tup xs) := fun b xs z => by
          rw [upd_ne (ne_of z a5 (by intro y; cases y))]; exact z
        refine ⟨by rw [upd_ne n35]; exact a3, by rw [upd_same, List.map_append]; rfl, (at'.keep kt).snoc (kt _ _ au), fun b o z => ?_⟩
        rw [upd_ne (ne_of_none z n5')]
        exact as _ _ z
      refine ⟨_, rfl, t, _, _, _, rfl, rfl, SqT.of ht, atI_nat (j := 2) rfl, _, _, rfl, rfl, _, rfl, ite2 (fun h6 => ?_) (fun h6 => ?_)⟩
      · have h7 : 3 ≤ (lcAt S q).2 := by have := of_decide_eq_true h6; omega
        have epc : pcAt S q = .cp (lcAt S q).1 (lcAt S q).2 := by unfold pcAt; rw [if_pos h7]
        obtain ⟨b3, b5, bt, bs⟩ := hap Ht t h5t h3t htst smt (by rw [epc]; exact ht)
        refine ⟨_, rfl, .inl ⟨rfl, _, SqL.of h5t⟩, _, rfl, l5, _, _, rfl, rfl, h5t, sl2000' (by rw [List.length_map, hts.1]; omega), ?_⟩
        have ht2 : (upd Ht l5 (.lst (ts.map V.ref ++ [.ref t]))) t = some (.tup [.str (Str.ofString "copy"), vN (lcAt S q).1, vN (lcAt S q).2]) := by
          rw [upd_ne (ne_of ht h5t (by intro y; cases y))]; exact ht
        refine ⟨_, rfl, _, rfl, t, _, _, _, rfl, rfl, SqT.of ht2, atI_nat (j := 2) rfl, _, _, rfl, rfl, ?_⟩
        rw [epc] at bt hpz
        have hw2 := walk_snoc hw hq2
        rw [epc] at hw2
        have hz : (Pc.cp (lcAt S q).1 (lcAt S q).2).size = (lcAt S q).2 := rfl
        rw [hz] at hw2 hpz
        refine ⟨q + (lcAt S q).2, _, _, some (.ref t), by omega, ?_, hpz.2, hw2, b3, b5, bt, bs⟩
        have e2 : ((q : Nat) : Int) + (((lcAt S q).2 : Nat) : Int) = ((q + (lcAt S q).2 : Nat) : Int) := by omega
        try dsimp only
        rw [e2]
        rfl
      · have h7 : ¬ 3 ≤ (lcAt S q).2 := fun z => h6 (decide_eq_true (by omega))
        have epc : pcAt S q = .sg S[q] := by unfold pcAt; rw [if_neg h7]; simp [List.getD, hq2]
        refine ⟨_, rfl, .inl ⟨rfl, _, SqL.of h5t⟩, _, rfl, _, rfl, l3, _, _, _, rfl, rfl, SqL.of h3t, atI_nat (get_vN hq2), (by show 2 ≤ sizeLine; decide), fun u nu => ?_⟩
        have su := same_new (o := .tup [.str (Str.ofString "sign"), vN S[q]]) nu
        obtain ⟨b3, b5, bt, bs⟩ := hap (upd Ht u (.tup [.str (Str.ofString "sign"), vN S[q]])) u (su _ _ h5t) (su _ _ h3t) (htst.keep fun _ _ z => su _ _ z) (smt.trans su) (by rw [epc]; exact upd_same)
        refine ⟨l5, _, _, rfl, rfl, su _ _ h5t, sl2000' (by rw [List.length_map, hts.1]; omega), ?_⟩
        refine ⟨_, rfl, _, _, rfl, rfl, ?_⟩
        have hw2 := walk_snoc hw hq2
        rw [epc] at bt hw2 hpz
        exact ⟨q + 1, _, _, some (.ref t), by omega, rfl, hpz.2, hw2, b3, b5, bt, bs⟩
    · have hq2 : q = S.length := by
        have h1 : ¬ (decide (((q : Nat) : Int) < ((S.map vN).length : Int)) = true) := hc
        rw [List.length_map] at h1
        have : ¬ (((q : Nat) : Int) < ((S.length : Nat) : Int)) := fun z => h1 (decide_eq_true z)
        omega
      subst hq2
      refine g1 _ _ ⟨_, rfl, ?_⟩
      exact k l5 Pp H2 sm n5' ⟨ts, h5, hts⟩ hw
/-! ### the law's own small defs -/
def spCell (K : PySem.W.Frag) : Sp := fun vs H Q _ => ∃ (a : Addr) (ns : List Int) (k : Nat), vs = [.ref a, vN k] ∧ SqL K H a (ns.map V.int) ∧ Q (.int (ns.getD k 0)) H
theorem scCell : FnScope ["_law_script", "_law_k"] ["_law_script", "_law_k"] (defScope sCellAt) := ⟨rfl, rfl, rfl, by decide +kernel, rfl, by decide +kernel, by decide +kernel⟩
theorem ok_cell {f : Addr} {fd : FuncData} (F : Fn K mg "_law_cell_at" sCellAt ["_law_script", "_law_k"] f fd) (X : Txt K mg) : FnOk P w K mg base CX0 1 f fd ["_law_script", "_law_k"] (spCell K) := by
  refine F.F.ok scCell (fun vs H Q E h => ?_) (fun cdv A outer st H vs Q E hr h => ?_)
  · obtain ⟨a, ns, k, rfl, _⟩ := h
    rfl
  · obtain ⟨a, ns, k, rfl, hS, q⟩ := h
    refine ⟨_, pss_cons (ps_if (pt_cmpR op_lt (pv 1) (pe_callB call_len_seq (by rfl) X.len PySem.boot_len (pa_cons (pv 0) pa_nil)) (nomark _)) (pss_one (ps_ret (pe_ix ix_list (pv 0) (pv 1) (fun _ _ => rfl)))) pss_nil)
      (pss_one (ps_ret pe_int)), ?_⟩
    refine ⟨_, rfl, _, rfl, a, _, rfl, .inl hS, _, _, rfl, rfl, _, rfl, ?_⟩
    refine ite2 (fun h1 => ?_) (fun h1 => ?_)
    · have h2 : k < ns.length := by have := of_decide_eq_true h1; rw [List.length_map] at this; omega
      refine ⟨_, rfl, _, rfl, a, _, _, V.int (ns.getD k 0), rfl, rfl, hS, atI_nat ?_, q⟩
      rw [List.getElem?_map, List.getElem?_eq_getElem h2, List.getD_eq_getElem?_getD, List.getElem?_eq_getElem h2]
      rfl
    · have h1' : decide ((k : Int) < ((ns.map V.int).length : Int)) ≠ true := h1
      have h2 : ns.length ≤ k := by
        rw [List.length_map] at h1'
        by_cases h : (k : Int) < (ns.length : Int)
        · exact absurd (decide_eq_true h) h1'
        · omega
      try dsimp only
      rw [List.getD_eq_getElem?_getD, List.getElem?_eq_none h2] at q
      exact q
def mixI (c k : Int) : Int := ((c + 101 * k * k + 7) * 48271) % 2147483647 * 69621 % 2147483629
def mixN (c k : Int) : Nat := (mixI c k).toNat
theorem mixN_eq (c k : Int) : ((mixN c k : Nat) : Int) = mixI c k := Int.toNat_of_nonneg (Int.emod_nonneg _ (by decide))
def spMixed : Sp := fun vs H Q _ => ∃ (c k : Int), vs = [.int c, .int k] ∧ 0 ≤ k ∧ k ≤ 1000 ∧ Q (vN (mixN c k)) H
theorem scMixed : FnScope ["_law_cell", "_law_k"] ["_law_cell", "_law_k"] (defScope sMixed) := ⟨rfl, rfl, rfl, by decide +kernel, rfl, by decide +kernel, by decide +kernel⟩
theorem ok_mixed {f : Addr} {fd : FuncData} (F : Fn K mg "_law_mixed" sMixed ["_law_cell", "_law_k"] f fd) : FnOk P w K mg base CX0 1 f fd ["_law_cell", "_law_k"] spMixed := by
  refine F.F.ok scMixed (fun vs H Q E h => ?_) (fun cdv A outer st H vs Q E hr h => ?_)
  · obtain ⟨c, k, rfl, _⟩ := h
    rfl
  · obtain ⟨c, k, rfl, h0, h1, q⟩ := h
    refine ⟨_, pss_one (ps_ret (pe_op op_mod (pe_op op_mul (pe_op op_mod (pe_op op_mul (pe_op op_add (pe_op op_add (pv 0) (pe_op op_mul (pe_op op_mul pe_int (pv 1)) (pv 1))) pe_int) pe_int) pe_int) pe_int) pe_int)), ?_⟩
    refine ⟨_, rfl, _, rfl, _, _, rfl, rfl, .inl ⟨by decide, by decide⟩, _, rfl, _, _, rfl, rfl, .inr ⟨by omega, by omega⟩, _, _, rfl, rfl, _, _, rfl, rfl, ?_⟩
    refine ⟨_, _, rfl, rfl, .inr ⟨by decide, by decide⟩, _, _, rfl, rfl, (by show (0 : Int) < 2147483647; decide), _, _, rfl, rfl, .inr ⟨by decide, by decide⟩, _, _, rfl, rfl, (by show (0 : Int) < 2147483629; decide), ?_⟩
    try dsimp only
    rw [show (vN (mixN c k) : V) = V.int (mixI c k) from congrArg V.int (mixN_eq c k)] at q
    exact q
/-! ### _law_signs -/
def spSigns (K : PySem.W.Frag) : Sp := fun vs H Q _ => ∃ (a : Addr) (ns : List Int) (f z kd : Nat), vs = [.ref a, vN f, vN z, vN kd] ∧ SqL K H a (ns.map V.int) ∧ f ≤ 100 ∧ z ≤ 400 ∧ kd ≤ 20 ∧ ∀ (l : Addr) (S : List Nat) (H' : Hp), Same H H' → H l = none → H' l = some (.lst (S.map vN)) → S.length = z → (∀ b ∈ S, b < 256) → Q (.ref l) H'
abbrev nSigns : List Str := ["_law_script", "_law_first", "_law_size_here", "_law_kinds", "_law_found", "_law_k", "_law_number", "_law_more", "_law_back", "_law_turn"]
theorem scSigns : FnScope nSigns ["_law_script", "_law_first", "_law_size_here", "_law_kinds"] (defScope sSigns) := ⟨rfl, rfl, rfl, by decide +kernel, rfl, by decide +kernel, by decide +kernel⟩
/-- what has been found so far -/
def Fnd (H H' : Hp) (l : Addr) (n : Nat) : Prop := ∃ S : List Nat, H' l = some (.lst (S.map vN)) ∧ (∀ b ∈ S, b < 256) ∧ S.length = n ∧ Same H H'
theorem Fnd.same {H H' H2 : Hp} {l : Addr} {n : Nat} (h : Fnd H H' l n) (s : Same H' H2) : Fnd H H2 l n := by
  obtain ⟨S, h1, h2, h3, h4⟩ := h
  exact ⟨S, s _ _ h1, h2, h3, h4.trans s⟩
theorem Fnd.snoc {H H' : Hp} {l : Addr} {S : List Nat} {b : Nat} (hn : H l = none) (h1 : H' l = some (.lst (S.map vN))) (h2 : ∀ b ∈ S, b < 256) (h4 : Same H H') (hb : b < 256) : Fnd H (upd H' l (.lst (S.map vN ++ [vN b]))) l (S.length + 1) := by
  refine ⟨S ++ [b], ?_, fun c hc => ?_, by simp, fun c o z => ?_⟩
  · rw [upd_same, List.map_append]; rfl
  · rcases List.mem_append.mp hc with h | h
    · exact h2 c h
    · simp at h; omega
  · rw [upd_ne (ne_of_none z hn)]; exact h4 _ _ z
theorem ok_signs {f fC fM : Addr} {fd fdC fdM : FuncData} (F : Fn K mg "_law_signs" sSigns ["_law_script", "_law_first", "_law_size_here", "_law_kinds"] f fd) (Ce : Fn K mg "_law_cell_at" sCellAt ["_law_script", "_law_k"] fC fdC) (Mi : Fn K mg "_law_mixed" sMixed ["_law_cell", "_law_k"] fM fdM) (T : Txt K mg) :
    FnOk P w K mg base CX0 31 f fd ["_law_script", "_law_first", "_law_size_here", "_law_kinds"] (spSigns K) := by
  have GC := ok_cell (P := P) (w := w) (base := base) Ce T
  have GM := ok_mixed (P := P) (w := w) (base := base) Mi
  refine F.F.ok scSigns (fun vs H Q E h => ?_) (fun cdv A outer st H vs Q E hr h => ?_)
  · obtain ⟨a, ns, f, z, kd, rfl, _⟩ := h
    rfl
  · obtain ⟨a, ns, f, z, kd, rfl, hS, hf, hz, hkd, q⟩ := h
    have hn := hr.hd (by decide)
    have hr1 : Room 1 _ := hr.mono (by decide)
    have hu := hr.units
    refine ⟨_, pss_cons (ps_set (i := 4) scSigns.nd rfl (Or.inl rfl) (pe_lst pa_nil))
      (pss_cons (ps_set (i := 5) scSigns.nd rfl (Or.inl rfl) pe_int)
      (pss_cons (ps_while PassesOwn.never (pt_cmpR op_lt (pe_callB call_len_seq (by rfl) T.len PySem.boot_len (pa_cons (pv 4) pa_nil)) (pv 2) (nomark _))
        (pss_cons (ps_set (i := 6) scSigns.nd rfl (Or.inl rfl) (pe_call GM hr1 (by rfl) Mi.m Mi.F.kp Mi.b .nil pass0 (pa_cons (pe_call GC hr1 (by rfl) Ce.m Ce.F.kp Ce.b .nil pass0 (pa_cons (pv 0) (pa_cons (pe_op op_add (pv 1) (pe_op op_mod (pv 5) pe_int)) pa_nil))) (pa_cons (pv 5) pa_nil))))
        (pss_cons (ps_if (PW.pt (pw_or (pt_cmpR op_gt (pe_op op_mod (pv 6) pe_int) pe_int (nomark _)) (pw_or1 (pt_cmpR (op_eqL hu) (pv 4) (pe_lst pa_nil) (nomark _)))))
          (pss_cons (ps_set (i := 7) scSigns.nd rfl (Or.inl rfl) (pe_op op_fdiv (pv 6) pe_int))
          (pss_one (ps_expr (pe_bm PySem.F.plainAttrs_list PySem.F.slot_list_append PySem.F.type_list_append mt_append (pv 4) (pa_cons (pe_ifExp (pt_cmpR op_eq (pv 3) pe_int (nomark _)) (pe_op op_mod (pv 7) pe_int) (pe_op op_add (pe_op op_mul pe_int (pe_op op_mod (pv 7) (pv 3))) (pv 3))) pa_nil)))))
          (pss_cons (ps_set (i := 8) scSigns.nd rfl (Or.inl rfl) (pe_op op_add pe_int (pe_op op_mod (pe_op op_fdiv (pv 6) pe_int) (pe_callB (call_min2 hn) (by rfl) T.min PyProof.Rows.boot_min (pa_cons (pe_callB call_len_seq (by rfl) T.len PySem.boot_len (pa_cons (pv 4) pa_nil)) (pa_cons (pe_ix ix_list (pe_lst (pa_cons pe_int (pa_cons pe_int (pa_cons pe_int pa_nil)))) (pe_op op_mod (pe_op op_fdiv (pv 6) pe_int) pe_int) (fun _ _ => rfl)) pa_nil))))))
          (pss_one (ps_for PassesOwn.never rfl (pi_range1 (by rfl) T.range (pa_cons (pe_op op_add pe_int (pe_op op_mod (pe_op op_fdiv (pv 6) pe_int) (pe_ix ix_list (pe_lst (pa_cons pe_int (pa_cons pe_int (pa_cons pe_int pa_nil)))) (pe_op op_mod (pe_op op_fdiv (pv 6) pe_int) pe_int) (fun _ _ => rfl)))) pa_nil)) (pg_name (i := 9) scSigns.nd rfl (Or.inl rfl))
            (pss_one (ps_expr (pe_bm PySem.F.plainAttrs_list PySem.F.slot_list_append PySem.F.type_list_append mt_append (pv 4) (pa_cons (pe_ix ix_list (pv 4) (pe_op op_sub (pe_callB call_len_seq (by rfl) T.len PySem.boot_len (pa_cons (pv 4) pa_nil)) (pv 8)) (fun _ _ => rfl)) pa_nil))))))))
        (pss_one (ps_aug (i := 5) scSigns.nd rfl (Or.inl rfl) pe_int ip_add)))))
      (pss_one (ps_ret (pe_slice sl_list (pv 4) po_none (po_some (pv 2))))))), ?_⟩
    refine seq_g fun R1 g1 => ?_
    refine ⟨by decide, fun l nl => g1 _ _ ?_⟩
    clear g1
    have F0 : Fnd H (upd H l (.lst [])) l 0 := ⟨[], upd_same, fun b hb => by simp at hb, rfl, same_new nl⟩
    refine seq_g fun R1 g1 => g1 _ _ ?_
    clear g1
    refine seq_g fun R1 g1 => ?_
    refine ⟨fun n σ H2 => ∃ (c k : Nat) (v6 v7 v8 v9 : Option V), n = z - c ∧ σ = [some (.ref a), some (vN f), some (vN z), some (vN kd), some (.ref l), some (vN k), v6, v7, v8, v9] ∧ k ≤ c ∧ c ≤ z + 25 ∧ Fnd H H2 l c,
      ⟨z, 0, 0, none, none, none, none, rfl, rfl, Nat.le_refl _, Nat.zero_le _, F0⟩, ?_⟩
    rintro n σ H2 ⟨c, k, v6, v7, v8, v9, rfl, rfl, hk, hc, S, h2l, hb, hSc, sm⟩
    refine ⟨_, rfl, l, _, rfl, .inl (SqL.of h2l), _, rfl, _, _, rfl, rfl, _, rfl, ite2 (fun h1 => ?_) (fun h1 => ?_)⟩
    · have hcz : c < z := by have := of_decide_eq_true h1; rw [List.length_map] at this; omega
      clear g1
      refine ⟨fun σ' H' => ∃ (c' k : Nat) (v6 v7 v8 v9 : Option V), c < c' ∧ σ' = [some (.ref a), some (vN f), some (vN z), some (vN kd), some (.ref l), some (vN k), v6, v7, v8, v9] ∧ k ≤ c' ∧ c' ≤ z + 25 ∧ Fnd H H' l c',
        fun σ' H' ⟨c', k, v6, v7, v8, v9, hlt, z1, z2⟩ => ⟨z - c', by omega, c', k, v6, v7, v8, v9, rfl, z1, z2⟩, ?_⟩
      have ek : ((f : Nat) : Int) + ((k : Nat) : Int) % 16 = ((f + k % 16 : Nat) : Int) := by omega
      refine seq_g fun R2 g2 => ?_
      refine ⟨_, rfl, _, rfl, _, rfl, _, _, rfl, rfl, (by show (0 : Int) < 16; decide), _, _, rfl, rfl, ?_⟩
      try dsimp only
      rw [ek]
      refine ⟨a, ns, f + k % 16, rfl, sm.seq hS, _, rfl, _, ((k : Nat) : Int), rfl, by omega, by omega, g2 _ _ ?_⟩
      clear g2
      generalize mixN (ns.getD (f + k % 16) 0) ((k : Nat) : Int) = m
      refine seq_g fun R2 g2 => ?_
      have J : ∀ (c' : Nat) (v7 v8 v9 : Option V) (H' : Hp), c < c' → c' ≤ z + 25 → Fnd H H' l c' → R2 [some (.ref a), some (vN f), some (vN z), some (vN kd), some (.ref l), some (vN k), some (vN m), v7, v8, v9] H' := fun c' v7 v8 v9 H' h1 h2 h3 => by
        refine g2 _ _ ⟨_, rfl, _, _, rfl, rfl, c', k + 1, some (vN m), v7, v8, v9, h1, rfl, by omega, h2, h3⟩
      clear g2
      have ev0 : ((m : Nat) : Int) / 3 % 256 = ((m / 3 % 256 : Nat) : Int) := by omega
      refine ⟨_, rfl, _, _, rfl, rfl, (by show (0 : Int) < 3; decide), _, _, rfl, rfl, _, rfl, ite2 (fun h3 => ?_) (fun h3 => ?_)⟩
      · have HL := h2l
        have SM := sm
        refine iteT ?_
        refine ⟨_, rfl, _, _, rfl, rfl, ⟨by decide, by decide⟩, ?_⟩
        refine ⟨_, rfl, .inl ⟨rfl, _, SqL.of HL⟩, _, rfl, rfl, _, rfl, ite2 (fun hk0 => ?_) (fun hk0 => ?_)⟩
        · refine ⟨_, rfl, _, _, rfl, rfl, (by show (0 : Int) < 256; decide), ?_⟩
          try dsimp only
          rw [ev0]
          exact ⟨l, _, _, rfl, rfl, HL, sl2000' (by rw [List.length_map]; omega), J (S.length + 1) (some (V.int (((m : Nat) : Int) / 3))) v8 v9 _ (by omega) (by omega) (Fnd.snoc nl HL hb SM (by omega))⟩
        · have hk1 : 1 ≤ kd := by
            rcases Nat.eq_zero_or_pos kd with e | e
            · subst e; exact absurd (decide_eq_true rfl) hk0
            · exact e
          have ev1 : (7 : Int) * (((m : Nat) : Int) / 3 % ((kd : Nat) : Int)) + ((kd : Nat) : Int) = ((7 * (m / 3 % kd) + kd : Nat) : Int) := by
            have e3 : ((m : Nat) : Int) / 3 % ((kd : Nat) : Int) = ((m / 3 % kd : Nat) : Int) := by rw [Int.natCast_emod]; rfl
            rw [e3]; omega
          have hlt : m / 3 % kd < kd := Nat.mod_lt _ hk1
          refine ⟨_, rfl, _, rfl, _, _, rfl, rfl, (by show (0 : Int) < ((kd : Nat) : Int); omega), _, _, rfl, rfl, .inl ⟨by decide, by decide⟩, _, rfl, _, _, rfl, rfl, ?_⟩
          try dsimp only
          rw [ev1]
          exact ⟨l, _, _, rfl, rfl, HL, sl2000' (by rw [List.length_map]; omega), J (S.length + 1) (some (V.int (((m : Nat) : Int) / 3))) v8 v9 _ (by omega) (by omega) (Fnd.snoc nl HL hb SM (by omega))⟩
      · refine ⟨_, rfl, by decide, fun e he => ?_⟩
        have se := same_new (o := .lst []) he
        have HL := se _ _ h2l
        have SM := sm.trans se
        have he0 : (upd H2 e (.lst [])) e = some (.lst (([] : List Int).map V.int)) := upd_same
        refine ⟨l, e, S.map (fun b => ((b : Nat) : Int)), [], rfl, rfl, ?_, SqL.of he0, _, rfl, ite2 (fun h4 => ?_) (fun h4 => ?_)⟩
        · rw [← map_vN]; exact SqL.of HL
        · skip
          refine ⟨_, rfl, _, _, rfl, rfl, ⟨by decide, by decide⟩, ?_⟩
          refine ⟨_, rfl, .inl ⟨rfl, _, SqL.of HL⟩, _, rfl, rfl, _, rfl, ite2 (fun hk0 => ?_) (fun hk0 => ?_)⟩
          · refine ⟨_, rfl, _, _, rfl, rfl, (by show (0 : Int) < 256; decide), ?_⟩
            try dsimp only
            rw [ev0]
            exact ⟨l, _, _, rfl, rfl, HL, sl2000' (by rw [List.length_map]; omega), J (S.length + 1) (some (V.int (((m : Nat) : Int) / 3))) v8 v9 _ (by omega) (by omega) (Fnd.snoc nl HL hb SM (by omega))⟩
          · have hk1 : 1 ≤ kd := by
              rcases Nat.eq_zero_or_pos kd with e | e
              · subst e; exact absurd (decide_eq_true rfl) hk0
              · exact e
            have ev1 : (7 : Int) * (((m : Nat) : Int) / 3 % ((kd : Nat) : Int)) + ((kd : Nat) : Int) = ((7 * (m / 3 % kd) + kd : Nat) : Int) := by
              have e3 : ((m : Nat) : Int) / 3 % ((kd : Nat) : Int) = ((m / 3 % kd : Nat) : Int) := by rw [Int.natCast_emod]; rfl
              rw [e3]; omega
            have hlt : m / 3 % kd < kd := Nat.mod_lt _ hk1
            refine ⟨_, rfl, _, rfl, _, _, rfl, rfl, (by show (0 : Int) < ((kd : Nat) : Int); omega), _, _, rfl, rfl, .inl ⟨by decide, by decide⟩, _, rfl, _, _, rfl, rfl, ?_⟩
            try dsimp only
            rw [ev1]
            exact ⟨l, _, _, rfl, rfl, HL, sl2000' (by rw [List.length_map]; omega), J (S.length + 1) (some (V.int (((m : Nat) : Int) / 3))) v8 v9 _ (by omega) (by omega) (Fnd.snoc nl HL hb SM (by omega))⟩
        · have hS0 : 1 ≤ S.length := by
            cases S with
            | nil => exact absurd (decide_eq_true rfl) h4
            | cons x S => simp
          generalize hH3 : upd H2 e (.lst []) = H3 at *
          clear hH3 se he he0
          refine ⟨_, rfl, _, _, rfl, rfl, ⟨by decide, by decide⟩, _, rfl, l, _, rfl, .inl (SqL.of HL), (by show 3 ≤ sizeLine; decide), fun l4 n4 => ?_⟩
          have s4 := same_new (o := .lst [V.int 4, V.int 20, V.int 255]) n4
          obtain ⟨v, hv, hat⟩ := three_at 4 20 255 (((m : Nat) : Int) / 765)
          refine ⟨_, rfl, _, _, rfl, rfl, ⟨by decide, by decide⟩, _, _, rfl, rfl, (by show (0 : Int) < 3; decide), l4, _, _, _, rfl, rfl, SqL.of upd_same, hat, ?_⟩
          have em : (if ((v : Nat) : Int) < ((S.map vN).length : Int) then ((v : Nat) : Int) else ((S.map vN).length : Int)) = ((min S.length v : Nat) : Int) := by
            rw [List.length_map]
            split <;> omega
          refine ⟨_, _, rfl, ?_⟩
          try dsimp only
          rw [em]
          have hmin : 1 ≤ min S.length v ∧ min S.length v ≤ S.length := by omega
          generalize min S.length v = mn at *
          refine ⟨_, _, rfl, rfl, (by show (0 : Int) < ((mn : Nat) : Int); omega), _, _, rfl, rfl, ?_⟩
          have eb : (1 : Int) + ((m : Nat) : Int) / 3 % ((mn : Nat) : Int) = ((1 + m / 3 % mn : Nat) : Int) := by
            have e3 : ((m : Nat) : Int) / 3 % ((mn : Nat) : Int) = ((m / 3 % mn : Nat) : Int) := by rw [Int.natCast_emod]; rfl
            rw [e3]; omega
          try dsimp only
          rw [eb]
          have hlt : m / 3 % mn < mn := Nat.mod_lt _ hmin.1
          have hbk : 1 ≤ 1 + m / 3 % mn ∧ 1 + m / 3 % mn ≤ S.length := by omega
          generalize 1 + m / 3 % mn = bk at *
          have HL4 := s4 _ _ HL
          have SM4 := SM.trans s4
          generalize hH4 : upd H3 l4 (.lst [V.int 4, V.int 20, V.int 255]) = H4 at *
          clear hH4 s4 n4
          refine ⟨_, rfl, _, _, rfl, rfl, ⟨by decide, by decide⟩, (by show 3 ≤ sizeLine; decide), fun l5 n5 => ?_⟩
          have s5 := same_new (o := .lst [V.int 4, V.int 9, V.int 25]) n5
          obtain ⟨v2, hv2, hat2⟩ := three_at 4 9 25 (((m : Nat) : Int) / 57375)
          refine ⟨_, rfl, _, _, rfl, rfl, ⟨by decide, by decide⟩, _, _, rfl, rfl, (by show (0 : Int) < 3; decide), l5, _, _, _, rfl, rfl, SqL.of upd_same, hat2, ?_⟩
          refine ⟨_, _, rfl, rfl, (by show (0 : Int) < ((v2 : Nat) : Int); omega), _, _, rfl, rfl, ?_⟩
          have et : (1 : Int) + ((m : Nat) : Int) / 2295 % ((v2 : Nat) : Int) = ((1 + m / 2295 % v2 : Nat) : Int) := by
            have e3 : ((m : Nat) : Int) / 2295 % ((v2 : Nat) : Int) = ((m / 2295 % v2 : Nat) : Int) := by rw [Int.natCast_emod]; rfl
            rw [e3]; omega
          try dsimp only
          rw [et]
          have hlt2 : m / 2295 % v2 < v2 := Nat.mod_lt _ (by omega)
          have htn : 1 ≤ 1 + m / 2295 % v2 ∧ 1 + m / 2295 % v2 ≤ 25 := by omega
          generalize 1 + m / 2295 % v2 = tn at *
          have HL5 := s5 _ _ HL4
          have SM5 := SM4.trans s5
          generalize hH5 : upd H4 l5 (.lst [V.int 4, V.int 9, V.int 25]) = H5 at *
          clear hH5 s5 n5
          refine ⟨((tn : Nat) : Int), rfl, by omega, by omega, ?_⟩
          try dsimp only
          rw [Int.toNat_natCast]
          refine for_range (D := ⟨_, _, fun _ _ => False, fun _ _ => False⟩) (lo := 0) (n := tn) (fun j σ H6 => ∃ v9' : Option V, σ = [some (.ref a), some (vN f), some (vN z), some (vN kd), some (.ref l), some (vN k), some (vN m), v7, some (vN bk), v9'] ∧ Fnd H H6 l (S.length + j)) ⟨v9, rfl, S, HL5, hb, rfl, SM5⟩ ?_ ?_
          · rintro j σ H6 hj ⟨v9', rfl, S6, h6, hb6, hl6, sm6⟩
            have eix : ((S6.map vN).length : Int) - ((bk : Nat) : Int) = ((S6.length - bk : Nat) : Int) := by rw [List.length_map]; omega
            have hg : S6.length - bk < S6.length := by omega
            refine ⟨_, rfl, .inl ⟨rfl, _, SqL.of h6⟩, _, rfl, _, rfl, l, _, rfl, .inl (SqL.of h6), _, rfl, _, _, rfl, rfl, ?_⟩
            try dsimp only
            rw [eix]
            refine ⟨l, _, _, _, rfl, rfl, SqL.of h6, atI_nat (get_vN hg), l, _, _, rfl, rfl, h6, sl2000' (by rw [List.length_map]; omega), some (V.int ((0 : Int) + ((j : Nat) : Int))), rfl, ?_⟩
            have := Fnd.snoc nl h6 hb6 sm6 (hb6 _ (List.getElem_mem hg))
            rw [show S.length + (j + 1) = S6.length + 1 by omega]
            exact this
          · rintro σ H6 ⟨v9', rfl, h6⟩
            exact J _ _ _ _ _ (by omega) (by omega) h6
    · have hcz : z ≤ c := by
        have h1' : ¬ (decide (((S.map vN).length : Int) < ((z : Nat) : Int)) = true) := h1
        rw [List.length_map] at h1'
        have : ¬ (((S.length : Nat) : Int) < ((z : Nat) : Int)) := fun y => h1' (decide_eq_true y)
        omega
      refine g1 _ _ ⟨_, rfl, _, rfl, _, rfl, l, _, rfl, SqL.of h2l, fun p hp => ?_⟩
      have e : cutV (S.map vN) none (some ((z : Nat) : Int)) = (S.take z).map vN := by rw [take_cut, List.map_take]
      try dsimp only
      rw [e]
      exact q p (S.take z) _ (sm.trans (same_new hp)) (none_of sm hp) upd_same (by rw [List.length_take]; omega) (fun b hb' => hb b (List.mem_of_mem_take hb'))
end
end K14

set_option Elab.async false
set_option linter.all false
set_option maxRecDepth 100000
set_option maxHeartbeats 4000000
namespace K14
open PySem L2 QQ W16
seal PE PA PS PSs PT PW PG PI
theorem flat_one (r a : Nat) : (List.replicate r [vN a]).flatten = (List.replicate r a).map vN := by
  induction r with
  | zero => rfl
  | succ r ih => rw [List.replicate_succ, List.flatten_cons, ih]; rfl
theorem six_at (m : Int) : ∃ v : Nat, v ≤ 20 ∧ atI [V.int 1, V.int 2, V.int 3, V.int 6, V.int 20, V.int 0] (m % 6) = some (vN v) := by
  obtain ⟨z, hz, ez⟩ : ∃ z : Nat, z < 6 ∧ m % 6 = (z : Int) := ⟨(m % 6).toNat, by omega, by omega⟩
  rw [ez]
  match z, hz with
  | 0, _ => exact ⟨1, by decide, atI_nat rfl⟩
  | 1, _ => exact ⟨2, by decide, atI_nat rfl⟩
  | 2, _ => exact ⟨3, by decide, atI_nat rfl⟩
  | 3, _ => exact ⟨6, by decide, atI_nat rfl⟩
  | 4, _ => exact ⟨20, by decide, atI_nat rfl⟩
  | 5, _ => exact ⟨0, by decide, atI_nat rfl⟩
theorem eight_at {a b c d : Nat} (ha : a < 12) (hb : b < 40) (hc : c < 60) (hd : d < 76) (m : Int) : ∃ v : Nat, v ≤ 255 ∧ atI [V.int 0, V.int 0, vN a, vN b, vN b, V.int 1, vN c, vN (180 + d)] (m % 8) = some (vN v) := by
  obtain ⟨z, hz, ez⟩ : ∃ z : Nat, z < 8 ∧ m % 8 = (z : Int) := ⟨(m % 8).toNat, by omega, by omega⟩
  rw [ez]
  match z, hz with
  | 0, _ => exact ⟨0, by decide, atI_nat rfl⟩
  | 1, _ => exact ⟨0, by decide, atI_nat rfl⟩
  | 2, _ => exact ⟨a, by omega, atI_nat rfl⟩
  | 3, _ => exact ⟨b, by omega, atI_nat rfl⟩
  | 4, _ => exact ⟨b, by omega, atI_nat rfl⟩
  | 5, _ => exact ⟨1, by decide, atI_nat rfl⟩
  | 6, _ => exact ⟨c, by omega, atI_nat rfl⟩
  | 7, _ => exact ⟨180 + d, by omega, atI_nat rfl⟩
section
variable {P : Program} {w : World} {K : PySem.W.Frag} {mg : Str → Option Value} {base : Heap}
/-! ### _law_drawn -/
def spDrawn (K : PySem.W.Frag) : Sp := fun vs H Q _ => ∃ (a : Addr) (ns : List Int), vs = [.ref a] ∧ SqL K H a (ns.map V.int) ∧ ∀ (t lw lt : Addr) (W T : List Nat) (H' : Hp), Same H H' → H lw = none → H lt = none → lw ≠ lt → H' t = some (.tup [.ref lw, .ref lt]) → H' lw = some (.lst (W.map vN)) → H' lt = some (.lst (T.map vN)) → (∀ b ∈ W, b < 256) → (∀ b ∈ T, b < 256) → W.length ≤ 255 → T.length ≤ 60 → Q (.ref t) H'
abbrev nDrawn : List Str := ["_law_script", "_law_number", "_law_kinds", "_law_before", "_law_between", "_law_more", "_law_ahead", "_law_size_here", "_law_signs_here"]
theorem scDrawn : FnScope nDrawn ["_law_script"] (defScope sDrawn) := ⟨rfl, rfl, rfl, by decide +kernel, rfl, by decide +kernel, by decide +kernel⟩
theorem ndK : (["_law_k", "_law_number"] : List Str).Nodup := by decide +kernel
def teB : TE := tOp (rI (fun _ j => 0 < j) fun i j => .int (i % j)) (tOp (rI0 fun i j => .int (i + j)) (tOp (rI CMul fun i j => .int (i * j)) (tC (.int 101)) (tVar 0)) (tVar 1)) (tC (.int 256))
theorem ok_drawn {f fC fM fS : Addr} {fd fdC fdM fdS : FuncData} (F : Fn K mg "_law_drawn" sDrawn ["_law_script"] f fd) (Ce : Fn K mg "_law_cell_at" sCellAt ["_law_script", "_law_k"] fC fdC) (Mi : Fn K mg "_law_mixed" sMixed ["_law_cell", "_law_k"] fM fdM)
    (Si : Fn K mg "_law_signs" sSigns ["_law_script", "_law_first", "_law_size_here", "_law_kinds"] fS fdS) (T : Txt K mg) : FnOk P w K mg base CX0 32 f fd ["_law_script"] (spDrawn K) := by
  have GC := ok_cell (P := P) (w := w) (base := base) Ce T
  have GM := ok_mixed (P := P) (w := w) (base := base) Mi
  have GS := ok_signs (P := P) (w := w) (base := base) Si Ce Mi T
  refine F.F.ok scDrawn (fun vs H Q E h => ?_) (fun cdv A outer st H vs Q E hr h => ?_)
  · obtain ⟨a, ns, rfl, _⟩ := h
    rfl
  · obtain ⟨a, ns, rfl, hS, q⟩ := h
    have hr1 : Room 1 _ := hr.mono (by decide)
    refine ⟨_, pss_cons (ps_set (i := 1) scDrawn.nd rfl (Or.inr rfl) (pe_call GM hr1 (by rfl) Mi.m Mi.F.kp Mi.b .nil pass0 (pa_cons (pe_call GC hr1 (by rfl) Ce.m Ce.F.kp Ce.b .nil pass0 (pa_cons (pv 0) (pa_cons pe_int pa_nil))) (pa_cons pe_int pa_nil))))
      (pss_cons (ps_set (i := 2) scDrawn.nd rfl (Or.inl rfl) (pe_ix ix_list (pe_lst (pa_cons pe_int (pa_cons pe_int (pa_cons pe_int (pa_cons pe_int (pa_cons pe_int (pa_cons pe_int pa_nil))))))) (pe_op op_mod (pv 1) pe_int) (fun _ _ => rfl)))
      (pss_cons (ps_if (PW.pt (pw_and (pt_cmpR op_eq (pe_op op_mod (pe_op op_fdiv (pv 1) pe_int) pe_int) pe_int (nomark _)) (pw_and1 (pt_cmpR op_eq (pe_op op_mod (pe_op op_fdiv (pv 1) pe_int) pe_int) pe_int (nomark _)))))
        (pss_cons (ps_setCC (N := ["_law_k", "_law_number"]) (js := [none, some 1]) (cl := [("_law_number", st.heap.objs.size + 1)]) (g := gName 0) (te := teB) (i := 3) scDrawn.nd rfl (Or.inl rfl) rfl
          ⟨rfl, by decide +kernel, by decide +kernel, by rfl, fun x c h => (by obtain ⟨rfl, rfl⟩ := lookup_one h; rfl), fun x hx => ?_, rfl, fun i x j h1 h2 => ?_⟩
          (pi_range1 (by rfl) T.range (pa_cons pe_int pa_nil))
          (fun fp s H => pg_name (i := 0) ndK rfl (Or.inl rfl))
          (fun fp s H => pe_op op_mod (pe_op op_add (pe_op op_mul pe_int (pv 0)) (pv 1)) pe_int) (by rfl))
        (pss_cons (ps_set (i := 4) scDrawn.nd rfl (Or.inl rfl) (pe_op op_rep (pe_lst (pa_cons (pe_op op_mod (pe_op op_add (pe_op op_mul pe_int pe_int) (pv 1)) pe_int) pa_nil)) (pe_op op_mod (pe_op op_fdiv (pv 1) pe_int) pe_int)))
        (pss_one (ps_ret (pe_tup (pa_cons (pv 3) (pa_cons (pe_op op_cat (pv 4) (pe_slice sl_list (pv 3) po_none (po_some (pe_op op_add pe_int (pe_op op_mod (pe_op op_fdiv (pv 1) pe_int) pe_int))))) pa_nil))))))) pss_nil)
      (pss_cons (ps_set (i := 5) scDrawn.nd rfl (Or.inl rfl) (pe_op op_fdiv (pv 1) pe_int))
      (pss_cons (ps_set (i := 6) scDrawn.nd rfl (Or.inl rfl) (pe_lst (pa_cons pe_int (pa_cons pe_int (pa_cons (pe_op op_mod (pv 5) pe_int) (pa_cons (pe_op op_mod (pv 5) pe_int) (pa_cons (pe_op op_mod (pv 5) pe_int) (pa_cons pe_int (pa_cons (pe_op op_mod (pv 5) pe_int) (pa_cons (pe_op op_add pe_int (pe_op op_mod (pv 5) pe_int)) pa_nil))))))))))
      (pss_cons (ps_set (i := 6) scDrawn.nd rfl (Or.inl rfl) (pe_ix ix_list (pv 6) (pe_op op_mod (pe_op op_fdiv (pv 1) pe_int) pe_int) (fun _ _ => rfl)))
      (pss_cons (ps_set (i := 7) scDrawn.nd rfl (Or.inl rfl) (pe_op op_mod (pe_op op_fdiv (pv 5) pe_int) pe_int))
      (pss_cons (ps_if (pt_cmpR op_gt (pv 6) pe_int (nomark _)) (pss_one (ps_set (i := 7) scDrawn.nd rfl (Or.inl rfl) (pe_op op_mod (pv 7) pe_int))) pss_nil)
      (pss_cons (ps_set (i := 8) scDrawn.nd rfl (Or.inl rfl) (pe_call GS hr (by rfl) Si.m Si.F.kp Si.b .nil pass0 (pa_cons (pv 0) (pa_cons pe_int (pa_cons (pe_op op_add (pv 6) (pv 7)) (pa_cons (pv 2) pa_nil))))))
      (pss_one (ps_ret (pe_tup (pa_cons (pe_slice sl_list (pv 8) po_none (po_some (pv 6))) (pa_cons (pe_slice sl_list (pv 8) (po_some (pv 6)) po_none) pa_nil))))))))))))), ?_⟩
    · rcases hx with hx | hx
      · have m' : (x, NameKind.cell) ∈ ([(".0", .local), ("_law_k", .local), ("_law_number", .cell)] : List (Str × NameKind)) := PySem.mem_of_lookup hx
        have e : x = "_law_number" := by simpa using m'
        subst e
        exact ⟨_, rfl⟩
      · have m' : (x, NameKind.free) ∈ ([(".0", .local), ("_law_k", .local), ("_law_number", .cell)] : List (Str × NameKind)) := PySem.mem_of_lookup hx
        simp at m'
    · match i, h1, h2 with
      | 0, _, h2 => cases h2
      | 1, h1, h2 =>
        cases h1
        cases h2
        exact ⟨rfl, rfl, rfl, fun c h => h⟩
      | i + 2, h1, _ => cases h1
    refine seq_g fun R1 g1 => ?_
    refine ⟨_, rfl, a, ns, 0, rfl, hS, _, 1, rfl, by decide, by decide, g1 _ _ ?_⟩
    clear g1
    generalize mixN (ns.getD 0 0) 1 = m
    refine seq_g fun R1 g1 => ?_
    refine ⟨(by show 6 ≤ sizeLine; decide), fun l1 n1 => ?_⟩
    obtain ⟨kd, hkd, hat⟩ := six_at ((m : Nat) : Int)
    refine ⟨_, rfl, _, _, rfl, rfl, (by show (0 : Int) < 6; decide), l1, _, _, _, rfl, rfl, SqL.of upd_same, hat, g1 _ _ ?_⟩
    clear g1 hat
    have s1 := same_new (o := .lst [V.int 1, V.int 2, V.int 3, V.int 6, V.int 20, V.int 0]) n1
    generalize upd H l1 (.lst [V.int 1, V.int 2, V.int 3, V.int 6, V.int 20, V.int 0]) = H1 at *
    refine seq_g fun R1 g1 => ?_
    have JB : R1 [some (.ref a), some (vN m), some (vN kd), none, none, none, none, none, none] H1 := by
      refine g1 _ _ ?_
      clear g1
      refine seq_g fun R2 g2 => ?_
      refine ⟨_, rfl, _, _, rfl, rfl, ⟨by decide, by decide⟩, g2 _ _ ?_⟩
      clear g2
      have em : ((m : Nat) : Int) / 48 = ((m / 48 : Nat) : Int) := by omega
      try dsimp only
      rw [em]
      generalize m / 48 = mr
      refine seq_g fun R2 g2 => ?_
      refine ⟨_, rfl, _, _, rfl, rfl, (by show (0 : Int) < 12; decide), _, rfl, _, _, rfl, rfl, (by show (0 : Int) < 40; decide), _, rfl, _, _, rfl, rfl, (by show (0 : Int) < 40; decide), _, rfl, _, _, rfl, rfl, (by show (0 : Int) < 60; decide), _, rfl, _, _, rfl, rfl, (by show (0 : Int) < 76; decide), _, _, rfl, rfl, (by show 8 ≤ sizeLine; decide), fun l2 n2 => g2 _ _ ?_⟩
      clear g2
      have e1 : ((mr : Nat) : Int) % 12 = ((mr % 12 : Nat) : Int) := by omega
      have e2 : ((mr : Nat) : Int) % 40 = ((mr % 40 : Nat) : Int) := by omega
      have e3 : ((mr : Nat) : Int) % 60 = ((mr % 60 : Nat) : Int) := by omega
      have e4 : (180 : Int) + ((mr : Nat) : Int) % 76 = ((180 + mr % 76 : Nat) : Int) := by omega
      try dsimp only
      rw [e1, e2, e3, e4]
      have s2 := same_new (o := .lst [V.int 0, V.int 0, V.int ((mr % 12 : Nat) : Int), V.int ((mr % 40 : Nat) : Int), V.int ((mr % 40 : Nat) : Int), V.int 1, V.int ((mr % 60 : Nat) : Int), V.int ((180 + mr % 76 : Nat) : Int)]) n2
      have h22 : (upd H1 l2 (.lst [V.int 0, V.int 0, V.int ((mr % 12 : Nat) : Int), V.int ((mr % 40 : Nat) : Int), V.int ((mr % 40 : Nat) : Int), V.int 1, V.int ((mr % 60 : Nat) : Int), V.int ((180 + mr % 76 : Nat) : Int)])) l2 = some (.lst [V.int 0, V.int 0, V.int ((mr % 12 : Nat) : Int), V.int ((mr % 40 : Nat) : Int), V.int ((mr % 40 : Nat) : Int), V.int 1, V.int ((mr % 60 : Nat) : Int), V.int ((180 + mr % 76 : Nat) : Int)]) := upd_same
      obtain ⟨ah, hah, hat⟩ := eight_at (a := mr % 12) (b := mr % 40) (c := mr % 60) (d := mr % 76) (by omega) (by omega) (by omega) (by omega) (((m : Nat) : Int) / 6)
      generalize upd H1 l2 (.lst [V.int 0, V.int 0, V.int ((mr % 12 : Nat) : Int), V.int ((mr % 40 : Nat) : Int), V.int ((mr % 40 : Nat) : Int), V.int 1, V.int ((mr % 60 : Nat) : Int), V.int ((180 + mr % 76 : Nat) : Int)]) = H2 at *
      refine seq_g fun R2 g2 => ?_
      refine ⟨_, rfl, _, rfl, _, _, rfl, rfl, ⟨by decide, by decide⟩, _, _, rfl, rfl, (by show (0 : Int) < 8; decide), l2, _, _, _, rfl, rfl, SqL.of h22, hat, g2 _ _ ?_⟩
      clear g2 hat
      refine seq_g fun R2 g2 => ?_
      refine ⟨_, rfl, _, _, rfl, rfl, ⟨by decide, by decide⟩, _, _, rfl, rfl, (by show (0 : Int) < 25; decide), g2 _ _ ?_⟩
      clear g2
      have e5 : ((mr : Nat) : Int) / 76 % 25 = ((mr / 76 % 25 : Nat) : Int) := by omega
      try dsimp only
      rw [e5]
      have hz0 : mr / 76 % 25 < 25 := by omega
      generalize mr / 76 % 25 = z0 at *
      refine seq_g fun R2 g2 => ?_
      have J : ∀ z : Nat, z < 25 → R2 [some (.ref a), some (vN m), some (vN kd), none, none, some (vN mr), some (vN ah), some (vN z), none] H2 := by
        intro z hz
        refine g2 _ _ ?_
        clear g2
        have e6 : ((ah : Nat) : Int) + ((z : Nat) : Int) = ((ah + z : Nat) : Int) := by omega
        refine seq_g fun R3 g3 => ?_
        refine ⟨_, rfl, _, rfl, _, rfl, _, _, rfl, rfl, _, rfl, ?_⟩
        try dsimp only
        rw [e6]
        refine ⟨a, ns, 2, ah + z, kd, rfl, (s1.trans s2).seq hS, by decide, by omega, hkd, fun ls S H4 s4 nls hls hSl hb => g3 _ _ ?_⟩
        clear g3
        have s04 := (s1.trans s2).trans s4
        refine ⟨_, rfl, _, rfl, _, rfl, ls, _, rfl, SqL.of hls, fun l5 n5 => ?_⟩
        have ec5 : cutV (S.map vN) none (some ((ah : Nat) : Int)) = (S.take ah).map vN := by rw [take_cut, ← List.map_take]
        have ec6 : cutV (S.map vN) (some ((ah : Nat) : Int)) none = (S.drop ah).map vN := by rw [drop_cut, ← List.map_drop]
        try dsimp only
        rw [ec5]
        have s5 := same_new (o := .lst ((S.take ah).map vN)) n5
        have h5 : (upd H4 l5 (.lst ((S.take ah).map vN))) l5 = some (.lst ((S.take ah).map vN)) := upd_same
        have hls5 := s5 _ _ hls
        generalize upd H4 l5 (.lst ((S.take ah).map vN)) = H5 at *
        refine ⟨_, rfl, _, rfl, _, rfl, ls, _, rfl, SqL.of hls5, fun l6 n6 => ?_⟩
        try dsimp only
        rw [ec6]
        have s6 := same_new (o := .lst ((S.drop ah).map vN)) n6
        have h6 : (upd H5 l6 (.lst ((S.drop ah).map vN))) l6 = some (.lst ((S.drop ah).map vN)) := upd_same
        have h56 := s6 _ _ h5
        have n56 : l5 ≠ l6 := ne_of_none h5 n6
        generalize upd H5 l6 (.lst ((S.drop ah).map vN)) = H6 at *
        refine ⟨(by show 2 ≤ sizeLine; decide), fun t nt => ?_⟩
        have st := same_new (o := .tup [.ref l5, .ref l6]) nt
        exact q t l5 l6 (S.take ah) (S.drop ah) _ (((s04.trans s5).trans s6).trans st) (none_of s04 n5) (none_of (s04.trans s5) n6) n56 upd_same (st _ _ h56) (st _ _ h6) (fun b hb' => hb b (List.mem_of_mem_take hb')) (fun b hb' => hb b (List.mem_of_mem_drop hb')) (by rw [List.length_take]; omega) (by rw [List.length_drop]; omega)
      clear g2
      refine ⟨_, rfl, _, _, rfl, rfl, _, rfl, ite2 (fun _ => ?_) (fun _ => J z0 hz0)⟩
      refine ⟨_, rfl, _, _, rfl, rfl, (by show (0 : Int) < 6; decide), ?_⟩
      have e7 : ((z0 : Nat) : Int) % 6 = ((z0 % 6 : Nat) : Int) := by omega
      try dsimp only
      rw [e7]
      exact J (z0 % 6) (by omega)
    clear g1
    refine ⟨_, rfl, _, _, rfl, rfl, ⟨by decide, by decide⟩, _, _, rfl, rfl, (by show (0 : Int) < 8; decide), rfl, _, rfl, ite2 (fun _ => ?_) (fun _ => iteF JB)⟩
    refine ⟨_, rfl, _, _, rfl, rfl, ⟨by decide, by decide⟩, _, _, rfl, rfl, (by show (0 : Int) < 2; decide), rfl, _, rfl, ite2 (fun _ => ?_) (fun _ => JB)⟩
    clear JB
    -- a window of unlike signs
    refine seq_g fun R2 g2 => ?_
    refine ⟨255, rfl, by decide, by decide, fun l hl => ?_⟩
    refine compC_rng (g := gName 0) (te := teB) (lo := 0) (l := l) (k := 255)
      (fun i ys σ H2 => ∃ (R : List Nat) (v0 : Option V), ys = R.map vN ∧ R.length = i ∧ (∀ b ∈ R, b < 256) ∧ σ = [v0, some (vN m)] ∧ H2 l = some (.lst ys) ∧ Same H1 H2)
      ⟨[], none, rfl, rfl, (fun _ h => nomatch h), rfl, upd_same, same_new hl⟩ ?_ ?_ ?_ ?_
    · clear g2
      rintro i ys σ H2 hi ⟨R, v0, rfl, hRl, hRb, rfl, hl2, sm⟩
      have e : ((101 : Int) * ((0 : Int) + ((i : Nat) : Int)) + ((m : Nat) : Int)) % 256 = (((101 * i + m) % 256 : Nat) : Int) := by omega
      refine ⟨_, rfl, _, _, rfl, rfl, .inl ⟨by decide, by decide⟩, _, rfl, _, _, rfl, rfl, _, _, rfl, rfl, (by show (0 : Int) < 256; decide), ?_⟩
      try dsimp only
      rw [e]
      refine ⟨hl2, sl2000' (by rw [List.length_map]; omega), R ++ [(101 * i + m) % 256], _, by rw [List.map_append]; rfl, by rw [List.length_append, hRl]; rfl, fun b hb => ?_, rfl, upd_same, fun b o e => ?_⟩
      · rcases List.mem_append.mp hb with z | z
        · exact hRb b z
        · rw [List.mem_singleton.mp z]; exact Nat.mod_lt _ (by decide)
      · rw [upd_ne (ne_of_none e hl)]; exact sm _ _ e
    rotate_left
    · exact fun x σ H A B h z => h _ _ z
    · exact fun σ H A B h ⟨v, h1, i, j, h2, h3, h4, v2, h5, i2, j2, h6, h7, i3, j3, h8, h9, h10, h11⟩ => ⟨v, h1, i, j, h2, h3, h4, v2, h5, i2, j2, h6, h7, i3, j3, h8, h9, h10, h _ _ h11⟩
    · rintro ys σ H2 ⟨R, v0, rfl, hRl, hRb, rfl, hl2, sm⟩
      refine g2 _ _ ?_
      clear g2
      have e8 : ((101 : Int) * 255 + ((m : Nat) : Int)) % 256 = (((25755 + m) % 256 : Nat) : Int) := by omega
      have e9 : ((m : Nat) : Int) / 58 % 7 = ((m / 58 % 7 : Nat) : Int) := by omega
      refine seq_g fun R3 g3 => ?_
      refine ⟨_, _, rfl, rfl, .inl ⟨by decide, by decide⟩, _, rfl, _, _, rfl, rfl, _, _, rfl, rfl, (by show (0 : Int) < 256; decide), (by show 1 ≤ sizeLine; decide), fun l3 n3 => ?_⟩
      try dsimp only
      rw [e8]
      have s3 := same_new (o := .lst [V.int (((25755 + m) % 256 : Nat) : Int)]) n3
      have h33 : (upd H2 l3 (.lst [V.int (((25755 + m) % 256 : Nat) : Int)])) l3 = some (.lst [V.int (((25755 + m) % 256 : Nat) : Int)]) := upd_same
      refine ⟨_, rfl, _, _, rfl, rfl, ⟨by decide, by decide⟩, _, _, rfl, rfl, (by show (0 : Int) < 7; decide), ?_⟩
      try dsimp only
      rw [e9]
      have h7 : m / 58 % 7 < 7 := by omega
      generalize m / 58 % 7 = bt at *
      have hb8 : (25755 + m) % 256 < 256 := Nat.mod_lt _ (by decide)
      generalize (25755 + m) % 256 = sg at *
      generalize upd H2 l3 (.lst [V.int ((sg : Nat) : Int)]) = H3 at *
      refine ⟨l3, _, _, rfl, rfl, h33, by omega, by omega, sl2000 (by rw [Int.toNat_natCast]; show 1 * bt ≤ 2000; omega), fun l4 n4 => g3 _ _ ?_⟩
      clear g3
      have ef : (List.replicate ((bt : Nat) : Int).toNat [V.int ((sg : Nat) : Int)]).flatten = (List.replicate bt sg).map vN := by rw [Int.toNat_natCast]; exact flat_one bt sg
      try dsimp only
      rw [ef]
      have s4 := same_new (o := .lst ((List.replicate bt sg).map vN)) n4
      have h44 : (upd H3 l4 (.lst ((List.replicate bt sg).map vN))) l4 = some (.lst ((List.replicate bt sg).map vN)) := upd_same
      have hl4 := s4 _ _ (s3 _ _ hl2)
      have s14 := (sm.trans s3).trans s4
      generalize upd H3 l4 (.lst ((List.replicate bt sg).map vN)) = H4 at *
      refine ⟨_, rfl, _, rfl, _, rfl, _, rfl, _, _, rfl, rfl, ⟨by decide, by decide⟩, _, _, rfl, rfl, (by show (0 : Int) < 13; decide), _, _, rfl, rfl, _, rfl, l, _, rfl, SqL.of hl4, fun l5 n5 => ?_⟩
      have e10 : (8 : Int) + ((m : Nat) : Int) / 406 % 13 = ((8 + m / 406 % 13 : Nat) : Int) := by omega
      have ec : cutV (R.map vN) none (some ((8 : Int) + ((m : Nat) : Int) / 406 % 13)) = (R.take (8 + m / 406 % 13)).map vN := by rw [e10, take_cut, ← List.map_take]
      try dsimp only
      rw [ec]
      have h20 : 8 + m / 406 % 13 ≤ 20 := by omega
      generalize 8 + m / 406 % 13 = tk at *
      have s5 := same_new (o := .lst ((R.take tk).map vN)) n5
      have h55 : (upd H4 l5 (.lst ((R.take tk).map vN))) l5 = some (.lst ((R.take tk).map vN)) := upd_same
      have h45 := s5 _ _ h44
      have hl5 := s5 _ _ hl4
      generalize upd H4 l5 (.lst ((R.take tk).map vN)) = H5 at *
      refine ⟨l4, l5, _, _, rfl, rfl, h45, h55, sl2000 (by rw [List.length_map, List.length_map, List.length_replicate, List.length_take]; omega), fun l6 n6 => ?_⟩
      try dsimp only
      rw [← List.map_append]
      have s6 := same_new (o := .lst ((List.replicate bt sg ++ R.take tk).map vN)) n6
      have h66 : (upd H5 l6 (.lst ((List.replicate bt sg ++ R.take tk).map vN))) l6 = some (.lst ((List.replicate bt sg ++ R.take tk).map vN)) := upd_same
      have hl6 := s6 _ _ hl5
      have nl6 : l ≠ l6 := ne_of_none hl5 n6
      have s06 := ((s1.trans s14).trans s5).trans s6
      generalize upd H5 l6 (.lst ((List.replicate bt sg ++ R.take tk).map vN)) = H6 at *
      refine ⟨(by show 2 ≤ sizeLine; decide), fun t nt => ?_⟩
      have st := same_new (o := .tup [.ref l, .ref l6]) nt
      refine q t l l6 R (List.replicate bt sg ++ R.take tk) _ (s06.trans st) (none_of s1 hl) (none_of ((s1.trans s14).trans s5) n6) nl6 upd_same (st _ _ hl6) (st _ _ h66) hRb (fun b hb => ?_) (by omega) (by rw [List.length_append, List.length_replicate, List.length_take]; omega)
      rcases List.mem_append.mp hb with h | h
      · rw [(List.mem_replicate.mp h).2]; exact hb8
      · exact hRb b (List.mem_of_mem_take h)
end
end K14

set_option Elab.async false
set_option linter.all false
set_option maxRecDepth 100000
set_option maxHeartbeats 4000000
namespace K14
open PySem L2 QQ W16
seal PE PA PS PSs PT PW PG PI
theorem ref_get {ts : List Addr} {i : Nat} {y : V} (h : (ts.map V.ref)[i]? = some y) : ∃ t, ts[i]? = some t ∧ y = .ref t := by
  rw [List.getElem?_map] at h
  cases e : ts[i]? with
  | none => rw [e] at h; cases h
  | some z => rw [e] at h; exact ⟨z, rfl, (Option.some.inj h).symm⟩
theorem itm_flat (x : Pc) : (itm x).all flatV = true := by cases x <;> rfl
theorem itm_str (x : Pc) : ∃ s, (itm x)[0]? = some (.str s) := by cases x <;> exact ⟨_, rfl⟩
theorem itm_len (x : Pc) : 1 ≤ (itm x).length := by cases x <;> (show 1 ≤ _ + 1; omega)
theorem itm_int (x : Pc) {i : Nat} {v : V} (h : ((itm x).drop 1)[i]? = some v) : ∃ k : Int, v = .int k := by
  cases x with
  | sg s =>
    match i, h with
    | 0, h => cases h; exact ⟨_, rfl⟩
    | i + 1, h => cases h
  | cp b z =>
    match i, h with
    | 0, h => cases h; exact ⟨_, rfl⟩
    | 1, h => cases h; exact ⟨_, rfl⟩
    | i + 2, h => cases h
section
variable {P : Program} {w : World} {K : PySem.W.Frag} {mg : Str → Option Value} {base : Heap}
/-! ### _law_same -/
def spSame : Sp := fun vs H Q _ => ∃ (lf ld : Addr) (Pp : List Pc), vs = [.ref lf, .ref ld] ∧ PL H lf Pp ∧ PL H ld Pp ∧ ∀ H', Same H H' → Q (.bl true) H'
abbrev nSame : List Str := ["_law_found", "_law_due", "_law_one", "_law_other", "_law_part"]
theorem scSame : FnScope nSame ["_law_found", "_law_due"] (defScope sSame) := ⟨rfl, rfl, rfl, by decide +kernel, rfl, by decide +kernel, by decide +kernel⟩
theorem ok_same {f : Addr} {fd : FuncData} (F : Fn K mg "_law_same" sSame ["_law_found", "_law_due"] f fd) (T : Txt K mg) : FnOk P w K mg base CX0 2 f fd ["_law_found", "_law_due"] spSame := by
  refine F.F.ok scSame (fun vs H Q E h => ?_) (fun cdv A outer st H vs Q E hr h => ?_)
  · obtain ⟨lf, ld, Pp, rfl, _⟩ := h
    rfl
  · obtain ⟨lf, ld, Pp, rfl, ⟨ts, hlf, hts⟩, ⟨us, hld, hus⟩, k⟩ := h
    have hu := hr.units
    refine ⟨_, pss_cons (ps_if (PW.pt (pw_or (pt_not (pt_val (pe_callB call_isi (by rfl) T.isi PyProof.Rows.boot_isinstance (pa_cons (pv 0) (pa_cons (pe_bltn (v := .ty "list") (by rfl) T.list PyProof.Rows.boot_list rfl) pa_nil)))))
        (pw_or1 (pt_cmpR op_ne (pe_callB call_len_seq (by rfl) T.len PySem.boot_len (pa_cons (pv 0) pa_nil)) (pe_callB call_len_seq (by rfl) T.len PySem.boot_len (pa_cons (pv 1) pa_nil)) (nomark _))))) (pss_one (ps_ret pe_bl)) pss_nil)
      (pss_cons (ps_for PassesOwn.never rfl (pi_zip (by rfl) T.zip (pa_cons (pv 0) (pa_cons (pv 1) pa_nil))) (pg_tup rfl (pgs_cons (pg_name (i := 2) scSame.nd rfl (Or.inl rfl)) (pgs_cons (pg_name (i := 3) scSame.nd rfl (Or.inl rfl)) pgs_nil)))
        (pss_cons (ps_if (PW.pt (pw_or (pt_not (pt_val (pe_callB call_isi (by rfl) T.isi PyProof.Rows.boot_isinstance (pa_cons (pv 2) (pa_cons (pe_bltn (v := .ty "tuple") (by rfl) T.tuple PyProof.Rows.boot_tuple rfl) pa_nil)))))
          (pw_or (pt_cmpR (op_neTT hu) (pv 2) (pv 3) (nomark _))
          (pw_or1 (pt_not (pt_val (pe_callB call_isi (by rfl) T.isi PyProof.Rows.boot_isinstance (pa_cons (pe_ix ix_tup (pv 2) pe_int (fun _ _ => rfl)) (pa_cons (pe_bltn (v := .ty "str") (by rfl) T.str PyProof.Rows.boot_str rfl) pa_nil))))))))) (pss_one (ps_ret pe_bl)) pss_nil)
        (pss_one (ps_for PassesOwn.never rfl (pi_tup (pe_slice (sl_tupF (K := K) rfl) (pv 2) (po_some pe_int) po_none)) (pg_name (i := 4) scSame.nd rfl (Or.inl rfl))
          (pss_one (ps_if (PW.pt (pw_or (pt_not (pt_val (pe_callB call_isi (by rfl) T.isi PyProof.Rows.boot_isinstance (pa_cons (pv 4) (pa_cons (pe_bltn (v := .ty "int") (by rfl) T.int PyProof.Rows.boot_int rfl) pa_nil)))))
            (pw_or1 (pt_val (pe_callB call_isi (by rfl) T.isi PyProof.Rows.boot_isinstance (pa_cons (pv 4) (pa_cons (pe_bltn (v := .ty "bool") (by rfl) T.bool PyProof.Rows.boot_bool rfl) pa_nil))))))) (pss_one (ps_ret pe_bl)) pss_nil))))))
      (pss_one (ps_ret pe_bl))), ?_⟩
    have hlen : ts.length = us.length := hts.1.trans hus.1.symm
    refine seq_g fun R1 g1 => ?_
    refine ⟨_, rfl, _, _, _, _, rfl, .lst hlf, kit_ll K, _, rfl, iteF ?_⟩
    refine ⟨_, rfl, lf, _, rfl, .inl (SqL.of hlf), _, rfl, ld, _, rfl, .inl (SqL.of hld), rfl, _, rfl, iteNS (by rw [List.length_map, List.length_map, hlen]) (g1 _ _ ?_)⟩
    clear g1
    refine seq_g fun R1 g1 => ?_
    refine ⟨_, rfl, _, rfl, lf, ld, _, _, rfl, SqL.of hlf, SqL.of hld, for_zip (D := ⟨_, _, fun _ _ => False, fun _ _ => False⟩) (K := K) (a := lf) (b := ld) (xs := ts.map V.ref) (ys := us.map V.ref) (fun i σ H2 => ∃ v2 v3 v4 : Option V, σ = [some (.ref lf), some (.ref ld), v2, v3, v4] ∧ Same H H2) (by rw [List.length_map, List.length_map, hlen])
      ⟨none, none, none, rfl, Same.refl _⟩ (fun i σ H2 _ ⟨_, _, _, _, sm⟩ => ⟨SqL.of (sm _ _ hlf), SqL.of (sm _ _ hld)⟩) ?_ ?_⟩
    · clear g1
      rintro i x y p σ H2 hx hy hp ⟨v2, v3, v4, rfl, sm⟩
      obtain ⟨t, ht, rfl⟩ := ref_get hx
      obtain ⟨u, hu', rfl⟩ := ref_get hy
      have hiP : i < Pp.length := by rw [← hts.1]; exact (List.getElem?_eq_some_iff.mp ht).1
      have hPi : Pp[i]? = some Pp[i] := List.getElem?_eq_getElem hiP
      have sp := same_new (o := .tup [V.ref t, V.ref u]) hp
      have htt := sp _ _ (sm _ _ (hts.2 i t Pp[i] ht hPi))
      have huu := sp _ _ (sm _ _ (hus.2 i u Pp[i] hu' hPi))
      refine ⟨p, _, rfl, SqT.of upd_same, rfl, _, _, rfl, _, _, rfl, rfl, ?_⟩
      have sm3 := sm.trans sp
      generalize upd H2 p (.tup [V.ref t, V.ref u]) = H3 at *
      generalize Pp[i] = xx at *
      obtain ⟨s0, hs0⟩ := itm_str xx
      refine seq_g fun R2 g2 => ?_
      refine ⟨_, rfl, _, _, _, _, rfl, .tup htt, kit_tt K, _, rfl, iteF ?_⟩
      refine ⟨_, rfl, _, rfl, t, u, _, rfl, rfl, SqT.of htt, SqT.of huu, itm_flat xx, _, rfl, iteF ?_⟩
      refine ⟨_, rfl, t, _, _, _, rfl, rfl, SqT.of htt, atI_nat (j := 0) hs0, _, _, _, _, rfl, .str _, kit_ss K, _, rfl, iteF (g2 _ _ ?_)⟩
      clear g2
      refine ⟨_, rfl, _, rfl, t, _, 1, rfl, rfl, rfl, SqT.of htt, by decide, itm_len xx, fun q nq => ?_⟩
      have sq := same_new (o := .tup ((itm xx).drop 1)) nq
      have hqq : (upd H3 q (.tup ((itm xx).drop 1))) q = some (.tup ((itm xx).drop 1)) := upd_same
      have sm4 := sm3.trans sq
      generalize upd H3 q (.tup ((itm xx).drop 1)) = H4 at *
      refine ⟨q, rfl, ⟨_, SqT.of hqq⟩, for_tup (D := ⟨_, _, fun _ _ => False, fun _ _ => False⟩) (K := K) (a := q) (xs := (itm xx).drop 1) (fun j σ H5 => ∃ v4 : Option V, σ = [some (.ref lf), some (.ref ld), some (.ref t), some (.ref u), v4] ∧ H5 = H4) ⟨v4, rfl, rfl⟩ (fun j σ H5 _ ⟨_, _, e⟩ => by rw [e]; exact SqT.of hqq) ?_ ?_⟩
      · rintro j v σ H5 hv ⟨v4, rfl, rfl⟩
        obtain ⟨n, rfl⟩ := itm_int xx hv
        refine ⟨_, rfl, _, _, _, _, rfl, .int _, kit_ii K, _, rfl, iteF ?_⟩
        exact ⟨_, rfl, _, _, _, _, rfl, .int _, kit_ib K, _, rfl, iteF ⟨_, rfl, rfl⟩⟩
      · rintro σ H5 ⟨v4, rfl, rfl⟩
        exact ⟨_, _, _, rfl, sm4⟩
    · rintro σ H2 ⟨v2, v3, v4, rfl, sm⟩
      exact g1 _ _ (k _ sm)
/-! ### _law_size -/
def spSize : Sp := fun vs H Q _ => ∃ (a : Addr) (S : List Nat) (p b : Nat), vs = [.ref a, vN p, vN b] ∧ H a = some (.lst (S.map vN)) ∧ b ≤ p ∧ p < S.length ∧ Q (vN (al S p b (most S p))) H
abbrev nSize : List Str := ["_law_signs_here", "_law_place", "_law_back", "_law_most", "_law_size_here", "_law_at"]
theorem scSize : FnScope nSize ["_law_signs_here", "_law_place", "_law_back"] (defScope sSize) := ⟨rfl, rfl, rfl, by decide +kernel, rfl, by decide +kernel, by decide +kernel⟩
theorem ok_size {f : Addr} {fd : FuncData} (F : Fn K mg "_law_size" sSize ["_law_signs_here", "_law_place", "_law_back"] f fd) (T : Txt K mg) : FnOk P w K mg base CX0 31 f fd ["_law_signs_here", "_law_place", "_law_back"] spSize := by
  refine F.F.ok scSize (fun vs H Q E h => ?_) (fun cdv A outer st H vs Q E hr h => ?_)
  · obtain ⟨a, S, p, b, rfl, _⟩ := h
    rfl
  · obtain ⟨a, S, p, b, rfl, hS, hb, hp, k⟩ := h
    have hn := hr.hd (by decide)
    refine ⟨_, pss_cons (ps_set (i := 3) scSize.nd rfl (Or.inl rfl) (pe_callB (call_min2 hn) (by rfl) T.min PyProof.Rows.boot_min (pa_cons pe_int (pa_cons (pe_op op_sub (pe_callB call_len_seq (by rfl) T.len PySem.boot_len (pa_cons (pv 0) pa_nil)) (pv 1)) pa_nil))))
      (pss_cons (ps_set (i := 4) scSize.nd rfl (Or.inl rfl) pe_int)
      (pss_cons (ps_while PassesOwn.never (pt_cmpR op_lt (pv 4) (pv 3) (nomark _))
        (pss_cons (ps_set (i := 5) scSize.nd rfl (Or.inl rfl) (pe_op op_add (pv 1) (pv 4)))
        (pss_cons (ps_if (pt_cmpR op_ne (pe_ix ix_list (pv 0) (pe_op op_sub (pv 5) (pv 2)) (fun _ _ => rfl)) (pe_ix ix_list (pv 0) (pv 5) (fun _ _ => rfl)) (nomark _)) (pss_one ps_break) pss_nil)
        (pss_one (ps_aug (i := 4) scSize.nd rfl (Or.inl rfl) pe_int ip_add)))))
      (pss_one (ps_ret (pv 4))))), ?_⟩
    refine seq_g fun R1 g1 => ?_
    refine ⟨_, rfl, a, _, rfl, .inl (SqL.of hS), _, rfl, _, _, rfl, rfl, _, _, rfl, g1 _ _ ?_⟩
    clear g1
    have em : (if ((S.map vN).length : Int) - ((p : Nat) : Int) < 18 then ((S.map vN).length : Int) - ((p : Nat) : Int) else 18) = ((most S p : Nat) : Int) := by
      rw [List.length_map]
      unfold most
      split <;> omega
    try dsimp only
    rw [em]
    have hm2 : most S p ≤ 18 ∧ p + most S p ≤ S.length := by unfold most; omega
    generalize most S p = m at *
    refine seq_g fun R1 g1 => g1 _ _ ?_
    clear g1
    refine seq_g fun R1 g1 => ?_
    refine ⟨fun n σ H2 => ∃ (i : Nat) (v5 : Option V), n = m - i ∧ σ = [some (.ref a), some (vN p), some (vN b), some (vN m), some (vN i), v5] ∧ H2 = H ∧ i ≤ m ∧ ∀ j < i, S[p + j]? = S[p + j - b]?, ⟨m, 0, none, rfl, rfl, rfl, Nat.zero_le _, fun j hj => absurd hj (Nat.not_lt_zero _)⟩, ?_⟩
    rintro n σ H2 ⟨i, v5, rfl, rfl, rfl, hi, hall⟩
    refine ⟨_, rfl, _, rfl, _, _, rfl, rfl, _, rfl, ite2 (fun h1 => ?_) (fun h1 => ?_)⟩
    · have h2 : i < m := by have := of_decide_eq_true h1; omega
      have e1 : ((p : Nat) : Int) + ((i : Nat) : Int) = ((p + i : Nat) : Int) := by omega
      have e2 : ((p + i : Nat) : Int) - ((b : Nat) : Int) = ((p + i - b : Nat) : Int) := by omega
      have l1 : p + i < S.length := by omega
      have l2 : p + i - b < S.length := by omega
      refine ⟨fun σ' H' => ∃ v5 : Option V, σ' = [some (.ref a), some (vN p), some (vN b), some (vN m), some (vN (i + 1)), v5] ∧ H' = H2 ∧ S[p + i]? = S[p + i - b]?, fun σ' H' ⟨v5, z1, z2, z3⟩ => ⟨m - (i + 1), by omega, i + 1, v5, rfl, z1, z2, by omega, fun j hj => ?_⟩, ?_⟩
      · by_cases e : j = i
        · subst e; exact z3
        · exact hall j (by omega)
      refine seq_g fun R2 g2 => ?_
      refine ⟨_, rfl, _, rfl, _, _, rfl, rfl, g2 _ _ ?_⟩
      clear g2
      try dsimp only
      rw [e1]
      refine seq_g fun R2 g2 => ?_
      refine ⟨_, rfl, _, rfl, _, rfl, _, _, rfl, rfl, ?_⟩
      try dsimp only
      rw [e2]
      refine ⟨a, _, _, _, rfl, rfl, SqL.of hS, atI_nat (get_vN l2), ?_⟩
      refine ⟨_, rfl, _, rfl, a, _, _, _, rfl, rfl, SqL.of hS, atI_nat (get_vN l1), rfl, _, rfl, ?_⟩
      by_cases hx : S[p + i - b] = S[p + i]
      · refine iteNS (vN_inj.mpr hx) (g2 _ _ ?_)
        exact ⟨_, rfl, _, _, rfl, rfl, _, rfl, rfl, by rw [List.getElem?_eq_getElem l1, List.getElem?_eq_getElem l2, hx]⟩
      · have hd : decide (vN S[p + i - b] = vN S[p + i]) = false := decide_eq_false fun z => hx (vN_inj.mp z)
        rw [hd]
        refine iteT (g1 _ _ ⟨_, rfl, ?_⟩)
        have h4 : S[p + i]? ≠ S[p + i - b]? := by
          rw [List.getElem?_eq_getElem l1, List.getElem?_eq_getElem l2]
          intro z
          exact hx (Option.some.inj z).symm
        rw [al_end hall h4 m (by omega)] at k
        exact k
    · refine g1 _ _ ⟨_, rfl, ?_⟩
      have h2 : i = m := by
        have h1' : ¬ (decide ((i : Int) < (m : Int)) = true) := h1
        have : ¬ ((i : Int) < (m : Int)) := fun z => h1' (decide_eq_true z)
        omega
      subst h2
      rw [al_of hall] at k
      exact k
/-! ### _law_pieces -/
def spLPieces : Sp := fun vs H Q _ => ∃ (lw lt : Addr) (W T : List Nat), vs = [.ref lw, .ref lt] ∧ H lw = some (.lst (W.map vN)) ∧ H lt = some (.lst (T.map vN)) ∧ W.length ≤ 255 ∧ T.length ≤ 500 ∧
  ∀ l Pp H', Same H H' → H l = none → PL H' l Pp → Walk (W ++ T) W.length Pp (W ++ T).length → Q (.ref l) H'
abbrev nLPieces : List Str := ["_law_before", "_law_text", "_law_signs_here", "_law_found", "_law_place", "_law_best", "_law_back", "_law_size_here"]
theorem scLPieces : FnScope nLPieces ["_law_before", "_law_text"] (defScope sLPieces) := ⟨rfl, rfl, rfl, by decide +kernel, rfl, by decide +kernel, by decide +kernel⟩
theorem ok_lpieces {f fS : Addr} {fd fdS : FuncData} (F : Fn K mg "_law_pieces" sLPieces ["_law_before", "_law_text"] f fd) (Sz : Fn K mg "_law_size" sSize ["_law_signs_here", "_law_place", "_law_back"] fS fdS) (T : Txt K mg) : FnOk P w K mg base CX0 32 f fd ["_law_before", "_law_text"] spLPieces := by
  have GZ := ok_size (P := P) (w := w) (base := base) Sz T
  refine F.F.ok scLPieces (fun vs H Q E h => ?_) (fun cdv A outer st H vs Q E hr h => ?_)
  · obtain ⟨lw, lt, W, T, rfl, _⟩ := h
    rfl
  · obtain ⟨lw, lt, W, Tx, rfl, hw0, ht0, hW, hT, k⟩ := h
    have hn := hr.hd (by decide)
    refine ⟨_, pss_cons (ps_set (i := 2) scLPieces.nd rfl (Or.inl rfl) (pe_op op_cat (pv 0) (pv 1)))
      (pss_cons (ps_set (i := 3) scLPieces.nd rfl (Or.inl rfl) (pe_lst pa_nil))
      (pss_cons (ps_set (i := 4) scLPieces.nd rfl (Or.inl rfl) (pe_callB call_len_seq (by rfl) T.len PySem.boot_len (pa_cons (pv 0) pa_nil)))
      (pss_cons (ps_while PassesOwn.never (pt_cmpR op_lt (pv 4) (pe_callB call_len_seq (by rfl) T.len PySem.boot_len (pa_cons (pv 2) pa_nil)) (nomark _))
        (pss_cons (ps_set (i := 5) scLPieces.nd rfl (Or.inl rfl) (pe_tup (pa_cons pe_int (pa_cons pe_int pa_nil))))
        (pss_cons (ps_for PassesOwn.never rfl (pi_range2 (by rfl) T.range (pa_cons pe_int (pa_cons (pe_op op_add (pe_callB (call_min2 hn) (by rfl) T.min PyProof.Rows.boot_min (pa_cons pe_int (pa_cons (pv 4) pa_nil))) pe_int) pa_nil))) (pg_name (i := 6) scLPieces.nd rfl (Or.inl rfl))
          (pss_one (ps_if (pt_cmpR op_eq (pe_ix ix_list (pv 2) (pe_op op_sub (pv 4) (pv 6)) (fun _ _ => rfl)) (pe_ix ix_list (pv 2) (pv 4) (fun _ _ => rfl)) (nomark _))
            (pss_cons (ps_set (i := 7) scLPieces.nd rfl (Or.inl rfl) (pe_call GZ hr (by rfl) Sz.m Sz.F.kp Sz.b .nil pass0 (pa_cons (pv 2) (pa_cons (pv 4) (pa_cons (pv 6) pa_nil)))))
            (pss_one (ps_if (pt_cmpR op_gt (pv 7) (pe_ix ix_tup (pv 5) pe_int (fun _ _ => rfl)) (nomark _)) (pss_one (ps_set (i := 5) scLPieces.nd rfl (Or.inl rfl) (pe_tup (pa_cons (pv 6) (pa_cons (pv 7) pa_nil))))) pss_nil))) pss_nil)))
        (pss_one (ps_if (pt_cmpR op_gt (pe_ix ix_tup (pv 5) pe_int (fun _ _ => rfl)) pe_int (nomark _))
          (pss_cons (ps_expr (pe_bm PySem.F.plainAttrs_list PySem.F.slot_list_append PySem.F.type_list_append mt_append (pv 3) (pa_cons (pe_tup (pa_cons pe_str (pa_cons (pe_ix ix_tup (pv 5) pe_int (fun _ _ => rfl)) (pa_cons (pe_ix ix_tup (pv 5) pe_int (fun _ _ => rfl)) pa_nil)))) pa_nil)))
            (pss_one (ps_aug (i := 4) scLPieces.nd rfl (Or.inl rfl) (pe_ix ix_tup (pv 5) pe_int (fun _ _ => rfl)) ip_add)))
          (pss_cons (ps_expr (pe_bm PySem.F.plainAttrs_list PySem.F.slot_list_append PySem.F.type_list_append mt_append (pv 3) (pa_cons (pe_tup (pa_cons pe_str (pa_cons (pe_ix ix_list (pv 2) (pv 4) (fun _ _ => rfl)) pa_nil))) pa_nil)))
            (pss_one (ps_aug (i := 4) scLPieces.nd rfl (Or.inl rfl) pe_int ip_add)))))))
      )
      (pss_one (ps_ret (pv 3)))))), ?_⟩
    refine seq_g fun R1 g1 => ?_
    refine ⟨_, rfl, _, rfl, lw, lt, _, _, rfl, rfl, hw0, ht0, sl2000 (by rw [List.length_map, List.length_map]; omega), fun l3 n3 => g1 _ _ ?_⟩
    clear g1
    try dsimp only
    rw [← List.map_append]
    have s3 := same_new (o := .lst ((W ++ Tx).map vN)) n3
    have hS3 : (upd H l3 (.lst ((W ++ Tx).map vN))) l3 = some (.lst ((W ++ Tx).map vN)) := upd_same
    generalize hS : W ++ Tx = S at *
    have hSl : S.length = W.length + Tx.length := by rw [← hS, List.length_append]
    generalize upd H l3 (.lst (S.map vN)) = H3 at *
    refine seq_g fun R1 g1 => ?_
    refine ⟨by decide, fun l5 n5 => g1 _ _ ?_⟩
    clear g1
    have s5 := same_new (o := .lst []) n5
    have n5' : H l5 = none := none_of s3 n5
    have hS5 := s5 _ _ hS3
    have n35 : l3 ≠ l5 := ne_of_none hS3 n5
    have s05 := s3.trans s5
    refine seq_g fun R1 g1 => ?_
    refine ⟨_, rfl, lw, _, rfl, .inl (SqL.of (s05 _ _ hw0)), g1 _ _ ?_⟩
    clear g1
    try dsimp only
    rw [List.length_map]
    refine seq_g fun R1 g1 => ?_
    refine ⟨fun n σ H2 => ∃ (q : Nat) (Pp : List Pc) (ts : List Addr) (v5 v6 v7 : Option V), n = S.length - q ∧ σ = [some (.ref lw), some (.ref lt), some (.ref l3), some (.ref l5), some (vN q), v5, v6, v7] ∧ q ≤ S.length ∧ Walk S W.length Pp q ∧ H2 l3 = some (.lst (S.map vN)) ∧ H2 l5 = some (.lst (ts.map V.ref)) ∧ PT' H2 ts Pp ∧ Same H H2,
      ⟨S.length - W.length, W.length, [], [], none, none, none, rfl, rfl, by omega, rfl, hS5, upd_same, ⟨rfl, fun i b y h => by simp at h⟩, s05⟩, ?_⟩
    rintro n σ H2 ⟨q, Pp, ts, v5, v6, v7, rfl, rfl, hq, hw, h3, h5, hts, sm⟩
    refine ⟨_, rfl, _, rfl, l3, _, rfl, .inl (SqL.of h3), _, _, rfl, rfl, _, rfl, ite2 (fun hc => ?_) (fun hc => ?_)⟩
    · have hq2 : q < S.length := by have := of_decide_eq_true hc; rw [List.length_map] at this; omega
      clear g1
      refine ⟨fun σ' H' => ∃ (q' : Nat) (Pp : List Pc) (ts : List Addr) (v5 v6 v7 : Option V), q < q' ∧ σ' = [some (.ref lw), some (.ref lt), some (.ref l3), some (.ref l5), some (vN q'), v5, v6, v7] ∧ q' ≤ S.length ∧ Walk S W.length Pp q' ∧ H' l3 = some (.lst (S.map vN)) ∧ H' l5 = some (.lst (ts.map V.ref)) ∧ PT' H' ts Pp ∧ Same H H',
        fun σ' H' ⟨q', Pp, ts, v5, v6, v7, hlt, z1, z2, z⟩ => ⟨S.length - q', by omega, q', Pp, ts, v5, v6, v7, rfl, z1, z2, z⟩, ?_⟩
      have hlen : Pp.length ≤ S.length := by have := walk_len hw; omega
      have hpz := pcAt_size hq2
      have hm1 : 1 ≤ most S q ∧ q + most S q ≤ S.length := by unfold most; omega
      refine seq_g fun R2 g2 => ?_
      refine ⟨(by show 2 ≤ sizeLine; decide), fun t0 nt0 => g2 _ _ ?_⟩
      clear g2
      have st0 := same_new (o := .tup [V.int 0, V.int 0]) nt0
      refine seq_g fun R2 g2 => ?_
      have ef : (if ((q : Nat) : Int) < 255 then ((q : Nat) : Int) else 255) = ((far q : Nat) : Int) := by
        unfold far
        split <;> omega
      refine ⟨_, rfl, _, _, rfl, ?_⟩
      try dsimp only
      rw [ef]
      have hfar : far q ≤ 255 ∧ far q ≤ q := by unfold far; omega
      refine ⟨_, _, rfl, rfl, 1, ((far q : Nat) : Int) + 1, rfl, ⟨by omega, by omega, by omega, by omega⟩, ?_⟩
      have en : (((far q : Nat) : Int) + 1 - 1).toNat = far q := by omega
      try dsimp only
      rw [en]
      refine for_range (D := ⟨_, _, fun _ _ => False, fun _ _ => False⟩) (lo := 1) (n := far q) (fun j σ H4 => ∃ (tb : Addr) (v6 v7 : Option V), σ = [some (.ref lw), some (.ref lt), some (.ref l3), some (.ref l5), some (vN q), some (.ref tb), v6, v7] ∧ H4 tb = some (.tup [vN (lc S q (most S q) j).1, vN (lc S q (most S q) j).2]) ∧ Same H2 H4) ⟨t0, v6, v7, rfl, upd_same, st0⟩ ?_ ?_
      · clear g2
        rintro j σ H4 hj ⟨tb, v6, v7, rfl, htb, s4⟩
        have eb : (1 : Int) + ((j : Nat) : Int) = ((j + 1 : Nat) : Int) := by omega
        try dsimp only
        rw [eb]
        have h34 := s4 _ _ h3
        have e2 : ((q : Nat) : Int) - ((j + 1 : Nat) : Int) = ((q - (j + 1) : Nat) : Int) := by omega
        have l2 : q - (j + 1) < S.length := by omega
        refine ⟨_, rfl, _, rfl, _, rfl, _, _, rfl, rfl, ?_⟩
        try dsimp only
        rw [e2]
        refine ⟨l3, _, _, _, rfl, rfl, SqL.of h34, atI_nat (get_vN l2), ?_⟩
        refine ⟨_, rfl, _, rfl, l3, _, _, _, rfl, rfl, SqL.of h34, atI_nat (get_vN hq2), rfl, _, rfl, ite2 (fun h6 => ?_) (fun h6 => ?_)⟩
        · refine ⟨_, rfl, _, rfl, _, rfl, l3, S, q, j + 1, rfl, h34, by omega, hq2, ?_⟩
          refine ⟨_, rfl, _, rfl, tb, _, _, _, rfl, rfl, SqT.of htb, atI_nat (j := 1) rfl, _, _, rfl, rfl, _, rfl, ite2 (fun h7 => ?_) (fun h7 => ?_)⟩
          · have h8 : (lc S q (most S q) j).2 < al S q (j + 1) (most S q) := by have := of_decide_eq_true h7; omega
            refine ⟨_, rfl, _, rfl, (by show 2 ≤ sizeLine; decide), fun t nt => ⟨t, _, _, rfl, ?_, s4.trans (same_new nt)⟩⟩
            rw [upd_same, lc, if_pos h8]
          · have h8 : ¬ (lc S q (most S q) j).2 < al S q (j + 1) (most S q) := fun z => h7 (decide_eq_true (by omega))
            refine ⟨tb, _, _, rfl, ?_, s4⟩
            rw [lc, if_neg h8]
            exact htb
        · have h8 : al S q (j + 1) (most S q) = 0 := by
            refine al_end (r := 0) (fun i hi => absurd hi (Nat.not_lt_zero _)) ?_ _ (Nat.zero_le _)
            rw [Nat.add_zero, List.getElem?_eq_getElem hq2, List.getElem?_eq_getElem l2]
            intro z
            exact h6 (decide_eq_true (vN_inj.mpr (Option.some.inj z).symm))
          refine ⟨tb, _, _, rfl, ?_, s4⟩
          rw [lc, if_neg (by omega)]
          exact htb
      · rintro σ H4 ⟨tb, v6, v7, rfl, htb, s4⟩
        refine g2 _ _ ?_
        clear g2
        change H4 tb = some (.tup [vN (lcAt S q).1, vN (lcAt S q).2]) at htb
        have h3t := s4 _ _ h3
        have h5t := s4 _ _ h5
        have htst := hts.keep (H' := H4) fun _ _ z => s4 _ _ z
        have smt := sm.trans s4
        have hap : ∀ (H5 : Hp) (u : Addr), H5 l5 = some (.lst (ts.map V.ref)) → H5 l3 = some (.lst (S.map vN)) → PT' H5 ts Pp → Same H H5 → H5 u = some (.tup (itm (pcAt S q))) →
            (upd H5 l5 (.lst (ts.map V.ref ++ [.ref u]))) l3 = some (.lst (S.map vN)) ∧ (upd H5 l5 (.lst (ts.map V.ref ++ [.ref u]))) l5 = some (.lst ((ts ++ [u]).map V.ref)) ∧ PT' (upd H5 l5 (.lst (ts.map V.ref ++ [.ref u]))) (ts ++ [u]) (Pp ++ [pcAt S q]) ∧ Same H (upd H5 l5 (.lst (ts.map V.ref ++ [.ref u]))) := by
          intro H5 u a5 a3 at' as au
          have kt : ∀ b xs, H5 b = some (.tup xs) → (upd H5 l5 (.lst (ts.map V.ref ++ [.ref u]))) b = some (.tup xs) := fun b xs z => by
            rw [upd_ne (ne_of z a5 (by intro y; cases y))]; exact z
          refine ⟨by rw [upd_ne n35]; exact a3, by rw [upd_same, List.map_append]; rfl, (at'.keep kt).snoc (kt _ _ au), fun b o z => ?_⟩
          rw [upd_ne (ne_of_none z n5')]
          exact as _ _ z
        refine ⟨_, rfl, tb, _, _, _, rfl, rfl, SqT.of htb, atI_nat (j := 1) rfl, _, _, rfl, rfl, _, rfl, ite2 (fun h6 => ?_) (fun h6 => ?_)⟩
        · have h7 : 3 ≤ (lcAt S q).2 := by have := of_decide_eq_true h6; omega
          have epc : pcAt S q = .cp (lcAt S q).1 (lcAt S q).2 := by unfold pcAt; rw [if_pos h7]
          refine ⟨_, rfl, .inl ⟨rfl, _, SqL.of h5t⟩, _, rfl, tb, _, _, _, rfl, rfl, SqT.of htb, atI_nat (j := 0) rfl, _, rfl, tb, _, _, _, rfl, rfl, SqT.of htb, atI_nat (j := 1) rfl, (by show 3 ≤ sizeLine; decide), fun u nu => ?_⟩
          have su := same_new (o := .tup [.str (Str.ofString "copy"), vN (lcAt S q).1, vN (lcAt S q).2]) nu
          obtain ⟨b3, b5, bt, bs⟩ := hap (upd H4 u (.tup [.str (Str.ofString "copy"), vN (lcAt S q).1, vN (lcAt S q).2])) u (su _ _ h5t) (su _ _ h3t) (htst.keep fun _ _ z => su _ _ z) (smt.trans su) (by rw [epc]; exact upd_same)
          have htb2 : (upd (upd H4 u (.tup [.str (Str.ofString "copy"), vN (lcAt S q).1, vN (lcAt S q).2])) l5 (.lst (ts.map V.ref ++ [.ref u]))) tb = some (.tup [vN (lcAt S q).1, vN (lcAt S q).2]) := by
            have := su _ _ htb
            rw [upd_ne (ne_of this (su _ _ h5t) (by intro y; cases y))]; exact this
          refine ⟨l5, _, _, rfl, rfl, su _ _ h5t, sl2000' (by rw [List.length_map, hts.1]; omega), ?_⟩
          refine ⟨_, rfl, _, rfl, tb, _, _, _, rfl, rfl, SqT.of htb2, atI_nat (j := 1) rfl, _, _, rfl, rfl, ?_⟩
          rw [epc] at bt hpz
          have hw2 := walk_snoc hw hq2
          rw [epc] at hw2
          have hz : (Pc.cp (lcAt S q).1 (lcAt S q).2).size = (lcAt S q).2 := rfl
          rw [hz] at hw2 hpz
          refine ⟨q + (lcAt S q).2, _, _, some (.ref tb), v6, v7, by omega, ?_, hpz.2, hw2, b3, b5, bt, bs⟩
          have e2 : ((q : Nat) : Int) + (((lcAt S q).2 : Nat) : Int) = ((q + (lcAt S q).2 : Nat) : Int) := by omega
          try dsimp only
          rw [e2]
          rfl
        · have h7 : ¬ 3 ≤ (lcAt S q).2 := fun z => h6 (decide_eq_true (by omega))
          have epc : pcAt S q = .sg S[q] := by unfold pcAt; rw [if_neg h7]; simp [List.getD, hq2]
          refine ⟨_, rfl, .inl ⟨rfl, _, SqL.of h5t⟩, _, rfl, _, rfl, l3, _, _, _, rfl, rfl, SqL.of h3t, atI_nat (get_vN hq2), (by show 2 ≤ sizeLine; decide), fun u nu => ?_⟩
          have su := same_new (o := .tup [.str (Str.ofString "sign"), vN S[q]]) nu
          obtain ⟨b3, b5, bt, bs⟩ := hap (upd H4 u (.tup [.str (Str.ofString "sign"), vN S[q]])) u (su _ _ h5t) (su _ _ h3t) (htst.keep fun _ _ z => su _ _ z) (smt.trans su) (by rw [epc]; exact upd_same)
          refine ⟨l5, _, _, rfl, rfl, su _ _ h5t, sl2000' (by rw [List.length_map, hts.1]; omega), ?_⟩
          refine ⟨_, rfl, _, _, rfl, rfl, ?_⟩
          have hw2 := walk_snoc hw hq2
          rw [epc] at bt hw2 hpz
          exact ⟨q + 1, _, _, some (.ref tb), v6, v7, by omega, rfl, hpz.2, hw2, b3, b5, bt, bs⟩
    · have hq2 : q = S.length := by
        have h1 : ¬ (decide (((q : Nat) : Int) < ((S.map vN).length : Int)) = true) := hc
        rw [List.length_map] at h1
        have : ¬ (((q : Nat) : Int) < ((S.length : Nat) : Int)) := fun z => h1 (decide_eq_true z)
        omega
      subst hq2
      refine g1 _ _ ⟨_, rfl, ?_⟩
      exact k l5 Pp H2 sm n5' ⟨ts, h5, hts⟩ hw
end
end K14

set_option Elab.async false
set_option linter.all false
set_option maxRecDepth 100000
set_option maxHeartbeats 4000000
namespace K14
open PySem L2 QQ W16
seal PE PA PS PSs PT PW PG PI
theorem walk_uniq {S : List Nat} : ∀ {Pp Pq : List Pc} {p : Nat}, Walk S p Pp S.length → Walk S p Pq S.length → Pp = Pq
  | [], [], _, _, _ => rfl
  | [], x :: Pq, p, h, h' => by
    have h : p = S.length := h
    have := h'.1
    omega
  | x :: Pp, [], p, h, h' => by
    have h' : p = S.length := h'
    have := h.1
    omega
  | x :: Pp, y :: Pq, p, h, h' => by
    have e : y = x := by rw [h'.2.1, h.2.1]
    have h3 := h'.2.2
    rw [e] at h3 ⊢
    rw [walk_uniq h.2.2 h3]
theorem PL.upd {H : Hp} {l h : Addr} {Pp : List Pc} {xs ys : List V} (hp : PL H l Pp) (hh : H h = some (.lst xs)) (n : l ≠ h) : PL (L2.upd H h (.lst ys)) l Pp := by
  obtain ⟨ts, h1, h2⟩ := hp
  exact ⟨ts, by rw [upd_ne n]; exact h1, h2.keep fun a zs z => by rw [upd_ne (ne_of z hh (by intro y; cases y))]; exact z⟩
theorem PL.some {H : Hp} {l : Addr} {Pp : List Pc} (hp : PL H l Pp) : ∃ xs, H l = some (.lst xs) := by
  obtain ⟨ts, h1, _⟩ := hp
  exact ⟨_, h1⟩
theorem PL.ne {H : Hp} {l m : Addr} {Pp : List Pc} (hp : PL H l Pp) (hn : H m = none) : l ≠ m := by
  obtain ⟨xs, h1⟩ := hp.some
  exact ne_of_none h1 hn
theorem pl_same {K : PySem.W.Frag} {H : Hp} {p q : Addr} {Pp : List Pc} (hp : PL H p Pp) (hq : PL H q Pp) : SameTs K H p q := by
  obtain ⟨ts, h1, h2⟩ := hp
  obtain ⟨us, h3, h4⟩ := hq
  refine ⟨ts, us, SqL.of h1, SqL.of h3, h2.1.trans h4.1.symm, fun i a b ha hb => ?_⟩
  have hi : i < Pp.length := by rw [← h2.1]; exact (List.getElem?_eq_some_iff.mp ha).1
  exact ⟨_, SqT.of (h2.2 i a Pp[i] ha (List.getElem?_eq_getElem hi)), SqT.of (h4.2 i b Pp[i] hb (List.getElem?_eq_getElem hi)), itm_flat _⟩
theorem op_neLTK {X : Cx} {K : PySem.W.Frag} (hK : X.K = K) (hu : X.A.units + 64 < cLine) : OpR X (compareOp .NotEq) (rNeLT K) := by
  subst hK
  exact op_neLT hu
section
variable {P : Program} {w : World} {K : PySem.W.Frag} {mg : Str → Option Value} {base : Heap}
def spLaw (K : PySem.W.Frag) : Sp := fun vs H Q _ => ∃ (a : Addr) (ns : List Int), vs = [.ref a] ∧ SqL K H a (ns.map V.int) ∧ ns.length ≤ 63 ∧ ∀ H', Q (.bl true) H'
abbrev nLaw : List Str := ["_law_script", "_law_before", "_law_text", "_law_due", "_law_handed", "_law_found", "_law_lone", "_law_told"]
theorem scLaw : FnScope nLaw ["_law_script"] (defScope sLaw) := ⟨rfl, rfl, rfl, by decide +kernel, rfl, by decide +kernel, by decide +kernel⟩
structure All (K : PySem.W.Frag) (mg : Str → Option Value) : Prop where
  Y : Wins K mg
  piecesof : ∃ f fd, FnD K mg "pieces_of" sPiecesOf ["text", "before"] f fd
  cell : ∃ f fd, Fn K mg "_law_cell_at" sCellAt ["_law_script", "_law_k"] f fd
  mixed : ∃ f fd, Fn K mg "_law_mixed" sMixed ["_law_cell", "_law_k"] f fd
  signs : ∃ f fd, Fn K mg "_law_signs" sSigns ["_law_script", "_law_first", "_law_size_here", "_law_kinds"] f fd
  drawn : ∃ f fd, Fn K mg "_law_drawn" sDrawn ["_law_script"] f fd
  same : ∃ f fd, Fn K mg "_law_same" sSame ["_law_found", "_law_due"] f fd
  size : ∃ f fd, Fn K mg "_law_size" sSize ["_law_signs_here", "_law_place", "_law_back"] f fd
  pieces : ∃ f fd, Fn K mg "_law_pieces" sLPieces ["_law_before", "_law_text"] f fd
theorem ndO : (["_law_one", "_law_lone"] : List Str).Nodup := by decide +kernel
def ttSame : TT := tNot (tB (tCall spSame [] E0 (tCons (tVar 0) (tCons (tVar 1) tNil))))
def ttNe (K : PySem.W.Frag) : TT := tTest (tOp (rNeLT K) (tVar 0) (tVar 1))
theorem mono_same : ∀ σ H (A B : Bool → Hp → Prop), (∀ v H', A v H' → B v H') → ttSame σ H A → ttSame σ H B := fun σ H A B h ⟨v, h1, v2, h2, lf, ld, Pp, h3, h4, h5, h6⟩ => ⟨v, h1, v2, h2, lf, ld, Pp, h3, h4, h5, fun H' s => let ⟨c, e, z⟩ := h6 H' s; ⟨c, e, h _ _ z⟩⟩
theorem mono_ne : ∀ σ H (A B : Bool → Hp → Prop), (∀ v H', A v H' → B v H') → ttNe K σ H A → ttNe K σ H B := fun σ H A B h ⟨v, h1, v2, h2, p, q, h3, h4, h5, c, h6, h7⟩ => ⟨v, h1, v2, h2, p, q, h3, h4, h5, c, h6, h _ _ h7⟩
/-- lists that are all the same: none is kept -/
theorem none_kept {σ0 : St} {H : Hp} {tt : TT} {ln lo l : Addr} {as : List Addr} {R : Hp → Prop} (hl : H l = none) (hcap : σ0 = [none, some (.ref ln)]) (hlo : H lo = some (.lst (as.map V.ref)))
    (mtt : ∀ σ H (A B : Bool → Hp → Prop), (∀ v H', A v H' → B v H') → tt σ H A → tt σ H B)
    (ht : ∀ (i : Nat) (b : Addr) (H' : Hp) (R : Bool → Hp → Prop), as[i]? = some b → Same H H' → (∀ H'', Same H' H'' → R false H'') → tt [some (.ref b), some (.ref ln)] H' R)
    (q : ∀ (H' : Hp), Same H H' → H' l = some (.lst []) → R H') :
    ∃ W : Nat → Nat → List V → St → Hp → Prop, (∃ m, W 0 m [] σ0 (upd H l (.lst []))) ∧ ∀ i m ys σ' H', W i m ys σ' H' →
      ((Itl K lo).stop i H' ∧ R H') ∨ ((Itl K lo).go i H' ∧ ∀ x H2, (Itl K lo).yld i H' x H2 → gName 0 x σ' H2 fun σ3 H3 => tt σ3 H3 fun c H5 => if c = true then tVar 0 σ3 H5 fun y H4 =>
        H4 l = some (.lst ys) ∧ ys.length < sizeLine ∧ ∃ m', m' < m ∧ W (i + 1) m' (ys ++ [y]) σ3 (upd H4 l (.lst (ys ++ [y]))) else ∃ m', m' < m ∧ W (i + 1) m' ys σ3 H5) := by
  refine compCI_li (K := K) (a := lo) (l := l) (xs := as.map V.ref) (g := gName 0) (tt := tt) (te := tVar 0) (fun i ys σ' H' => ys = [] ∧ (∃ v0, σ' = [v0, some (.ref ln)]) ∧ H' l = some (.lst []) ∧ Same H H')
    ⟨rfl, ⟨_, hcap⟩, upd_same, same_new hl⟩ (fun i ys σ' H' _ ⟨_, _, _, sm⟩ => SqL.of (sm _ _ hlo)) ?_ ?_ (fun x σ H A B h z => h _ _ z) mtt (fun σ H A B h ⟨v, h1, h2⟩ => ⟨v, h1, h _ _ h2⟩)
  · rintro i x ys σ' H' hi ⟨rfl, ⟨v0, rfl⟩, hl', sm⟩
    obtain ⟨b, hb, rfl⟩ := ref_get hi
    exact ht i b H' _ hb sm fun H'' s'' => iteF ⟨rfl, ⟨_, rfl⟩, s'' _ _ hl', sm.trans s''⟩
  · rintro ys σ' H' ⟨rfl, _, hl', sm⟩
    exact q H' sm hl'
theorem ok_law {f : Addr} {fd : FuncData} (F : Fun K "law" "law" sLaw f fd) (A0 : All K mg) : FnOk P w K mg base CX0 37 f fd ["_law_script"] (spLaw K) := by
  obtain ⟨Y, ⟨_, _, Po⟩, ⟨_, _, Ce⟩, ⟨_, _, Mi⟩, ⟨_, _, Si⟩, ⟨_, _, Dr⟩, ⟨_, _, Sm⟩, ⟨_, _, Sz⟩, ⟨_, _, Lp⟩⟩ := A0
  have X := Y.R.X
  have GD := ok_drawn (P := P) (w := w) (base := base) Dr Ce Mi Si X
  have GP := ok_piecesof (P := P) (w := w) (base := base) Po Y
  have GS := ok_same (P := P) (w := w) (base := base) Sm X
  have GL := ok_lpieces (P := P) (w := w) (base := base) Lp Sz X
  refine F.ok scLaw (fun vs H Q E h => ?_) (fun cdv A outer st H vs Q E hr h => ?_)
  · obtain ⟨a, ns, rfl, _⟩ := h
    rfl
  · obtain ⟨a, ns, rfl, hS, hlen, k⟩ := h
    have hr2 : Room 2 _ := hr.mono (by decide)
    have hr32 : Room 32 _ := hr.mono (by decide)
    have hu := hr.units
    have hcaps : ∀ (x : Str), ((x, NameKind.cell) ∈ ([(".0", .local), ("_law_one", .local), ("_law_same", .globalImplicit), ("_law_lone", .cell)] : List (Str × NameKind)) → x = "_law_lone") ∧ (x, NameKind.free) ∉ ([(".0", .local), ("_law_one", .local), ("_law_same", .globalImplicit), ("_law_lone", .cell)] : List (Str × NameKind)) := fun x => ⟨fun m => by simpa using m, fun m => by simp at m⟩
    have hcaps2 : ∀ (x : Str), ((x, NameKind.cell) ∈ ([(".0", .local), ("_law_one", .local), ("_law_lone", .cell)] : List (Str × NameKind)) → x = "_law_lone") ∧ (x, NameKind.free) ∉ ([(".0", .local), ("_law_one", .local), ("_law_lone", .cell)] : List (Str × NameKind)) := fun x => ⟨fun m => by simpa using m, fun m => by simp at m⟩
    refine ⟨_, pss_cons (ps_asg (pe_call GD hr32 (by rfl) Dr.m Dr.F.kp Dr.b .nil pass0 (pa_cons (pv 0) pa_nil)) (pg_tup rfl (pgs_cons (pg_name (i := 1) scLaw.nd rfl (Or.inl rfl)) (pgs_cons (pg_name (i := 2) scLaw.nd rfl (Or.inl rfl)) pgs_nil))))
      (pss_cons (ps_set (i := 3) scLaw.nd rfl (Or.inl rfl) (pe_call GL hr32 (by rfl) Lp.m Lp.F.kp Lp.b .nil pass0 (pa_cons (pv 1) (pa_cons (pv 2) pa_nil))))
      (pss_cons (ps_set (i := 4) scLaw.nd rfl (Or.inl rfl) (pe_lst (pa_cons (pe_callTy call_list_of (by rfl) X.list PyProof.Rows.boot_list (pa_cons (pv 2) pa_nil)) (pa_cons (pe_callTy call_list_of (by rfl) X.list PyProof.Rows.boot_list (pa_cons (pv 1) pa_nil)) pa_nil))))
      (pss_cons (ps_set (i := 5) scLaw.nd rfl (Or.inl rfl) (pe_call GP hr32 (by rfl) Po.m Po.kp Po.b .nil pass0 (pa_cons (pe_ix ix_list (pv 4) pe_int (fun _ _ => rfl)) (pa_cons (pe_ix ix_list (pv 4) pe_int (fun _ _ => rfl)) pa_nil))))
      (pss_cons (ps_if (PW.pt (pw_or (pt_cmpR (op_neLL hu) (pv 4) (pe_lst (pa_cons (pv 2) (pa_cons (pv 1) pa_nil))) (nomark _)) (pw_or1 (pt_not (pt_val (pe_call GS hr2 (by rfl) Sm.m Sm.F.kp Sm.b .nil pass0 (pa_cons (pv 5) (pa_cons (pv 3) pa_nil)))))))) (pss_one (ps_ret pe_bl)) pss_nil)
      (pss_cons (ps_expr (pe_bm0 PySem.F.plainAttrs_list PySem.F.slot_list_reverse PySem.F.type_list_reverse mt_reverse (pe_ix ix_list (pv 4) pe_int (fun _ _ => rfl))))
      (pss_cons (ps_expr (pe_bm0 PySem.F.plainAttrs_list PySem.F.slot_list_clear PySem.F.type_list_clear mt_clear (pe_ix ix_list (pv 4) pe_int (fun _ _ => rfl))))
      (pss_cons (ps_if (pt_not (pt_val (pe_call GS hr2 (by rfl) Sm.m Sm.F.kp Sm.b .nil pass0 (pa_cons (pe_call GP hr32 (by rfl) Po.m Po.kp Po.b .nil pass0 (pa_cons (pe_ix ix_list (pv 4) pe_int (fun _ _ => rfl)) (pa_cons (pv 1) pa_nil))) (pa_cons (pe_call GL hr32 (by rfl) Lp.m Lp.F.kp Lp.b .nil pass0 (pa_cons (pv 1) (pa_cons (pe_rev (pv 2) (pe_un un_neg pe_int)) pa_nil))) pa_nil))))) (pss_one (ps_ret pe_bl)) pss_nil)
      (pss_cons (ps_set (i := 6) scLaw.nd rfl (Or.inr rfl) (pe_call GL hr32 (by rfl) Lp.m Lp.F.kp Lp.b .nil pass0 (pa_cons (pe_lst pa_nil) (pa_cons (pv 2) pa_nil))))
      (pss_cons (ps_set (i := 7) scLaw.nd rfl (Or.inl rfl) (pe_lst (pa_cons (pe_call GP hr32 (by rfl) Po.m Po.kp Po.d (dvs := [.non]) (.cons rfl .nil) pass0 (pa_cons (pv 2) pa_nil)) (pa_cons (pe_call GP hr32 (by rfl) Po.m Po.kp Po.b .nil pass0 (pa_cons (pv 2) (pa_cons pe_non pa_nil))) pa_nil))))
      (pss_cons (ps_aug (i := 7) scLaw.nd rfl (Or.inl rfl) (pe_lst (pa_cons (pe_call GP hr32 (by rfl) Po.m Po.kp Po.b .nil pass0 (pa_cons (pv 2) (pa_cons (pe_lst pa_nil) pa_nil))) (pa_cons (pe_call GP hr32 (by rfl) Po.m Po.kp Po.b .nil pass0 (pa_cons (pv 2) (pa_cons (pe_ix ix_list (pv 4) pe_int (fun _ _ => rfl)) pa_nil))) pa_nil))) ip_lcat)
      (pss_cons (ps_if (pt_cmpR (op_neL hu) (pe_compCI (N := ["_law_one", "_law_lone"]) (js := [none, some 6]) (cl := [("_law_lone", st.heap.objs.size + 1)]) (g := gName 0) (tt := ttSame) (te := tVar 0) rfl
          ⟨rfl, by decide +kernel, by decide +kernel, by rfl, fun x c h => (by obtain ⟨rfl, rfl⟩ := lookup_one h; rfl), fun x hx => ?c1, rfl, fun i x j h1 h2 => ?c2⟩
          (pi_list (pv 7)) (fun fp s H => pg_name (i := 0) ndO rfl (Or.inl rfl)) (fun fp s H => pt_not (pt_val (pe_call GS hr2 (by rfl) Sm.m Sm.F.kp Sm.b .nil pass0 (pa_cons (pv 0) (pa_cons (pv 1) pa_nil))))) (fun fp s H => pv 0)) (pe_lst pa_nil) (nomark _)) (pss_one (ps_ret pe_bl)) pss_nil)
      (pss_cons (ps_if (pt_not (pt_val (pe_call GS hr2 (by rfl) Sm.m Sm.F.kp Sm.b .nil pass0 (pa_cons (pe_call GP hr32 (by rfl) Po.m Po.kp Po.b .nil pass0 (pa_cons (pe_callTy call_list_of (by rfl) X.list PyProof.Rows.boot_list (pa_cons (pv 2) pa_nil)) (pa_cons (pe_callTy call_list_of (by rfl) X.list PyProof.Rows.boot_list (pa_cons (pv 1) pa_nil)) pa_nil))) (pa_cons (pv 3) pa_nil))))) (pss_one (ps_ret pe_bl)) pss_nil)
      (pss_cons (ps_expr (pe_bm0 PySem.F.plainAttrs_list PySem.F.slot_list_clear PySem.F.type_list_clear mt_clear (pe_ix ix_list (pv 7) pe_int (fun _ _ => rfl))))
      (pss_one (ps_ret (pe_and (pe_call GS hr2 (by rfl) Sm.m Sm.F.kp Sm.b .nil pass0 (pa_cons (pv 5) (pa_cons (pv 3) pa_nil)))
        (pe_one (pe_cmpR (op_eqL hu) (pe_compCI (N := ["_law_one", "_law_lone"]) (js := [none, some 6]) (cl := [("_law_lone", st.heap.objs.size + 1)]) (g := gName 0) (tt := ttNe K) (te := tVar 0) rfl
          ⟨rfl, by decide +kernel, by decide +kernel, by rfl, fun x c h => (by obtain ⟨rfl, rfl⟩ := lookup_one h; rfl), fun x hx => ?c3, rfl, fun i x j h1 h2 => ?c4⟩
          (pi_list (pe_slice sl_list (pv 7) (po_some pe_int) po_none)) (fun fp s H => pg_name (i := 0) ndO rfl (Or.inl rfl)) (fun fp s H => pt_cmpR (op_neLTK (K := K) rfl hu) (pv 0) (pv 1) (nomark _)) (fun fp s H => pv 0)) (pe_lst pa_nil) (nomark _))))))))))))))))))), ?_⟩
    case c1 =>
      rcases hx with hx | hx
      · have e := (hcaps x).1 (PySem.mem_of_lookup hx)
        subst e
        exact ⟨_, rfl⟩
      · exact absurd (PySem.mem_of_lookup hx) (hcaps x).2
    case c2 =>
      match i, h1, h2 with
      | 0, _, h2 => cases h2
      | 1, h1, h2 =>
        cases h1
        cases h2
        exact ⟨rfl, rfl, rfl, fun c h => h⟩
      | i + 2, h1, _ => cases h1
    case c3 =>
      rcases hx with hx | hx
      · have e := (hcaps2 x).1 (PySem.mem_of_lookup hx)
        subst e
        exact ⟨_, rfl⟩
      · exact absurd (PySem.mem_of_lookup hx) (hcaps2 x).2
    case c4 =>
      match i, h1, h2 with
      | 0, _, h2 => cases h2
      | 1, h1, h2 =>
        cases h1
        cases h2
        exact ⟨rfl, rfl, rfl, fun c h => h⟩
      | i + 2, h1, _ => cases h1
    -- window and text
    refine seq_g fun R1 g1 => ?_
    refine ⟨_, rfl, a, ns, rfl, hS, fun t lw lt W Tx H1 s1 nlw nlt nwt ht hlw hlt hbW hbT hW hT => ?_⟩
    refine ⟨t, _, rfl, SqT.of ht, rfl, _, _, rfl, _, _, rfl, rfl, g1 _ _ ?_⟩
    clear g1
    -- the law's own pieces
    refine seq_g fun R1 g1 => ?_
    refine ⟨_, rfl, _, rfl, lw, lt, W, Tx, rfl, hlw, hlt, hW, by omega, fun ld Pd H2 s2 nld hld hwd => g1 _ _ ?_⟩
    clear g1
    have hlw2 := s2 _ _ hlw
    have hlt2 := s2 _ _ hlt
    -- handed
    refine seq_g fun R1 g1 => ?_
    refine ⟨_, rfl, lt, _, rfl, .inl (SqL.of hlt2), fun h0 nh0 => ?_⟩
    have s3 := same_new (o := .lst (Tx.map vN)) nh0
    have hh0 : (upd H2 h0 (.lst (Tx.map vN))) h0 = some (.lst (Tx.map vN)) := upd_same
    have hld3 := hld.same s3
    have hlw3 := s3 _ _ hlw2
    have hlt3 := s3 _ _ hlt2
    have nd0 := hld.ne nh0
    have nw0 : lw ≠ h0 := ne_of_none hlw2 nh0
    have nt0 : lt ≠ h0 := ne_of_none hlt2 nh0
    generalize upd H2 h0 (.lst (Tx.map vN)) = H3 at *
    refine ⟨_, rfl, lw, _, rfl, .inl (SqL.of hlw3), fun h1 nh1 => ?_⟩
    have s4 := same_new (o := .lst (W.map vN)) nh1
    have hh1 : (upd H3 h1 (.lst (W.map vN))) h1 = some (.lst (W.map vN)) := upd_same
    have hh04 := s4 _ _ hh0
    have hld4 := hld3.same s4
    have hlw4 := s4 _ _ hlw3
    have hlt4 := s4 _ _ hlt3
    have nd1 := hld3.ne nh1
    have nw1 : lw ≠ h1 := ne_of_none hlw3 nh1
    have nt1 : lt ≠ h1 := ne_of_none hlt3 nh1
    have n01 : h0 ≠ h1 := ne_of_none hh0 nh1
    generalize upd H3 h1 (.lst (W.map vN)) = H4 at *
    refine ⟨(by show 2 ≤ sizeLine; decide), fun lh nlh => g1 _ _ ?_⟩
    clear g1
    have s5 := same_new (o := .lst [V.ref h0, V.ref h1]) nlh
    have hlh : (upd H4 lh (.lst [V.ref h0, V.ref h1])) lh = some (.lst [V.ref h0, V.ref h1]) := upd_same
    have hh05 := s5 _ _ hh04
    have hh15 := s5 _ _ hh1
    have hld5 := hld4.same s5
    have hlw5 := s5 _ _ hlw4
    have hlt5 := s5 _ _ hlt4
    have nh0h : h0 ≠ lh := ne_of_none hh04 nlh
    have nh1h : h1 ≠ lh := ne_of_none hh1 nlh
    generalize upd H4 lh (.lst [V.ref h0, V.ref h1]) = H5 at *
    -- found
    refine seq_g fun R1 g1 => ?_
    refine ⟨_, rfl, lh, _, _, _, rfl, rfl, SqL.of hlh, atI_nat (j := 0) rfl, _, rfl, lh, _, _, _, rfl, rfl, SqL.of hlh, atI_nat (j := 1) rfl, h0, .ref h1, W, Tx, rfl, hh05, .inr ⟨h1, rfl, hh15⟩, hbW, hbT, hW, by omega, fun lf Pf H6 s6 nlf hlf hwf => g1 _ _ ?_⟩
    clear g1
    have ef : Pf = Pd := walk_uniq hwf hwd
    subst ef
    have nf0 : lf ≠ h0 := (ne_of_none hh05 nlf).symm
    have nf1 : lf ≠ h1 := (ne_of_none hh15 nlf).symm
    have hlh6 := s6 _ _ hlh
    have hh06 := s6 _ _ hh05
    have hh16 := s6 _ _ hh15
    have hld6 := hld5.same s6
    have hlw6 := s6 _ _ hlw5
    have hlt6 := s6 _ _ hlt5
    -- handed as it was; the same
    refine seq_g fun R1 g1 => ?_
    refine ⟨_, rfl, _, rfl, _, rfl, (by show 2 ≤ sizeLine; decide), fun l7 n7 => ?_⟩
    have s7 := same_new (o := .lst [V.ref lt, V.ref lw]) n7
    have h77 : (upd H6 l7 (.lst [V.ref lt, V.ref lw])) l7 = some (.lst [V.ref lt, V.ref lw]) := upd_same
    have hlh7 := s7 _ _ hlh6
    have hh07 := s7 _ _ hh06
    have hh17 := s7 _ _ hh16
    have hld7 := hld6.same s7
    have hlf7 := hlf.same s7
    have hlw7 := s7 _ _ hlw6
    have hlt7 := s7 _ _ hlt6
    generalize upd H6 l7 (.lst [V.ref lt, V.ref lw]) = H7 at *
    refine ⟨lh, l7, rfl, rfl, ⟨[h0, h1], [lt, lw], SqL.of hlh7, SqL.of h77, rfl, fun i x y hx hy => ?_⟩, _, rfl, iteF ?_⟩
    · match i, hx, hy with
      | 0, hx, hy =>
        cases hx
        cases hy
        exact ⟨Tx.map (fun b => ((b : Nat) : Int)), by rw [← map_vN]; exact SqL.of hh07, by rw [← map_vN]; exact SqL.of hlt7⟩
      | 1, hx, hy =>
        cases hx
        cases hy
        exact ⟨W.map (fun b => ((b : Nat) : Int)), by rw [← map_vN]; exact SqL.of hh17, by rw [← map_vN]; exact SqL.of hlw7⟩
      | i + 2, hx, _ => cases hx
    refine ⟨_, rfl, _, rfl, lf, ld, Pf, rfl, hlf7, hld7, fun H8 s8 => ⟨_, rfl, iteF (g1 _ _ ?_)⟩⟩
    clear g1
    have hlh8 := s8 _ _ hlh7
    have hh08 := s8 _ _ hh07
    have hh18 := s8 _ _ hh17
    have hld8 := hld7.same s8
    have hlf8 := hlf7.same s8
    have hlw8 := s8 _ _ hlw7
    have hlt8 := s8 _ _ hlt7
    have s08 : Same H H8 := (((((((s1.trans s2).trans s3).trans s4).trans s5).trans s6).trans s7).trans s8)
    clear s8 s7 s6 s5 s4 s3 s2 hlh7 hh07 hh17 hld7 hlf7 hlw7 hlt7 hlh6 hh06 hh16 hld6 hlw6 hlt6 hlf h77 n7 hlh hh05 hh15 hld5 hlw5 hlt5 hh04 hld4 hlw4 hlt4 hh1 hh0 hld3 hlw3 hlt3 nlh nh1 nh0 nlf hld hlw2 hlt2 hlw hlt ht
    -- turned round, and emptied
    refine seq_g fun R1 g1 => ?_
    refine ⟨_, rfl, lh, _, _, _, rfl, rfl, SqL.of hlh8, atI_nat (j := 0) rfl, .inl ⟨rfl, _, SqL.of hh08⟩, h0, _, rfl, rfl, hh08, g1 _ _ ?_⟩
    clear g1
    have erev : (Tx.map vN).reverse = Tx.reverse.map vN := by rw [List.map_reverse]
    try dsimp only
    rw [erev]
    have hh09 : (upd H8 h0 (.lst (Tx.reverse.map vN))) h0 = some (.lst (Tx.reverse.map vN)) := upd_same
    have hh19 : (upd H8 h0 (.lst (Tx.reverse.map vN))) h1 = some (.lst (W.map vN)) := by rw [upd_ne n01.symm]; exact hh18
    have hlh9 : (upd H8 h0 (.lst (Tx.reverse.map vN))) lh = some (.lst [V.ref h0, V.ref h1]) := by rw [upd_ne nh0h.symm]; exact hlh8
    have hlw9 : (upd H8 h0 (.lst (Tx.reverse.map vN))) lw = some (.lst (W.map vN)) := by rw [upd_ne nw0]; exact hlw8
    have hlt9 : (upd H8 h0 (.lst (Tx.reverse.map vN))) lt = some (.lst (Tx.map vN)) := by rw [upd_ne nt0]; exact hlt8
    have hld9 := hld8.upd (ys := Tx.reverse.map vN) hh08 nd0
    have hlf9 := hlf8.upd (ys := Tx.reverse.map vN) hh08 nf0
    generalize L2.upd H8 h0 (.lst (Tx.reverse.map vN)) = H9 at *
    clear hlh8 hh08 hh18 hld8 hlf8 hlw8 hlt8
    refine seq_g fun R1 g1 => ?_
    refine ⟨_, rfl, lh, _, _, _, rfl, rfl, SqL.of hlh9, atI_nat (j := 1) rfl, .inl ⟨rfl, _, SqL.of hh19⟩, h1, _, rfl, rfl, hh19, g1 _ _ ?_⟩
    clear g1
    have hh0b : (upd H9 h1 (.lst [])) h0 = some (.lst (Tx.reverse.map vN)) := by rw [upd_ne n01]; exact hh09
    have hh1b : (upd H9 h1 (.lst [])) h1 = some (.lst (([] : List Nat).map vN)) := upd_same
    have hlhb : (upd H9 h1 (.lst [])) lh = some (.lst [V.ref h0, V.ref h1]) := by rw [upd_ne nh1h.symm]; exact hlh9
    have hlwb : (upd H9 h1 (.lst [])) lw = some (.lst (W.map vN)) := by rw [upd_ne nw1]; exact hlw9
    have hltb : (upd H9 h1 (.lst [])) lt = some (.lst (Tx.map vN)) := by rw [upd_ne nt1]; exact hlt9
    have hldb := hld9.upd (ys := []) hh19 nd1
    have hlfb := hlf9.upd (ys := []) hh19 nf1
    generalize L2.upd H9 h1 (.lst []) = Hb at *
    clear hh09 hh19 hlh9 hlw9 hlt9 hld9 hlf9
    have hbR : ∀ b ∈ Tx.reverse, b < 256 := fun b hb => hbT b (List.mem_reverse.mp hb)
    -- of the text turned round
    refine seq_g fun R1 g1 => ?_
    refine ⟨_, rfl, lh, _, _, _, rfl, rfl, SqL.of hlhb, atI_nat (j := 0) rfl, _, rfl, h0, .ref lw, W, Tx.reverse, rfl, hh0b, .inr ⟨lw, rfl, hlwb⟩, hbW, hbR, hW, by rw [List.length_reverse]; omega, fun p1 P1 H10 s10 np1 hp1 hw1 => ?_⟩
    refine ⟨_, rfl, _, rfl, _, rfl, lt, _, rfl, rfl, SqL.of (s10 _ _ hltb), fun r1 nr1 => ?_⟩
    try dsimp only
    rw [erev]
    have s11 := same_new (o := .lst (Tx.reverse.map vN)) nr1
    have hr11 : (upd H10 r1 (.lst (Tx.reverse.map vN))) r1 = some (.lst (Tx.reverse.map vN)) := upd_same
    generalize L2.upd H10 r1 (.lst (Tx.reverse.map vN)) = H11 at *
    have sb11 := s10.trans s11
    refine ⟨lw, r1, W, Tx.reverse, rfl, sb11 _ _ hlwb, hr11, hW, by rw [List.length_reverse]; omega, fun p2 P2 H12 s12 np2 hp2 hw2 => ?_⟩
    have e12 : P2 = P1 := walk_uniq hw2 hw1
    subst e12
    refine ⟨p1, p2, P2, rfl, (hp1.same s11).same s12, hp2, fun H13 s13 => ⟨_, rfl, iteF (g1 _ _ ?_)⟩⟩
    clear g1
    have sb13 := (sb11.trans s12).trans s13
    clear sb11 s10 s11 s12 s13 hp1 hp2 hw1 hw2 np1 np2 nr1 hr11
    -- without a window
    refine seq_g fun R1 g1 => ?_
    refine ⟨by decide, fun e1 ne1 => ?_⟩
    have s14 := same_new (o := .lst []) ne1
    have he1 : (upd H13 e1 (.lst [])) e1 = some (.lst (([] : List Nat).map vN)) := upd_same
    generalize L2.upd H13 e1 (.lst []) = H14 at *
    have sb14 := sb13.trans s14
    refine ⟨_, rfl, e1, lt, [], Tx, rfl, he1, sb14 _ _ hltb, by decide, by omega, fun ln P0 H15 s15 nln hln hw0 => g1 _ _ ?_⟩
    clear g1
    rw [List.nil_append] at hw0
    have sb15 := sb14.trans s15
    clear sb13 s14 he1 sb14 s15 ne1
    -- four askings
    refine seq_g fun R1 g1 => ?_
    refine ⟨_, rfl, lt, .non, [], Tx, rfl, sb15 _ _ hltb, .inl ⟨rfl, rfl⟩, (fun b hb => by simp at hb), hbT, by decide, by omega, fun a1 Pa1 H16 s16 na1 ha1 hwa1 => ?_⟩
    rw [List.nil_append] at hwa1
    have ea1 : Pa1 = P0 := walk_uniq hwa1 hw0
    have nab1 : Hb a1 = none := none_of sb15 na1
    subst ea1
    have sb16 := sb15.trans s16
    refine ⟨_, rfl, lt, .non, [], Tx, rfl, sb16 _ _ hltb, .inl ⟨rfl, rfl⟩, (fun b hb => by simp at hb), hbT, by decide, by omega, fun a2 Pa2 H17 s17 na2 ha2 hwa2 => ?_⟩
    rw [List.nil_append] at hwa2
    have ea2 : Pa2 = Pa1 := walk_uniq hwa2 hw0
    subst ea2
    have sb17 := sb16.trans s17
    have n12 := ha1.ne na2
    refine ⟨(by show 2 ≤ sizeLine; decide), fun lo nlo => g1 _ _ ?_⟩
    clear g1
    have s18 := same_new (o := .lst [V.ref a1, V.ref a2]) nlo
    have hlo : (upd H17 lo (.lst [V.ref a1, V.ref a2])) lo = some (.lst [V.ref a1, V.ref a2]) := upd_same
    have hln18 := ((hln.same s16).same s17).same s18
    have ha118 := (ha1.same s17).same s18
    have ha218 := ha2.same s18
    have n1o := (ha1.same s17).ne nlo
    have n2o := ha2.ne nlo
    have nno := ((hln.same s16).same s17).ne nlo
    have nn1 := hln.ne na1
    generalize L2.upd H17 lo (.lst [V.ref a1, V.ref a2]) = H18 at *
    have sb18 := sb17.trans s18
    have nlob : Hb lo = none := none_of sb17 nlo
    clear s16 s17 s18 sb16 sb17 sb15 ha1 ha2 hln na1 na2 nlo hwa1
    refine seq_g fun R1 g1 => ?_
    refine ⟨_, rfl, _, rfl, by decide, fun e2 ne2 => ?_⟩
    have s19 := same_new (o := .lst []) ne2
    have he2 : (upd H18 e2 (.lst [])) e2 = some (.lst (([] : List Nat).map vN)) := upd_same
    generalize L2.upd H18 e2 (.lst []) = H19 at *
    have sb19 := sb18.trans s19
    refine ⟨lt, .ref e2, [], Tx, rfl, sb19 _ _ hltb, .inr ⟨e2, rfl, he2⟩, (fun b hb => by simp at hb), hbT, by decide, by omega, fun a3 Pa3 H20 s20 na3 ha3 hwa3 => ?_⟩
    rw [List.nil_append] at hwa3
    have ea3 : Pa3 = Pa2 := walk_uniq hwa3 hw0
    subst ea3
    have sb20 := sb19.trans s20
    have n13 : a1 ≠ a3 := (ha118.same s19).ne na3
    refine ⟨_, rfl, _, rfl, lh, _, _, _, rfl, rfl, SqL.of (sb20 _ _ hlhb), atI_nat (j := 1) rfl, lt, .ref h1, [], Tx, rfl, sb20 _ _ hltb, .inr ⟨h1, rfl, sb20 _ _ hh1b⟩, (fun b hb => by simp at hb), hbT, by decide, by omega, fun a4 Pa4 H21 s21 na4 ha4 hwa4 => ?_⟩
    rw [List.nil_append] at hwa4
    have ea4 : Pa4 = Pa3 := walk_uniq hwa4 hw0
    subst ea4
    have sb21 := sb20.trans s21
    have n14 : a1 ≠ a4 := ((ha118.same s19).same s20).ne na4
    have hlo21 := s21 _ _ (s20 _ _ (s19 _ _ hlo))
    have n3o : a3 ≠ lo := (ne_of_none (s19 _ _ hlo) na3).symm
    have n4o : a4 ≠ lo := (ne_of_none (s20 _ _ (s19 _ _ hlo)) na4).symm
    refine ⟨(by show 2 ≤ sizeLine; decide), fun lm nlm => ?_⟩
    have s22 := same_new (o := .lst [V.ref a3, V.ref a4]) nlm
    have hlm : (upd H21 lm (.lst [V.ref a3, V.ref a4])) lm = some (.lst [V.ref a3, V.ref a4]) := upd_same
    have hlo22 := s22 _ _ hlo21
    have ha122 := (((ha118.same s19).same s20).same s21).same s22
    have ha222 := (((ha218.same s19).same s20).same s21).same s22
    have ha322 := (ha3.same s21).same s22
    have ha422 := ha4.same s22
    have hln22 := (((hln18.same s19).same s20).same s21).same s22
    generalize L2.upd H21 lm (.lst [V.ref a3, V.ref a4]) = H22 at *
    have sb22 := sb21.trans s22
    refine ⟨lo, lm, _, _, rfl, rfl, hlo22, hlm, sl2000 (by show 2 + 2 ≤ 2000; decide), g1 _ _ ?_⟩
    clear g1
    have hlo23 : (upd H22 lo (.lst ([V.ref a1, V.ref a2] ++ [V.ref a3, V.ref a4]))) lo = some (.lst ([a1, a2, a3, a4].map V.ref)) := upd_same
    have ha123 := ha122.upd (ys := [V.ref a1, V.ref a2] ++ [V.ref a3, V.ref a4]) hlo22 n1o
    have ha223 := ha222.upd (ys := [V.ref a1, V.ref a2] ++ [V.ref a3, V.ref a4]) hlo22 n2o
    have ha323 := ha322.upd (ys := [V.ref a1, V.ref a2] ++ [V.ref a3, V.ref a4]) hlo22 n3o
    have ha423 := ha422.upd (ys := [V.ref a1, V.ref a2] ++ [V.ref a3, V.ref a4]) hlo22 n4o
    have hln23 := hln22.upd (ys := [V.ref a1, V.ref a2] ++ [V.ref a3, V.ref a4]) hlo22 nno
    have sb23 : Same Hb (upd H22 lo (.lst ([V.ref a1, V.ref a2] ++ [V.ref a3, V.ref a4]))) := fun c o e => by rw [upd_ne (ne_of_none e nlob)]; exact sb22 _ _ e
    generalize L2.upd H22 lo (.lst ([V.ref a1, V.ref a2] ++ [V.ref a3, V.ref a4])) = H23 at *
    clear s19 s20 s21 s22 sb18 sb19 sb20 sb21 sb22 ha118 ha218 ha122 ha222 ha322 ha422 hln18 hln22 ha3 ha4 hlo hlo21 hlo22 hlm he2 ne2 na3 na4 nlm hwa3 hwa4 hwa2
    -- all the same
    refine seq_g fun R1 g1 => ?_
    refine ⟨_, rfl, lo, rfl, ⟨_, SqL.of hlo23⟩, fun l24 n24 => ?_⟩
    refine none_kept (K := K) (as := [a1, a2, a3, a4]) (ln := ln) (tt := ttSame) n24 ?hcap hlo23 mono_same (fun i b H' R hb sm hR => ?_) fun H24 s24 h24 => ?_
    case hcap => rfl
    · have hpb : PL H23 b Pa4 := by
        match i, hb with
        | 0, hb => cases hb; exact ha123
        | 1, hb => cases hb; exact ha223
        | 2, hb => cases hb; exact ha323
        | 3, hb => cases hb; exact ha423
        | i + 4, hb => cases hb
      exact ⟨_, rfl, _, rfl, b, ln, Pa4, rfl, hpb.same sm, hln23.same sm, fun H'' s'' => ⟨_, rfl, hR H'' s''⟩⟩
    refine ⟨by decide, fun l25 n25 => ?_⟩
    have s25 := same_new (o := .lst []) n25
    have h25 : (upd H24 l25 (.lst [])) l25 = some (.lst (([] : List Int).map V.int)) := upd_same
    have h24' : (upd H24 l25 (.lst [])) l24 = some (.lst (([] : List Int).map V.int)) := s25 _ _ h24
    generalize L2.upd H24 l25 (.lst []) = H25 at *
    refine ⟨l24, l25, [], [], rfl, rfl, SqL.of h24', SqL.of h25, _, rfl, iteNS rfl (g1 _ _ ?_)⟩
    clear g1
    have sA := s24.trans s25
    have hlo25 := sA _ _ hlo23
    have ha125 := ha123.same sA
    have ha225 := ha223.same sA
    have ha325 := ha323.same sA
    have ha425 := ha423.same sA
    have hln25 := hln23.same sA
    have sb25 := sb23.trans sA
    clear sA s24 s25 h24 h25 h24' n24 n25 hlo23 ha123 ha223 ha323 ha423 hln23 sb23
    -- once more
    refine seq_g fun R1 g1 => ?_
    refine ⟨_, rfl, lt, _, rfl, .inl (SqL.of (sb25 _ _ hltb)), fun c0 nc0 => ?_⟩
    have s26 := same_new (o := .lst (Tx.map vN)) nc0
    have hc0 : (upd H25 c0 (.lst (Tx.map vN))) c0 = some (.lst (Tx.map vN)) := upd_same
    generalize L2.upd H25 c0 (.lst (Tx.map vN)) = H26 at *
    refine ⟨_, rfl, lw, _, rfl, .inl (SqL.of (s26 _ _ (sb25 _ _ hlwb))), fun c1 nc1 => ?_⟩
    have s27 := same_new (o := .lst (W.map vN)) nc1
    have hc1 : (upd H26 c1 (.lst (W.map vN))) c1 = some (.lst (W.map vN)) := upd_same
    have hc0' := s27 _ _ hc0
    generalize L2.upd H26 c1 (.lst (W.map vN)) = H27 at *
    refine ⟨c0, .ref c1, W, Tx, rfl, hc0', .inr ⟨c1, rfl, hc1⟩, hbW, hbT, hW, by omega, fun p3 P3 H28 s28 np3 hp3 hw3 => ?_⟩
    have e3 : P3 = Pf := walk_uniq hw3 hwd
    subst e3
    have sA := (s26.trans s27).trans s28
    have sb28 := sb25.trans sA
    refine ⟨_, rfl, p3, ld, P3, rfl, hp3, hldb.same sb28, fun H29 s29 => ⟨_, rfl, iteF (g1 _ _ ?_)⟩⟩
    clear g1
    have sB := sA.trans s29
    have hlo29 := sB _ _ hlo25
    have ha129 := ha125.same sB
    have ha229 := ha225.same sB
    have ha329 := ha325.same sB
    have ha429 := ha425.same sB
    have hln29 := hln25.same sB
    have sb29 := sb25.trans sB
    have hlf29 := hlfb.same sb29
    have hld29 := hldb.same sb29
    clear sA sB s26 s27 s28 s29 sb28 sb25 hlo25 ha125 ha225 ha325 ha425 hln25 hc0 hc1 hc0' nc0 nc1 np3 hp3 hw3
    -- the first one emptied
    obtain ⟨xs1, hx1⟩ := ha129.some
    refine seq_g fun R1 g1 => ?_
    refine ⟨_, rfl, lo, _, _, _, rfl, rfl, SqL.of hlo29, atI_nat (j := 0) rfl, .inl ⟨rfl, _, SqL.of hx1⟩, a1, _, rfl, rfl, hx1, g1 _ _ ?_⟩
    clear g1
    have hlo30 : (upd H29 a1 (.lst [])) lo = some (.lst ([a1, a2, a3, a4].map V.ref)) := by rw [upd_ne n1o.symm]; exact hlo29
    have ha230 := ha229.upd (ys := []) hx1 n12.symm
    have ha330 := ha329.upd (ys := []) hx1 n13.symm
    have ha430 := ha429.upd (ys := []) hx1 n14.symm
    have hln30 := hln29.upd (ys := []) hx1 nn1
    have hlf30 := hlf29.upd (ys := []) hx1 (hlfb.ne nab1)
    have hld30 := hld29.upd (ys := []) hx1 (hldb.ne nab1)
    generalize L2.upd H29 a1 (.lst []) = H30 at *
    refine ⟨_, rfl, _, rfl, lf, ld, P3, rfl, hlf30, hld30, fun H31 s31 => ⟨_, rfl, iteT ?_⟩⟩
    refine ⟨_, rfl, _, rfl, lo, _, rfl, SqL.of (s31 _ _ hlo30), fun l32 n32 => ?_⟩
    have ec : cutV ([a1, a2, a3, a4].map V.ref) (some 1) none = [a2, a3, a4].map V.ref := drop_cut ([a1, a2, a3, a4].map V.ref) 1
    try dsimp only
    rw [ec]
    have s32 := same_new (o := .lst ([a2, a3, a4].map V.ref)) n32
    have h32 : (upd H31 l32 (.lst ([a2, a3, a4].map V.ref))) l32 = some (.lst ([a2, a3, a4].map V.ref)) := upd_same
    generalize L2.upd H31 l32 (.lst ([a2, a3, a4].map V.ref)) = H32 at *
    have s3032 := s31.trans s32
    have ha232 := ha230.same s3032
    have ha332 := ha330.same s3032
    have ha432 := ha430.same s3032
    have hln32 := hln30.same s3032
    refine ⟨l32, rfl, ⟨_, SqL.of h32⟩, fun l33 n33 => ?_⟩
    refine none_kept (K := K) (as := [a2, a3, a4]) (ln := ln) (tt := ttNe K) n33 ?hcap2 h32 mono_ne (fun i b H' R hb sm hR => ?_) fun H33 s33 h33 => ?_
    case hcap2 => rfl
    · have hpb : PL H32 b Pa4 := by
        match i, hb with
        | 0, hb => cases hb; exact ha232
        | 1, hb => cases hb; exact ha332
        | 2, hb => cases hb; exact ha432
        | i + 3, hb => cases hb
      exact ⟨_, rfl, _, rfl, b, ln, rfl, rfl, pl_same (hpb.same sm) (hln32.same sm), _, rfl, hR H' (Same.refl _)⟩
    refine ⟨by decide, fun l34 n34 => ?_⟩
    have s34 := same_new (o := .lst []) n34
    have h34 : (upd H33 l34 (.lst [])) l34 = some (.lst (([] : List Int).map V.int)) := upd_same
    have h33' : (upd H33 l34 (.lst [])) l33 = some (.lst (([] : List Int).map V.int)) := s34 _ _ h33
    generalize L2.upd H33 l34 (.lst []) = H34 at *
    exact ⟨l33, l34, [], [], rfl, rfl, SqL.of h33', SqL.of h34, k _⟩
end
end K14

set_option Elab.async false
set_option linter.all false
set_option maxRecDepth 100000
set_option maxHeartbeats 8000000
namespace K14
open PySem L2 QQ
/-! ### what the top has written -/
theorem all_mk {l : PySem.W.OpenLaw} {w : World} {K : PySem.W.Frag} {h : Heap} {mg : Str → Option Value} {fa : Addr} (X : K.In h) (G : h.Ns mainGlobals mg) (hfa : mg "law" = some (.ref fa))
    {f1 : Addr} {od1 an1 : Option Addr} {sl1 : Array (Option Value)} {oc1 kV1 dc1 pm1 cd1 ct1 : Value}
    {f2 : Addr} {od2 an2 : Option Addr} {sl2 : Array (Option Value)} {oc2 kV2 dc2 pm2 cd2 ct2 : Value}
    {f3 : Addr} {od3 an3 : Option Addr} {sl3 : Array (Option Value)} {oc3 kV3 dc3 pm3 cd3 ct3 : Value}
    {f4 : Addr} {od4 an4 : Option Addr} {sl4 : Array (Option Value)} {oc4 kV4 dc4 pm4 cd4 ct4 : Value}
    {f5 : Addr} {od5 an5 : Option Addr} {sl5 : Array (Option Value)} {oc5 kV5 dc5 pm5 cd5 ct5 : Value}
    {f6 : Addr} {od6 an6 : Option Addr} {sl6 : Array (Option Value)} {oc6 kV6 dc6 pm6 cd6 ct6 : Value}
    {f7 : Addr} {od7 an7 : Option Addr} {sl7 : Array (Option Value)} {oc7 kV7 dc7 pm7 cd7 ct7 : Value}
    {f8 : Addr} {od8 an8 : Option Addr} {sl8 : Array (Option Value)} {oc8 kV8 dc8 pm8 cd8 ct8 : Value}
    {f9 : Addr} {od9 an9 : Option Addr} {sl9 : Array (Option Value)} {oc9 kV9 dc9 pm9 cd9 ct9 : Value}
    {f10 : Addr} {od10 an10 : Option Addr} {sl10 : Array (Option Value)} {oc10 kV10 dc10 pm10 cd10 ct10 : Value}
    {f11 : Addr} {od11 an11 : Option Addr} {sl11 : Array (Option Value)} {oc11 kV11 dc11 pm11 cd11 ct11 : Value}
    {f12 : Addr} {od12 an12 : Option Addr} {sl12 : Array (Option Value)} {oc12 kV12 dc12 pm12 cd12 ct12 : Value}
    {f13 : Addr} {od13 an13 : Option Addr} {sl13 : Array (Option Value)} {oc13 kV13 dc13 pm13 cd13 ct13 : Value}
    {f14 : Addr} {od14 an14 : Option Addr} {sl14 : Array (Option Value)} {oc14 kV14 dc14 pm14 cd14 ct14 : Value}
    {f15 : Addr} {od15 an15 : Option Addr} {sl15 : Array (Option Value)} {oc15 kV15 dc15 pm15 cd15 ct15 : Value}
    {f16 : Addr} {od16 an16 : Option Addr} {sl16 : Array (Option Value)} {oc16 kV16 dc16 pm16 cd16 ct16 : Value}
    {dT16 : Addr} {ocT16 : Value} {odT16 : Option Addr} {nT16 : Nat} {slT16 : Array (Option Value)}
    {t100 t101 t102 t103 : Tok}
    {fn0 : Addr} {odn0 ann0 : Option Addr} {sln0 : Array (Option Value)} {ocn0 kVn0 dcn0 pmn0 cdn0 ctn0 : Value}
    (an0 : PySem.W.nsIn K mainGlobals "is_number" = some (some (.ref fn0)))
    (ln0 : K.lookup fn0 = some ⟨ocn0, odn0, .func (PySem.W.fnOf "is_number" "is_number" (defArgs sIsNumb) (defBody sIsNumb) (defScope sIsNumb) .none kVn0 dcn0 pmn0 ann0 cdn0 ctn0), sln0⟩)
    (cn0 : PySem.W.codeIn K cdn0 "is_number" = true)
    (kn0 : PySem.W.keepIn K (.ref fn0) = true)
    (a1 : PySem.W.nsIn K mainGlobals "is_whole" = some (some (.ref f1)))
    (l1 : K.lookup f1 = some ⟨oc1, od1, .func (PySem.W.fnOf "is_whole" "is_whole" (defArgs sWhole) (defBody sWhole) (defScope sWhole) .none kV1 dc1 pm1 an1 cd1 ct1), sl1⟩)
    (c1 : PySem.W.codeIn K cd1 "is_whole" = true)
    (k1 : PySem.W.keepIn K (.ref f1) = true)
    (a2 : PySem.W.nsIn K mainGlobals "are_whole" = some (some (.ref f2)))
    (l2 : K.lookup f2 = some ⟨oc2, od2, .func (PySem.W.fnOf "are_whole" "are_whole" (defArgs sAreWhole) (defBody sAreWhole) (defScope sAreWhole) .none kV2 dc2 pm2 an2 cd2 ct2), sl2⟩)
    (c2 : PySem.W.codeIn K cd2 "are_whole" = true)
    (k2 : PySem.W.keepIn K (.ref f2) = true)
    (a3 : PySem.W.nsIn K mainGlobals "is_row" = some (some (.ref f3)))
    (l3 : K.lookup f3 = some ⟨oc3, od3, .func (PySem.W.fnOf "is_row" "is_row" (defArgs sIsRow) (defBody sIsRow) (defScope sIsRow) .none kV3 dc3 pm3 an3 cd3 ct3), sl3⟩)
    (c3 : PySem.W.codeIn K cd3 "is_row" = true)
    (k3 : PySem.W.keepIn K (.ref f3) = true)
    (a4 : PySem.W.nsIn K mainGlobals "need_row" = some (some (.ref f4)))
    (l4 : K.lookup f4 = some ⟨oc4, od4, .func (PySem.W.fnOf "need_row" "need_row" (defArgs sNeedRow) (defBody sNeedRow) (defScope sNeedRow) .none kV4 dc4 pm4 an4 cd4 ct4), sl4⟩)
    (c4 : PySem.W.codeIn K cd4 "need_row" = true)
    (k4 : PySem.W.keepIn K (.ref f4) = true)
    (a5 : PySem.W.nsIn K mainGlobals "need_window" = some (some (.ref f5)))
    (l5 : K.lookup f5 = some ⟨oc5, od5, .func (PySem.W.fnOf "need_window" "need_window" (defArgs sNeedWin) (defBody sNeedWin) (defScope sNeedWin) .none kV5 dc5 pm5 an5 cd5 ct5), sl5⟩)
    (c5 : PySem.W.codeIn K cd5 "need_window" = true)
    (k5 : PySem.W.keepIn K (.ref f5) = true)
    (a6 : PySem.W.nsIn K mainGlobals "alike_from" = some (some (.ref f6)))
    (l6 : K.lookup f6 = some ⟨oc6, od6, .func (PySem.W.fnOf "alike_from" "alike_from" (defArgs sAlike) (defBody sAlike) (defScope sAlike) .none kV6 dc6 pm6 an6 cd6 ct6), sl6⟩)
    (c6 : PySem.W.codeIn K cd6 "alike_from" = true)
    (k6 : PySem.W.keepIn K (.ref f6) = true)
    (a7 : PySem.W.nsIn K mainGlobals "longest_copy" = some (some (.ref f7)))
    (l7 : K.lookup f7 = some ⟨oc7, od7, .func (PySem.W.fnOf "longest_copy" "longest_copy" (defArgs sLongest) (defBody sLongest) (defScope sLongest) .none kV7 dc7 pm7 an7 cd7 ct7), sl7⟩)
    (c7 : PySem.W.codeIn K cd7 "longest_copy" = true)
    (k7 : PySem.W.keepIn K (.ref f7) = true)
    (a8 : PySem.W.nsIn K mainGlobals "_law_cell_at" = some (some (.ref f8)))
    (l8 : K.lookup f8 = some ⟨oc8, od8, .func (PySem.W.fnOf "_law_cell_at" "_law_cell_at" (defArgs sCellAt) (defBody sCellAt) (defScope sCellAt) .none kV8 dc8 pm8 an8 cd8 ct8), sl8⟩)
    (c8 : PySem.W.codeIn K cd8 "_law_cell_at" = true)
    (k8 : PySem.W.keepIn K (.ref f8) = true)
    (a9 : PySem.W.nsIn K mainGlobals "_law_mixed" = some (some (.ref f9)))
    (l9 : K.lookup f9 = some ⟨oc9, od9, .func (PySem.W.fnOf "_law_mixed" "_law_mixed" (defArgs sMixed) (defBody sMixed) (defScope sMixed) .none kV9 dc9 pm9 an9 cd9 ct9), sl9⟩)
    (c9 : PySem.W.codeIn K cd9 "_law_mixed" = true)
    (k9 : PySem.W.keepIn K (.ref f9) = true)
    (a10 : PySem.W.nsIn K mainGlobals "_law_signs" = some (some (.ref f10)))
    (l10 : K.lookup f10 = some ⟨oc10, od10, .func (PySem.W.fnOf "_law_signs" "_law_signs" (defArgs sSigns) (defBody sSigns) (defScope sSigns) .none kV10 dc10 pm10 an10 cd10 ct10), sl10⟩)
    (c10 : PySem.W.codeIn K cd10 "_law_signs" = true)
    (k10 : PySem.W.keepIn K (.ref f10) = true)
    (a11 : PySem.W.nsIn K mainGlobals "_law_drawn" = some (some (.ref f11)))
    (l11 : K.lookup f11 = some ⟨oc11, od11, .func (PySem.W.fnOf "_law_drawn" "_law_drawn" (defArgs sDrawn) (defBody sDrawn) (defScope sDrawn) .none kV11 dc11 pm11 an11 cd11 ct11), sl11⟩)
    (c11 : PySem.W.codeIn K cd11 "_law_drawn" = true)
    (k11 : PySem.W.keepIn K (.ref f11) = true)
    (a12 : PySem.W.nsIn K mainGlobals "_law_same" = some (some (.ref f12)))
    (l12 : K.lookup f12 = some ⟨oc12, od12, .func (PySem.W.fnOf "_law_same" "_law_same" (defArgs sSame) (defBody sSame) (defScope sSame) .none kV12 dc12 pm12 an12 cd12 ct12), sl12⟩)
    (c12 : PySem.W.codeIn K cd12 "_law_same" = true)
    (k12 : PySem.W.keepIn K (.ref f12) = true)
    (a13 : PySem.W.nsIn K mainGlobals "_law_size" = some (some (.ref f13)))
    (l13 : K.lookup f13 = some ⟨oc13, od13, .func (PySem.W.fnOf "_law_size" "_law_size" (defArgs sSize) (defBody sSize) (defScope sSize) .none kV13 dc13 pm13 an13 cd13 ct13), sl13⟩)
    (c13 : PySem.W.codeIn K cd13 "_law_size" = true)
    (k13 : PySem.W.keepIn K (.ref f13) = true)
    (a14 : PySem.W.nsIn K mainGlobals "_law_pieces" = some (some (.ref f14)))
    (l14 : K.lookup f14 = some ⟨oc14, od14, .func (PySem.W.fnOf "_law_pieces" "_law_pieces" (defArgs sLPieces) (defBody sLPieces) (defScope sLPieces) .none kV14 dc14 pm14 an14 cd14 ct14), sl14⟩)
    (c14 : PySem.W.codeIn K cd14 "_law_pieces" = true)
    (k14 : PySem.W.keepIn K (.ref f14) = true)
    (a15 : PySem.W.nsIn K mainGlobals "law" = some (some (.ref f15)))
    (l15 : K.lookup f15 = some ⟨oc15, od15, .func (PySem.W.fnOf "law" "law" (defArgs sLaw) (defBody sLaw) (defScope sLaw) .none kV15 dc15 pm15 an15 cd15 ct15), sl15⟩)
    (c15 : PySem.W.codeIn K cd15 "law" = true)
    (k15 : PySem.W.keepIn K (.ref f15) = true)
    (a16 : PySem.W.nsIn K mainGlobals "pieces_of" = some (some (.ref f16)))
    (l16 : K.lookup f16 = some ⟨oc16, od16, .func (PySem.W.fnOf "pieces_of" "pieces_of" (defArgs sPiecesOf) (defBody sPiecesOf) (defScope sPiecesOf) (.ref dT16) kV16 dc16 pm16 an16 cd16 ct16), sl16⟩)
    (c16 : PySem.W.codeIn K cd16 "pieces_of" = true)
    (k16 : PySem.W.keepIn K (.ref f16) = true)
    (t16 : K.lookup dT16 = some ⟨ocT16, odT16, .seq #[.none] nT16, slT16⟩)
    (z_isi : PySem.W.nsIn K mainGlobals "isinstance" = some none)
    (z_bool : PySem.W.nsIn K mainGlobals "bool" = some none)
    (z_int : PySem.W.nsIn K mainGlobals "int" = some none)
    (z_list : PySem.W.nsIn K mainGlobals "list" = some none)
    (z_tuple : PySem.W.nsIn K mainGlobals "tuple" = some none)
    (z_str : PySem.W.nsIn K mainGlobals "str" = some none)
    (z_len : PySem.W.nsIn K mainGlobals "len" = some none)
    (z_range : PySem.W.nsIn K mainGlobals "range" = some none)
    (z_min : PySem.W.nsIn K mainGlobals "min" = some none)
    (z_zip : PySem.W.nsIn K mainGlobals "zip" = some none)
    (gv0 : PySem.W.nsIn K mainGlobals "GREATEST" = some (some (.int 255 t100)))
    (gv1 : PySem.W.nsIn K mainGlobals "FARTHEST" = some (some (.int 255 t101)))
    (gv2 : PySem.W.nsIn K mainGlobals "LEAST_COPIED" = some (some (.int 3 t102)))
    (gv3 : PySem.W.nsIn K mainGlobals "MOST_COPIED" = some (some (.int 18 t103))) :
    ∃ fd : FuncData, (∀ (s : Shared) (v : Value), BindsTo s fd ⟨[v], []⟩ [("_law_script", v)]) ∧ ∀ base : Heap, K.In base → base.Ns mainGlobals mg → FnOk l.prog w K mg base CX0 37 fa fd ["_law_script"] (spLaw K) := by
  have e := hfa.symm.trans (PySem.W.mg_of X G a15)
  cases e
  have Fn0 := fun_mk (st := sIsNumb) ln0 cn0 kn0
  have bn0 := Fn0.binds (ps := ["thing"]) fun _ _ _ _ _ _ us hl => match us, hl with | [_], _ => rfl
  have F1 := fun_mk (st := sWhole) l1 c1 k1
  have b1 := F1.binds (ps := ["thing", "least", "most"]) fun _ _ _ _ _ _ us hl => match us, hl with | [_, _, _], _ => rfl
  have F2 := fun_mk (st := sAreWhole) l2 c2 k2
  have b2 := F2.binds (ps := ["thing", "least", "most"]) fun _ _ _ _ _ _ us hl => match us, hl with | [_, _, _], _ => rfl
  have F3 := fun_mk (st := sIsRow) l3 c3 k3
  have b3 := F3.binds (ps := ["thing"]) fun _ _ _ _ _ _ us hl => match us, hl with | [_], _ => rfl
  have F4 := fun_mk (st := sNeedRow) l4 c4 k4
  have b4 := F4.binds (ps := ["thing"]) fun _ _ _ _ _ _ us hl => match us, hl with | [_], _ => rfl
  have F5 := fun_mk (st := sNeedWin) l5 c5 k5
  have b5 := F5.binds (ps := ["before", "most"]) fun _ _ _ _ _ _ us hl => match us, hl with | [_, _], _ => rfl
  have F6 := fun_mk (st := sAlike) l6 c6 k6
  have b6 := F6.binds (ps := ["signs", "place", "back", "most"]) fun _ _ _ _ _ _ us hl => match us, hl with | [_, _, _, _], _ => rfl
  have F7 := fun_mk (st := sLongest) l7 c7 k7
  have b7 := F7.binds (ps := ["signs", "place"]) fun _ _ _ _ _ _ us hl => match us, hl with | [_, _], _ => rfl
  have F8 := fun_mk (st := sCellAt) l8 c8 k8
  have b8 := F8.binds (ps := ["_law_script", "_law_k"]) fun _ _ _ _ _ _ us hl => match us, hl with | [_, _], _ => rfl
  have F9 := fun_mk (st := sMixed) l9 c9 k9
  have b9 := F9.binds (ps := ["_law_cell", "_law_k"]) fun _ _ _ _ _ _ us hl => match us, hl with | [_, _], _ => rfl
  have F10 := fun_mk (st := sSigns) l10 c10 k10
  have b10 := F10.binds (ps := ["_law_script", "_law_first", "_law_size_here", "_law_kinds"]) fun _ _ _ _ _ _ us hl => match us, hl with | [_, _, _, _], _ => rfl
  have F11 := fun_mk (st := sDrawn) l11 c11 k11
  have b11 := F11.binds (ps := ["_law_script"]) fun _ _ _ _ _ _ us hl => match us, hl with | [_], _ => rfl
  have F12 := fun_mk (st := sSame) l12 c12 k12
  have b12 := F12.binds (ps := ["_law_found", "_law_due"]) fun _ _ _ _ _ _ us hl => match us, hl with | [_, _], _ => rfl
  have F13 := fun_mk (st := sSize) l13 c13 k13
  have b13 := F13.binds (ps := ["_law_signs_here", "_law_place", "_law_back"]) fun _ _ _ _ _ _ us hl => match us, hl with | [_, _, _], _ => rfl
  have F14 := fun_mk (st := sLPieces) l14 c14 k14
  have b14 := F14.binds (ps := ["_law_before", "_law_text"]) fun _ _ _ _ _ _ us hl => match us, hl with | [_, _], _ => rfl
  have F15 := fun_mk (st := sLaw) l15 c15 k15
  have F16 : FunD K "pieces_of" "pieces_of" sPiecesOf (.ref dT16) f16 _ := ⟨⟨oc16, od16, kV16, dc16, pm16, an16, cd16, ct16, sl16, rfl, l16, c16⟩, k16⟩
  have b16 : Binds K (PySem.W.fnOf "pieces_of" "pieces_of" (defArgs sPiecesOf) (defBody sPiecesOf) (defScope sPiecesOf) (.ref dT16) kV16 dc16 pm16 an16 cd16 ct16) ["text", "before"] [] := fun s us hX hl => match us, hl with | [_, _], _ => PySem.W.binds_K hX rfl t16 rfl rfl rfl
  have d16 : Binds K (PySem.W.fnOf "pieces_of" "pieces_of" (defArgs sPiecesOf) (defBody sPiecesOf) (defScope sPiecesOf) (.ref dT16) kV16 dc16 pm16 an16 cd16 ct16) ["text", "before"] [.none] := fun s us hX hl => match us, (show us.length = 1 by simpa using hl) with | [_], _ => PySem.W.binds_K hX rfl t16 rfl rfl rfl
  have T : Txt K mg := ⟨PySem.W.mg_none_of X G z_isi, PySem.W.mg_none_of X G z_bool, PySem.W.mg_none_of X G z_int, PySem.W.mg_none_of X G z_list, PySem.W.mg_none_of X G z_tuple, PySem.W.mg_none_of X G z_str, PySem.W.mg_none_of X G z_len, PySem.W.mg_none_of X G z_range, PySem.W.mg_none_of X G z_min, PySem.W.mg_none_of X G z_zip, ⟨t100, PySem.W.mg_of X G gv0⟩, ⟨t101, PySem.W.mg_of X G gv1⟩, ⟨t102, PySem.W.mg_of X G gv2⟩, ⟨t103, PySem.W.mg_of X G gv3⟩, ⟨_, _, Fn0, PySem.W.mg_of X G an0, bn0⟩⟩
  have R : Rows K mg := ⟨T, ⟨_, _, F1, PySem.W.mg_of X G a1, b1⟩, ⟨_, _, F2, PySem.W.mg_of X G a2, b2⟩, ⟨_, _, F3, PySem.W.mg_of X G a3, b3⟩⟩
  have Y : Wins K mg := ⟨R, ⟨_, _, F4, PySem.W.mg_of X G a4, b4⟩, ⟨_, _, F5, PySem.W.mg_of X G a5, b5⟩, ⟨_, _, F6, PySem.W.mg_of X G a6, b6⟩, ⟨_, _, F7, PySem.W.mg_of X G a7, b7⟩⟩
  have A : All K mg := ⟨Y, ⟨_, _, ⟨_, F16⟩, PySem.W.mg_of X G a16, b16, d16⟩, ⟨_, _, F8, PySem.W.mg_of X G a8, b8⟩, ⟨_, _, F9, PySem.W.mg_of X G a9, b9⟩, ⟨_, _, F10, PySem.W.mg_of X G a10, b10⟩, ⟨_, _, F11, PySem.W.mg_of X G a11, b11⟩, ⟨_, _, F12, PySem.W.mg_of X G a12, b12⟩, ⟨_, _, F13, PySem.W.mg_of X G a13, b13⟩, ⟨_, _, F14, PySem.W.mg_of X G a14, b14⟩⟩
  exact ⟨PySem.W.fnOf "law" "law" (defArgs sLaw) (defBody sLaw) (defScope sLaw) .none kV15 dc15 pm15 an15 cd15 ct15, fun s v => .of_eq rfl, fun base _ _ => ok_law F15 A⟩
theorem walk {l : PySem.W.OpenLaw} {q : Program} {loose : List Str} {XP : (Str → Option Value) → Heap → Prop} {YP : World → Heap → Prop} {d : DefRec} {K : Params → PySem.W.Frag} (hn : l.most = some 63) (hdf : d.params.defaults = [])
    (hY : ∀ (w : World) (h : Heap), YP w h → (K w.params).In h)
    (F : ∀ (w : World) (mg : Str → Option Value) (fa : Addr) (h : Heap), (K w.params).In h → h.Ns mainGlobals mg → mg d.name = some (.ref fa) →
      ∃ fd : FuncData, (∀ (s : Shared) (u : Value), BindsTo s fd ⟨[u], []⟩ [("_law_script", u)]) ∧ ∀ base : Heap, (K w.params).In base → base.Ns mainGlobals mg → FnOk l.prog w (K w.params) mg base CX0 37 fa fd ["_law_script"] (spLaw (K w.params))) :
    PySem.W.WalkO q loose XP YP l.row.toRowW d [] (fun f vs => PySem.call f vs) :=
  L2.walk_of (n := 63) (k := 37) (x := "_law_script") (CX := fun _ => CX0) (sp := fun w => spLaw (K w.params)) hn (by decide) hdf ⟨fun _ => rfl, by decide, by decide⟩ hY F (fun _ _ a ns hl _ hS => ⟨a, ns, rfl, hS, hl, fun _ => rfl⟩) fun _ _ _ _ _ z => z
end K14
open PySem PySem.W PyProof.Rows
set_option maxRecDepth 100000 in
set_option maxHeartbeats 0 in
theorem PySem.Challenge.cw_balepress_k14_pieces_holds : PySem.Challenge.rw_balepress_k14_pieces.Holds := by
  w_on; o_law; k_head; (case hw => w_witness2)
  k_fill
  refine K14.walk (l := PySem.Challenge.rw_balepress_k14_pieces) rfl rfl (fun w h Y => PySem.W.kIn_of Y) ?F
  case F =>
    intro w mg fa h KX G hmg
    refine' K14.all_mk KX G hmg ?an0 ?ln0 ?cn0 ?kn0 ?a1 ?l1 ?c1 ?k1 ?a2 ?l2 ?c2 ?k2 ?a3 ?l3 ?c3 ?k3 ?a4 ?l4 ?c4 ?k4 ?a5 ?l5 ?c5 ?k5 ?a6 ?l6 ?c6 ?k6 ?a7 ?l7 ?c7 ?k7 ?a8 ?l8 ?c8 ?k8 ?a9 ?l9 ?c9 ?k9 ?a10 ?l10 ?c10 ?k10 ?a11 ?l11 ?c11 ?k11 ?a12 ?l12 ?c12 ?k12 ?a13 ?l13 ?c13 ?k13 ?a14 ?l14 ?c14 ?k14 ?a15 ?l15 ?c15 ?k15 ?a16 ?l16 ?c16 ?k16 ?t16 ?z_isi ?z_bool ?z_int ?z_list ?z_tuple ?z_str ?z_len ?z_range ?z_min ?z_zip ?gv0 ?gv1 ?gv2 ?gv3
    (case an0 => k_is); (case ln0 => k_is); (case cn0 => k_is); (case kn0 => k_is)
    (case a1 => k_is); (case l1 => k_is); (case c1 => k_is); (case k1 => k_is); (case a2 => k_is); (case l2 => k_is)
    (case c2 => k_is); (case k2 => k_is); (case a3 => k_is); (case l3 => k_is); (case c3 => k_is); (case k3 => k_is)
    (case a4 => k_is); (case l4 => k_is); (case c4 => k_is); (case k4 => k_is); (case a5 => k_is); (case l5 => k_is)
    (case c5 => k_is); (case k5 => k_is); (case a6 => k_is); (case l6 => k_is); (case c6 => k_is); (case k6 => k_is)
    (case a7 => k_is); (case l7 => k_is); (case c7 => k_is); (case k7 => k_is); (case a8 => k_is); (case l8 => k_is)
    (case c8 => k_is); (case k8 => k_is); (case a9 => k_is); (case l9 => k_is); (case c9 => k_is); (case k9 => k_is)
    (case a10 => k_is); (case l10 => k_is); (case c10 => k_is); (case k10 => k_is); (case a11 => k_is); (case l11 => k_is)
    (case c11 => k_is); (case k11 => k_is); (case a12 => k_is); (case l12 => k_is); (case c12 => k_is); (case k12 => k_is)
    (case a13 => k_is); (case l13 => k_is); (case c13 => k_is); (case k13 => k_is); (case a14 => k_is); (case l14 => k_is)
    (case c14 => k_is); (case k14 => k_is); (case a15 => k_is); (case l15 => k_is); (case c15 => k_is); (case k15 => k_is)
    (case a16 => k_is); (case l16 => k_is); (case c16 => k_is); (case k16 => k_is); (case t16 => k_is); (case z_isi => k_is)
    (case z_bool => k_is); (case z_int => k_is); (case z_list => k_is); (case z_tuple => k_is); (case z_str => k_is); (case z_len => k_is)
    (case z_range => k_is); (case z_min => k_is); (case z_zip => k_is); (case gv0 => k_is); (case gv1 => k_is); (case gv2 => k_is)
    (case gv3 => k_is)

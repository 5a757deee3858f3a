import PyProof.Rows.All
import Wide.All
import OpenK.AllK
import Wide.FinOn
import Lean
import PyProof.EqAt
import PyProof.EqKinds
import PyProof.TupleCall
import PyProof.NeKinds
import PyProof.Rows.TupMore
import PyProof.AutoSeq1
import PyProof.ZipIter
import PyProof.Rows.StrRev
import PyProof.ConsumeWalk
import PyProof.Rows.SeqGen
import PyProof.StrWalks
import PyProof.StrBlock2
import PyProof.StrBlockI
import PyProof.StrLaws
import PyProof.SliceStr2
import PyProof.Rows.Range3
import PyProof.SeqI3
import PyProof.Rows.SortShellK
import PyProof.Rows.SortRev
import KE.KEqDict
import PyProof.FString
import PySem.Challenge.RW_balepress_k10_codes_read
set_option Elab.async false
set_option linter.all false
set_option maxRecDepth 100000
namespace QQ
open PySem PyProof.Rows
/-! ## iterators' ends where an error may be in hand: it has no error behind it -/
/-- no error in hand, or one that has none behind it -/
def Hq (A : Around) (h : Heap) : Prop := A.handled = none ∨ ∃ a o vs, A.handled = some (.ref a) ∧ h.get? a = some o ∧ o.data = .fields vs ∧ vs[2]? = some Value.none
theorem Hq.keep {A : Around} {h h' : Heap} (q : Hq A h) (k : ∀ a, A.handled = some (.ref a) → ∀ o, h.get? a = some o → h'.get? a = some o) : Hq A h' := by
  rcases q with q | ⟨a, o, vs, e, g, d, z⟩
  · exact .inl q
  · exact .inr ⟨a, o, vs, e, k a e o g, d, z⟩
theorem entry_unch : entryFor table "proto.unchain" = some Builtin.«proto.unchain» := entryFor_of_fast (by kernel_rfl)
section
variable {prog : Program} {w : World} {A : Around} {E : Value → Shared → Prop} {s : Shared}
/-- a new error is raised: the one in hand stands behind it then -/
theorem raise_quiet {α : Type} {e : Addr} {oe : Obj} {vs : Array Value} {Q : α → Shared → Prop} (hq : Hq A s.heap) (he : s.heap.get? e = some oe) (hd : oe.data = .fields vs) (hz : 2 < vs.size)
    (hne : A.handled ≠ some (.ref e))
    (h : ∀ h' o', h'.get? e = some o' → o'.cls = oe.cls → Heap.SameBut e s.heap h' → E (.ref e) { s with heap := h' }) : wpAny (model prog w) A (raiseNew (.ref e) : Sem α) Q E s := by
  unfold raiseNew
  refine wpAny_bind (wpAny_handled ?_)
  rcases hq with q | ⟨a, o, us, ea, ga, da, za⟩
  · rw [q]
    exact wpAny_bind (wpAny_pure (wpAny_throw (h s.heap oe he rfl (Heap.SameBut.refl ..))))
  · rw [ea]
    have ne : (Value.ref a != Value.ref e) = true := by
      have : a ≠ e := fun z => hne (by rw [ea, z])
      simp [bne, this]
    show wpAny _ _ (if (Value.ref a != Value.ref e) = true then _ else _) _ _ _
    rw [if_pos ne]
    refine wpAny_bind (wpAny_holding (wpAny_runValue (codeAny_builtin entry_unch ?_)))
    show wpAny _ _ (field (.ref a) 2 >>= _) _ _ s
    refine wpAny_bind (wpAny_field ga da za ?_)
    show wpAny _ _ (if (Value.none == Value.none) = true then _ else _) _ _ s
    rw [if_pos (by rfl)]
    refine wpAny_bind (wpAny_pure (wpAny_pure ?_))
    show wpAny _ _ (updateField e 2 (.ref a) >>= fun _ => throw (.ref e)) _ _ s
    refine wpAny_bind (wpAny_setField he hd hz ?_ : wpAny _ _ (setField (.ref e) 2 (.ref a)) _ _ s)
    refine wpAny_throw (h _ _ (Heap.get?_update_self _ he (Obj.isFreed_of_fields (Obj.data_mapFields hd _))) (Obj.cls_mapFields _ _) (Heap.SameBut.update ..))
/-- the end of an iterator: a StopIteration is made and raised, and it is told that it is over -/
theorem stop_quiet {α : Type} {E' : Value → Shared → Prop} {R : α → Shared → Prop} (hq : Hq A s.heap)
    (h : ∀ h' e, (∀ b o, s.heap.get? b = some o → h'.get? b = some o) → (∃ o, h'.get? e = some o ∧ o.cls = .type "StopIteration") → E' (.ref e) { s with heap := h' }) :
    wpAny (model prog w) A (newExc (.type "StopIteration") [] >>= fun v => (raiseNew v : Sem α)) R E' s := by
  refine wpAny_bind ?_
  simp only [newExc, newTuple]
  refine wpAny_bind (wpAny_newObj_type ?_ (by size_fits))
  refine wpAny_bind (m := firstArgMember _ _) (wpAny_of_eq (a := Value.none) (by first | rfl | (simp only [firstArgMember]; rfl)) ?_)
  refine wpAny_newObj_type ?_ (by size_fits)
  have k2 : ∀ b o, s.heap.get? b = some o → ((s.heap.push { cls := .type "tuple", data := .seq ([] : List Value).toArray }).push { cls := .type "StopIteration", data := .fields (#[.ref s.heap.objs.size, .none, .none, .none, .bool false, .none] ++ ownMembersOf (.type "StopIteration") []) }).get? b = some o :=
    fun b o e => Heap.get?_push_of_some _ (Heap.get?_push_of_some _ e)
  refine raise_quiet (hq.keep fun a _ o e => k2 a o e) (Heap.get?_push_size _ rfl) rfl (by simp [ownMembersOf]) ?_ fun h' o' ge ce sb => ?_
  · rcases hq with q | ⟨a, o, us, ea, ga, _⟩
    · rw [q]; intro z; cases z
    · rw [ea]
      intro z
      have e : a = (s.heap.push { cls := .type "tuple", data := .seq ([] : List Value).toArray }).objs.size := Value.ref.inj (Option.some.inj z)
      have := Heap.lt_size ga
      rw [e, Heap.size_push] at this
      exact absurd this (Nat.not_lt.mpr (Nat.le_succ _))
  · refine h h' _ (fun b o e => sb.extBut b o (fun z => ?_) (k2 b o e)) ⟨o', ge, ce⟩
    have := Heap.lt_size e
    rw [z, Heap.size_push] at this
    exact absurd this (Nat.not_lt.mpr (Nat.le_succ _))
theorem hq_not {A : Around} {h : Heap} {it : Addr} {o : Obj} {vs : Array Value} (q : Hq A h) (g : h.get? it = some o) (d : o.data = .fields vs) (z : vs[2]? ≠ some Value.none) : A.handled ≠ some (.ref it) := by
  rcases q with q | ⟨a, o', us, e, g', d', z'⟩
  · rw [q]; intro x; cases x
  · rw [e]
    intro x
    have e' : a = it := Value.ref.inj (Option.some.inj x)
    subst e'
    rw [g] at g'; cases g'
    rw [d] at d'; cases d'
    exact z z'
theorem list_end_q {it l : Addr} {i : Nat} {items} {Q : Option Value → Shared → Prop} (hq : Hq A s.heap)
    (hit : s.heap.IsListIter it l i) (hl : s.heap.IsList l items) (hx : items[i]? = none)
    (hQ : ∀ h', Heap.ExtBut it s.heap h' → Q none { s with heap := h' }) : wpAny (model prog w) A (pyNext (.ref it)) Q E s := by
  obtain ⟨o, ho, hc, hd⟩ := id hit
  obtain ⟨ol, hol, _, nl, hdl⟩ := hl
  have hn := hq_not hq ho hd (by simp)
  unfold pyNext
  refine wpAny_bind (wpAny_attempt (wpAny_callSpecial?_slot (name := Str.ofString "__next__") hit.typeIs slot_listiter_next (wpAny_call_entry slot_listiter_next hit.typeIs entry_listiter_next ?_ (args_listiter_next _))))
  show wpAny _ _ (field (.ref it) 0 >>= _) _ _ s
  refine wpAny_bind (wpAny_field ho hd (x := .ref l) rfl ?_)
  show wpAny _ _ (if (Value.ref l == Value.none) = true then _ else _) _ _ s
  rw [if_neg (show ¬ ((Value.ref l == Value.none) = true) from Bool.false_ne_true)]
  show wpAny _ _ (field (.ref it) 1 >>= _) _ _ s
  refine wpAny_bind (wpAny_field ho hd (x := .int i 0) rfl ?_)
  show wpAny _ _ (seqItems? (.ref l) >>= _) _ _ s
  refine wpAny_bind (wpAny_seqItems hol hdl ?_)
  simp only [Int.toNat_natCast, hx]
  refine wpAny_bind (wpAny_rule (wpAny_bind (wpAny_setField ho hd (by simp) ?_)))
  have sb1 := Heap.SameBut.update (h := s.heap) it (Obj.mapFields (·.setIfInBounds 0 Value.none))
  refine stop_quiet (A := A.in1) (hq.keep fun a ea o' e => sb1.extBut a o' (fun z => hn (by rw [ea, z])) e) fun h' e k ⟨o', ge, ce⟩ => ?_
  refine wpAny_bind (wpAny_isInstance (T := "StopIteration") (b := true) ⟨_, ge, ce⟩ isSubtype_stop ?_)
  exact wpAny_pure (hQ _ fun b ob hb e1 => k b ob (sb1.extBut b ob hb e1))
theorem tuple_end_q {it t : Addr} {i : Nat} {items} {Q : Option Value → Shared → Prop} (hq : Hq A s.heap)
    (hit : s.heap.IsTupleIter it t i) (ht : s.heap.IsTuple t items) (hx : items[i]? = none)
    (hQ : ∀ h', Heap.ExtBut it s.heap h' → Q none { s with heap := h' }) : wpAny (model prog w) A (pyNext (.ref it)) Q E s := by
  obtain ⟨o, ho, hc, hd⟩ := id hit
  obtain ⟨ol, hol, _, nl, hdl⟩ := ht
  have hn := hq_not hq ho hd (by simp)
  unfold pyNext
  refine wpAny_bind (wpAny_attempt (wpAny_callSpecial?_slot (name := Str.ofString "__next__") hit.typeIs F.slot_tuple_iterator_next (wpAny_call_entry F.slot_tuple_iterator_next hit.typeIs F.entry_tuple_iterator_next ?_ (F.args_tuple_iterator_next_1 _))))
  show wpAny _ _ (field (.ref it) 0 >>= _) _ _ s
  refine wpAny_bind (wpAny_field ho hd (x := .ref t) rfl ?_)
  show wpAny _ _ (if (Value.ref t == Value.none) = true then _ else _) _ _ s
  rw [if_neg (show ¬ ((Value.ref t == Value.none) = true) from Bool.false_ne_true)]
  show wpAny _ _ (field (.ref it) 1 >>= _) _ _ s
  refine wpAny_bind (wpAny_field ho hd (x := .int i 0) rfl ?_)
  show wpAny _ _ (seqItems? (.ref t) >>= _) _ _ s
  refine wpAny_bind (wpAny_seqItems hol hdl ?_)
  simp only [Int.toNat_natCast, hx]
  refine wpAny_bind (wpAny_rule (wpAny_bind (wpAny_setField ho hd (by simp) ?_)))
  have sb1 := Heap.SameBut.update (h := s.heap) it (Obj.mapFields (·.setIfInBounds 0 Value.none))
  refine stop_quiet (A := A.in1) (hq.keep fun a ea o' e => sb1.extBut a o' (fun z => hn (by rw [ea, z])) e) fun h' e k ⟨o', ge, ce⟩ => ?_
  refine wpAny_bind (wpAny_isInstance (T := "StopIteration") (b := true) ⟨_, ge, ce⟩ isSubtype_stop ?_)
  exact wpAny_pure (hQ _ fun b ob hb e1 => k b ob (sb1.extBut b ob hb e1))
theorem range_end_q {it : Addr} {x left step : Int} {Q : Option Value → Shared → Prop} (hq : Hq A s.heap) (hit : IsRangeIter s.heap it x left step) (hleft : left ≤ 0)
    (hQ : ∀ h', Heap.ExtBut it s.heap h' → Q none { s with heap := h' }) : wpAny (model prog w) A (pyNext (.ref it)) Q E s := by
  have hT : s.TypeIs (.ref it) "range_iterator" := ⟨_, hit, rfl⟩
  unfold pyNext
  refine wpAny_bind (wpAny_attempt (wpAny_callSpecial?_slot (name := Str.ofString "__next__") hT F.slot_range_iterator_next (wpAny_call_entry F.slot_range_iterator_next hT F.entry_range_iterator_next ?_ (F.args_range_iterator_next_1 _))))
  show wpAny _ _ (field (.ref it) 0 >>= _) _ _ s
  refine wpAny_bind (wpAny_field hit rfl (x := rawInt x) rfl ?_)
  show wpAny _ _ (field (.ref it) 1 >>= _) _ _ s
  refine wpAny_bind (wpAny_field hit rfl (x := rawInt left) rfl ?_)
  show wpAny _ _ (field (.ref it) 2 >>= _) _ _ s
  refine wpAny_bind (wpAny_field hit rfl (x := rawInt step) rfl ?_)
  show wpAny _ _ (if left ≤ 0 then _ else _) _ _ s
  rw [if_pos hleft]
  refine wpAny_bind (wpAny_rule (wpAny_bind ?_))
  refine stop_quiet (A := A.in1) hq fun h' e k ⟨o', ge, ce⟩ => ?_
  refine wpAny_bind (wpAny_isInstance (T := "StopIteration") (b := true) ⟨_, ge, ce⟩ isSubtype_stop ?_)
  exact wpAny_pure (hQ _ fun b ob hb e1 => k b ob e1)
/-- a tuple taken apart -/
theorem unpackItems_q {t : Addr} {items : Array Value} {Q : List Value → Shared → Prop} (hq : Hq A s.heap) (ht : IsTup s.heap t items)
    (hQ : ∀ h', Heap.ExtBut s.heap.objs.size s.heap h' → Q items.toList { s with heap := h' }) : wpAny (model prog w) A (unpackItems (.ref t) items.size none) Q E s := by
  have nt : t ≠ s.heap.objs.size := by obtain ⟨o, ho, _⟩ := ht; exact Nat.ne_of_lt (Heap.lt_size ho)
  unfold unpackItems
  refine wpAny_bind ?_
  unfold notIterableAtAll
  refine wpAny_bind (wpAny_specialOf ht.typeIs slot_tuple_iter.lookup (wpAny_pure ?_))
  simp only [Bool.false_eq_true, if_false]
  refine wpAny_bind (wpAny_holding (iter_tuple ht (wpAny_bind (wpAny_holding (draw_tuple nt items.size 0 _ _ ⟨_, Heap.get?_push_size _ rfl, rfl, rfl⟩ (ht.push _) (by omega) fun g1 i1 b1 => ?_)))))
  rw [show List.take items.size (List.drop 0 items.toList) = items.toList by rw [List.drop_zero]; exact List.take_of_length_le (by simp), if_neg (by simp)]
  have k1 : ∀ b o, b ≠ s.heap.objs.size → s.heap.get? b = some o → g1.get? b = some o := fun b o hb e => b1.extBut b o hb (Heap.get?_push_of_some _ e)
  have q1 : Hq A g1 := hq.keep fun a _ o e => k1 a o (Nat.ne_of_lt (Heap.lt_size e)) e
  have t1 : IsTup g1 t items := (ht.push _).extBut b1.extBut nt
  refine wpAny_bind (wpAny_holding (tuple_end_q (s := { s with heap := g1 }) q1 (show g1.IsTupleIter _ t _ from i1) (show g1.IsTuple t items from t1) (by simp) fun g2 x2 => ?_))
  simp only [Option.isSome_none, Bool.false_eq_true, if_false]
  exact wpAny_pure (hQ g2 fun b o hb e => x2 b o hb (k1 b o hb e))
theorem assign_Tuple_q {env : Env} {elts : List Expr} {x1} {pos : Pos} {t : Addr} {items : Array Value} {Q : Unit → Shared → Prop} (hq : Hq A s.heap) (ht : IsTup s.heap t items)
    (hn : (assignEach elts env).length = items.size) (hstar : (assignEach elts env).findIdx? (·.1) = none)
    (h : ∀ h', Heap.ExtBut s.heap.objs.size s.heap h' → wpAny (model prog w) A (assignInOrder ((assignEach elts env).map (·.2)) items.toList) Q E { s with heap := h' }) :
    wpAny (model prog w) A (assign (.Tuple elts x1 pos) env (.ref t)) Q E s := by
  rw [assign_Tuple]
  refine wpAny_bind (wpAny_standAt ?_)
  unfold unpack
  rw [hn, hstar]
  exact wpAny_bind (wpAny_holding (unpackItems_q hq ht h))
end
end QQ

set_option Elab.async false
set_option linter.all false
set_option maxRecDepth 100000
namespace QQ
open PySem PyProof.Rows
/-! ## an error on its way: its object, its record of places, what changes -/
def exO (cls : Value) (vs : Array Value) : Obj := { cls := cls, data := .fields vs }
/-- an error of the class at e; fp: the objects that change as it goes -/
def Fly (h : Heap) (e : Addr) (cls : Value) (fp : List Addr) : Prop :=
  ∃ vs, h.get? e = some (exO cls vs) ∧ vs[2]? = some Value.none ∧ ((vs[1]? = some Value.none ∧ fp = [e]) ∨
    ∃ T oT ts, vs[1]? = some (.ref T) ∧ T ≠ e ∧ h.get? T = some oT ∧ oT.data = .fields ts ∧ ts[3]? = some Value.none ∧ fp = [e, T])
theorem Fly.here {h : Heap} {e : Addr} {cls : Value} {fp : List Addr} (F : Fly h e cls fp) : e ∈ fp := by
  obtain ⟨vs, _, _, ⟨_, r⟩ | ⟨T, oT, ts, _, _, _, _, _, r⟩⟩ := F <;> simp [r]
theorem Fly.keep {h h' : Heap} {e : Addr} {cls : Value} {fp : List Addr} (F : Fly h e cls fp) (k : ∀ b ∈ fp, ∀ o, h.get? b = some o → h'.get? b = some o) : Fly h' e cls fp := by
  obtain ⟨vs, g, z, ⟨a, r⟩ | ⟨T, oT, ts, a, ne, gT, dT, zT, r⟩⟩ := F
  · exact ⟨vs, k e (by simp [r]) _ g, z, .inl ⟨a, r⟩⟩
  · exact ⟨vs, k e (by simp [r]) _ g, z, .inr ⟨T, oT, ts, a, ne, k T (by simp [r]) _ gT, dT, zT, r⟩⟩
/-- what stands at fp: records -/
theorem Fly.rec {h : Heap} {e : Addr} {cls : Value} {fp : List Addr} (F : Fly h e cls fp) : ∀ b ∈ fp, ∃ o vs, h.get? b = some o ∧ o.data = .fields vs := by
  obtain ⟨vs, g, z, ⟨a, r⟩ | ⟨T, oT, ts, a, ne, gT, dT, zT, r⟩⟩ := F
  · intro b hb
    rw [r, List.mem_singleton] at hb
    subst hb
    exact ⟨_, vs, g, rfl⟩
  · intro b hb
    rw [r] at hb
    rcases List.mem_cons.mp hb with hb | hb
    · subst hb; exact ⟨_, vs, g, rfl⟩
    · rw [List.mem_singleton] at hb
      subst hb
      exact ⟨oT, ts, gT, dT⟩
theorem Fly.made {h h' : Heap} {e : Addr} {cls : Value} {args : List Value} (m : Heap.MadeExcOf h h' e cls args) : Fly h' e cls [e] := by
  obtain ⟨t, ht, _⟩ := m.there
  exact ⟨_, ht, rfl, .inl ⟨rfl, rfl⟩⟩
section
variable {M : Model} {A : Around} {E : Value → Shared → Prop} {s : Shared}
theorem land_core {base : Heap} {env : Env} {outer : List Env} {L e : Addr} {cls head : Value} {vs : Array Value} {had : Bool} {Q : Unit → Shared → Prop}
    (hfr : A.frames = some (env :: outer)) (hl : s.heap.FunFrames base (env :: outer)) (hf : env.frame = some L)
    (he : s.heap.get? e = some (exO cls vs)) (h1 : 1 < vs.size) (h2 : vs[2]? = some Value.none)
    (h : ∀ h' T, Fly h' e cls [e, T] → s.heap.objs.size ≤ T → (∀ b o, s.heap.get? b = some o → b ≠ e → b ∉ (env :: outer).filterMap (·.frame) → h'.get? b = some o) →
      (∀ b o, s.heap.get? b = some o → b ≠ e → ∃ sl, h'.get? b = some { o with slots := sl }) → Q () { s with heap := h' }) :
    wpAny M A (do let a ← frameOf env; let pl ← entryPlaceOf L had; let b ← EntryCells.newEntry head a .none (rawInt L) .none pl; setField (.ref e) 1 b) (fun _ s' => wpAny M A (setFlight (.ref e) none) Q E s') E s := by
  have ne : e ∉ (env :: outer).filterMap (·.frame) := fun hm => by
    obtain ⟨_, o, ho, hnf⟩ := hl.mem hm
    rw [he] at ho; cases ho
    exact hnf vs rfl
  refine wpAny_bind (wpAny_frameOf_fun hfr hl hf fun g1 s1 => ?_)
  refine wpAny_bind (wpAny_entryPlaceOf fun pl hpl => ?_)
  unfold EntryCells.newEntry newFields
  refine wpAny_bind (wpAny_newObj_type ?_ (hpl.sizeOk5 _ _ _ _ _))
  have hsz : g1.objs.size = s.heap.objs.size := s1.1
  have he1 : g1.get? e = some (exO cls vs) := (s1.2.1 e ne).trans he
  generalize hO : ({ cls := .type "traceback", dict := none, data := .fields ([head, .ref L, .none, rawInt L, .none] ++ (if pl.isEmpty then List.replicate 6 Value.none else pl)).toArray } : Obj) = oT
  have e3 : ∃ ts, oT.data = .fields ts ∧ 3 < ts.size := ⟨_, by rw [← hO], by simp only [List.size_toArray, List.length_append, List.length_cons, List.length_nil]; omega⟩
  have hfreed : oT.isFreed = false := by rw [← hO]; rfl
  clear hO
  obtain ⟨ts, hts, hz3⟩ := e3
  have he2 : (g1.push oT).get? e = some (exO cls vs) := Heap.get?_push_of_some _ he1
  have hT2 : (g1.push oT).get? g1.objs.size = some oT := Heap.get?_push_size g1 hfreed
  have hTe : g1.objs.size ≠ e := Nat.ne_of_gt (Heap.lt_size he1)
  refine wpAny_setField he2 rfl h1 ?_
  have he3 := Heap.get?_update_self (Obj.mapFields (·.setIfInBounds 1 (Value.ref g1.objs.size))) he2 rfl
  have hT3 := (Heap.get?_update_other (g1.push oT) (Obj.mapFields (·.setIfInBounds 1 (Value.ref g1.objs.size))) (Ne.symm hTe)).trans hT2
  have he3' : ((g1.push oT).update e (Obj.mapFields (·.setIfInBounds 1 (Value.ref g1.objs.size)))).get? e = some (exO cls (vs.setIfInBounds 1 (Value.ref g1.objs.size))) := he3
  unfold setFlight
  refine wpAny_bind (wpAny_field he3' rfl (x := .ref g1.objs.size) (by simp [h1]) ?_)
  rw [if_pos (show (Value.ref g1.objs.size != Value.none) = true from by simp)]
  refine wpAny_setField hT3 hts hz3 ?_
  have keep : ∀ b o, b ≠ e → g1.get? b = some o → (((g1.push oT).update e (Obj.mapFields (·.setIfInBounds 1 (Value.ref g1.objs.size)))).update g1.objs.size (Obj.mapFields (·.setIfInBounds 3 ((none : Option Addr).elim Value.none fun f => rawInt f)))).get? b = some o := fun b o hb q => by
    rw [Heap.get?_update_other _ _ (Nat.ne_of_gt (Heap.lt_size q)), Heap.get?_update_other _ _ (Ne.symm hb)]
    exact Heap.get?_push_of_some _ q
  refine h _ g1.objs.size ⟨vs.setIfInBounds 1 (Value.ref g1.objs.size), ?_, ?_, .inr ⟨g1.objs.size, _, _, ?_, hTe, Heap.get?_update_self _ hT3 (Obj.isFreed_of_fields (Obj.data_mapFields hts _)), Obj.data_mapFields hts _, ?_, rfl⟩⟩ (Nat.le_of_eq hsz.symm) (fun b o q hb hn => ?_) fun b o q hb => ?_
  · rw [Heap.get?_update_other _ _ hTe]; exact he3'
  · rw [Array.getElem?_setIfInBounds_ne (by decide)]; exact h2
  · simp [h1]
  · simp [hz3]
  · exact keep b o hb ((s1.2.1 b hn).trans q)
  · obtain ⟨sl, e'⟩ := s1.2.2 b o q
    exact ⟨sl, keep b _ hb e'⟩
/-- an error is noted in the frame and lands there -/
theorem land {base : Heap} {env : Env} {outer : List Env} {L e : Addr} {cls : Value} {fp : List Addr} {Q : Unit → Shared → Prop}
    (hfr : A.frames = some (env :: outer)) (hl : s.heap.FunFrames base (env :: outer)) (hf : env.frame = some L) (F : Fly s.heap e cls fp)
    (h : ∀ h' T, Fly h' e cls [e, T] → s.heap.objs.size ≤ T → (∀ b o, s.heap.get? b = some o → b ∉ fp → b ∉ (env :: outer).filterMap (·.frame) → h'.get? b = some o) →
      (∀ b o, s.heap.get? b = some o → b ∉ fp → ∃ sl, h'.get? b = some { o with slots := sl }) → (∀ b o, s.heap.get? b = some o → ∃ o', h'.get? b = some o') → Q () { s with heap := h' }) :
    wpAny M A (noteFrame (.ref e) env) (fun _ s' => wpAny M A (setFlight (.ref e) none) Q E s') E s := by
  obtain ⟨vs, he, h2, ⟨h1, r⟩ | ⟨T, oT, ts, h1, ne, gT, dT, zT, r⟩⟩ := F
  · subst r
    unfold noteFrame
    simp only [hf]
    refine wpAny_bind (wpAny_field he rfl h1 ?_)
    rw [if_neg (by decide)]
    refine land_core hfr hl hf he (Array.getElem?_eq_some_iff.mp h1).1 h2 fun h' T' f1 f2 f3 f4 => h h' T' f1 f2 (fun b o q hb hn => f3 b o q (fun z => hb (by simp [z])) hn) (fun b o q hb => f4 b o q fun z => hb (by simp [z])) fun b o q => ?_
    by_cases hb : b = e
    · obtain ⟨vs', g', _⟩ := f1
      subst hb
      exact ⟨_, g'⟩
    · obtain ⟨sl, e'⟩ := f4 b o q hb
      exact ⟨_, e'⟩
  · subst r
    unfold noteFrame
    simp only [hf]
    refine wpAny_bind (wpAny_field he rfl h1 ?_)
    rw [if_pos (show (Value.ref T != Value.none) = true from by simp)]
    refine wpAny_bind (wpAny_field gT dT zT ?_)
    rw [if_neg (show ¬ ((Value.none == rawInt L) = true) from by simp [rawInt])]
    refine wpAny_bind (wpAny_setField gT dT (Array.getElem?_eq_some_iff.mp zT).1 ?_)
    have oth : ∀ b, b ≠ T → (s.heap.update T (Obj.mapFields (·.setIfInBounds 3 Value.none))).get? b = s.heap.get? b := fun b hb => Heap.get?_update_other _ _ (Ne.symm hb)
    have gT' := Heap.get?_update_self (Obj.mapFields (·.setIfInBounds 3 Value.none)) gT (Obj.isFreed_of_fields (Obj.data_mapFields dT _))
    have nT : ∀ b o, s.heap.get? b = some o → (∀ us, o.data ≠ .fields us) → b ≠ T := fun b o q nf z => by
      rw [z, gT] at q; cases q; exact nf ts dT
    have sz : (s.heap.update T (Obj.mapFields (·.setIfInBounds 3 Value.none))).objs.size = s.heap.objs.size := Heap.size_after_update ..
    refine land_core hfr (hl.of_keeps fun b o q nf => ⟨o, (oth b (nT b o q nf)).trans q, rfl⟩) hf ((oth e (Ne.symm ne)).trans he) (Array.getElem?_eq_some_iff.mp h1).1 h2
      fun h' T' f1 f2 f3 f4 => h h' T' f1 (by rw [sz] at f2; exact f2) (fun b o q hb hn => ?_) (fun b o q hb => ?_) fun b o q => ?_
    · have b1 : b ≠ e := fun z => hb (by simp [z])
      have b2 : b ≠ T := fun z => hb (by simp [z])
      exact f3 b o ((oth b b2).trans q) b1 hn
    · have b1 : b ≠ e := fun z => hb (by simp [z])
      have b2 : b ≠ T := fun z => hb (by simp [z])
      exact f4 b o ((oth b b2).trans q) b1
    · by_cases hb : b = e
      · obtain ⟨vs', g', _⟩ := f1
        subst hb
        exact ⟨_, g'⟩
      · by_cases hT : b = T
        · subst hT
          obtain ⟨sl, e'⟩ := f4 b _ gT' hb
          exact ⟨_, e'⟩
        · obtain ⟨sl, e'⟩ := f4 b o ((oth b hT).trans q) hb
          exact ⟨_, e'⟩
/-- it is told again that it landed -/
theorem land_again {e : Addr} {cls : Value} {T : Addr} {Q : Unit → Shared → Prop} (F : Fly s.heap e cls [e, T])
    (h : ∀ h', Fly h' e cls [e, T] → (∀ b o, s.heap.get? b = some o → b ≠ T → h'.get? b = some o) → Q () { s with heap := h' }) : wpAny M A (setFlight (.ref e) none) Q E s := by
  obtain ⟨vs, he, h2, ⟨h1, r⟩ | ⟨T', oT, ts, h1, ne, gT, dT, zT, r⟩⟩ := F
  · cases r
  · cases r
    unfold setFlight
    refine wpAny_bind (wpAny_field he rfl h1 ?_)
    rw [if_pos (show (Value.ref T != Value.none) = true from by simp)]
    have z3 := (Array.getElem?_eq_some_iff.mp zT).1
    refine wpAny_setField gT dT z3 (h _ ⟨vs, ?_, h2, .inr ⟨T, _, _, h1, ne, Heap.get?_update_self _ gT (Obj.isFreed_of_fields (Obj.data_mapFields dT _)), Obj.data_mapFields dT _, by simp [z3], rfl⟩⟩ fun b o q hb => ?_)
    · rw [Heap.get?_update_other _ _ ne]; exact he
    · rw [Heap.get?_update_other _ _ (Ne.symm hb)]; exact q
end
end QQ

set_option Elab.async false
set_option linter.all false
set_option maxRecDepth 100000
/-! THE HAND LAYER, for ints, bools, texts, own classes, LISTS and tuples (index, slices, in, append, pop ..), calls, loops. Paste it whole ahead of your own text; what your proof does not reach may be deleted. -/
namespace L2
open PySem PySem.Spec PyProof.Rows

/-- a key: an int or a str -/
abbrev Key := Sum Int Str
def keyIs : Key → Value → Bool
  | .inl k, v => Value.isInt k v
  | .inr x, v => Value.isStrOf x v
def keyH (w : World) : Key → Int
  | .inl k => hashInt k
  | .inr x => hashStr w x
theorem keyIs_shape : ∀ {k : Key} {v : Value}, keyIs k v = true → (∃ i t, k = Sum.inl i ∧ v = Value.int i t) ∨ (∃ x t, k = Sum.inr x ∧ v = Value.str x t)
  | .inl i, v, h => by
    obtain ⟨t, e⟩ := Value.isInt_shape (k := i) (v := v) h
    exact .inl ⟨i, t, rfl, e⟩
  | .inr x, v, h => by
    obtain ⟨t, e⟩ := Value.isStrOf_shape (x := x) (v := v) h
    exact .inr ⟨x, t, rfl, e⟩
theorem keyIs_int (i : Int) (t : Tok) : keyIs (.inl i) (.int i t) = true := by simp [keyIs, Value.isInt]
theorem keyIs_str (x : Str) (t : Tok) : keyIs (.inr x) (.str x t) = true := by simp [keyIs, Value.isStrOf]
theorem key_ll (a b : Int) : decide ((Sum.inl a : Key) = Sum.inl b) = (a == b) := by
  by_cases e : a = b
  · subst e; simp
  · have h : ¬ (Sum.inl a : Key) = Sum.inl b := fun q => e (Sum.inl.inj q)
    rw [decide_eq_false h]
    exact (beq_eq_false_iff_ne.mpr e).symm
theorem key_rr (a b : Str) : decide ((Sum.inr a : Key) = Sum.inr b) = decide (a = b) := by
  by_cases e : a = b
  · subst e; simp
  · have h : ¬ (Sum.inr a : Key) = Sum.inr b := fun q => e (Sum.inr.inj q)
    rw [decide_eq_false h, decide_eq_false e]
theorem key_lr (a : Int) (b : Str) : decide ((Sum.inl a : Key) = Sum.inr b) = false := decide_eq_false (fun q => nomatch q)
theorem key_rl (a : Str) (b : Int) : decide ((Sum.inr a : Key) = Sum.inl b) = false := decide_eq_false (fun q => nomatch q)

def mixKind (prog : Program) (w : World) : PySem.KeyKind prog w Key where
  is := keyIs
  hash := keyH w
  inj := fun v a b ha hb => by
    rcases keyIs_shape ha with ⟨i, t, rfl, rfl⟩ | ⟨x, t, rfl, rfl⟩
    · rcases keyIs_shape hb with ⟨j, u, rfl, e⟩ | ⟨y, u, rfl, e⟩
      · injection e with e1 _; rw [e1]
      · exact nomatch e
    · rcases keyIs_shape hb with ⟨j, u, rfl, e⟩ | ⟨y, u, rfl, e⟩
      · exact nomatch e
      · injection e with e1 _; rw [e1]
  byValue := fun k v h => by
    rcases keyIs_shape h with ⟨i, t, rfl, rfl⟩ | ⟨x, t, rfl, rfl⟩ <;> rfl
  pyHash := fun hv h => by
    rcases keyIs_shape hv with ⟨i, t, rfl, rfl⟩ | ⟨x, t, rfl, rfl⟩
    · exact wpAny_pyHash_int h
    · exact wpAny_pyHash_str h
  eqBool := fun hu hv h => by
    rcases keyIs_shape hu with ⟨i, t, rfl, rfl⟩ | ⟨x, t, rfl, rfl⟩
    · rcases keyIs_shape hv with ⟨j, u, rfl, rfl⟩ | ⟨y, u, rfl, rfl⟩
      · rw [key_ll] at h; exact wpAny_eqBool_int h
      · rw [key_lr] at h; exact SeqAt.EqAt.int_str i t y u _ _ _ _ h
    · rcases keyIs_shape hv with ⟨j, u, rfl, rfl⟩ | ⟨y, u, rfl, rfl⟩
      · rw [key_rl] at h; exact SeqAt.EqAt.str_int x t j u _ _ _ _ h
      · rw [key_rr] at h; exact wpAny_eqBool_str h
  «strs» := fun k x t v h => by
    rcases keyIs_shape h with ⟨i, u, rfl, e⟩ | ⟨y, u, rfl, e⟩
    · exact nomatch e
    · injection e with e1 _
      subst e1
      cases v <;> rfl

theorem mixKind_int (prog : Program) (w : World) (i : Int) (t : Tok) : (mixKind prog w).is (.inl i) (.int i t) = true := keyIs_int i t
theorem mixKind_str (prog : Program) (w : World) (x : Str) (t : Tok) : (mixKind prog w).is (.inr x) (.str x t) = true := keyIs_str x t
end L2

namespace L2
open PySem PySem.Spec PyProof.Rows

/-- a value, without the heap -/
inductive V where
  | non | bl (b : Bool) | int (i : Int) | str (x : Str) | byt (b : Array UInt8) | flt (b : UInt64) | ref (a : Addr) | ty (n : String)
  deriving DecidableEq

def RelV : V → Value → Prop
  | .non, u => u = Value.none
  | .bl b, u => u = Value.bool b
  | .int i, u => ∃ t, u = Value.int i t
  | .str x, u => ∃ t, u = Value.str x t
  | .byt b, u => ∃ t, u = Value.bytes b t
  | .flt b, u => ∃ t, u = Value.float b t
  | .ref a, u => u = Value.ref a
  | .ty n, u => u = Value.type n

abbrev Vals : List V → List Value → Prop := Paired RelV
theorem Vals.length {xs : List V} {us : List Value} (r : Vals xs us) : xs.length = us.length := Paired.length r
theorem Vals.get : ∀ {xs : List V} {us : List Value} {i : Nat} {x : V}, Vals xs us → xs[i]? = some x → ∃ u, us[i]? = some u ∧ RelV x u
  | _, _, _, _, .nil, e => by simp at e
  | _, _, 0, _, .cons r _, e => by simp at e; subst e; exact ⟨_, rfl, r⟩
  | _, _, i + 1, x, .cons _ t, e => by
    obtain ⟨u, h1, h2⟩ := Vals.get (i := i) (x := x) t (by simpa using e)
    exact ⟨u, by simpa using h1, h2⟩
theorem Vals.set {x : V} {u : Value} (r : RelV x u) : ∀ {xs : List V} {us : List Value} (i : Nat), Vals xs us → Vals (xs.set i x) (us.set i u)
  | _, _, _, .nil => .nil
  | _, _, 0, .cons _ t => .cons r t
  | _, _, i + 1, .cons q t => .cons q (Vals.set r i t)
theorem Vals.append : ∀ {xs ys : List V} {us ws : List Value}, Vals xs us → Vals ys ws → Vals (xs ++ ys) (us ++ ws)
  | _, _, _, _, .nil, s => s
  | _, _, _, _, .cons r t, s => .cons r (Vals.append t s)
theorem Vals.take : ∀ {xs : List V} {us : List Value} (n : Nat), Vals xs us → Vals (xs.take n) (us.take n)
  | _, _, 0, _ => .nil
  | _, _, _ + 1, .nil => .nil
  | _, _, n + 1, .cons r t => .cons r (Vals.take n t)
theorem Vals.drop : ∀ {xs : List V} {us : List Value} (n : Nat), Vals xs us → Vals (xs.drop n) (us.drop n)
  | _, _, 0, r => r
  | _, _, _ + 1, .nil => .nil
  | _, _, n + 1, .cons _ t => Vals.drop n t
theorem Vals.none_of : ∀ {xs : List V} {us : List Value} {i : Nat}, Vals xs us → xs[i]? = none → us[i]? = none := fun {xs us i} r e => by
  have h1 := r.length
  have h2 : xs.length ≤ i := List.getElem?_eq_none_iff.mp e
  exact List.getElem?_eq_none_iff.mpr (by omega)

def RelO : Option V → Option Value → Prop
  | some v, some u => RelV v u
  | none, none => True
  | _, _ => False
def KV {κ : Type} : List (κ × V) → List (κ × Value) → Prop := Paired fun (p : κ × V) (q : κ × Value) => p.1 = q.1 ∧ RelV p.2 q.2

/-- a key of a dict (00_mix): an int or a text -/
def kV : Key → V
  | .inl i => .int i
  | .inr x => .str x

/-- what stands at a tracked address -/
inductive HO where
  /-- a list -/
  | lst (xs : List V)
  /-- a tuple (never changes) -/
  | tup (xs : List V)
  /-- a dict whose keys are ints and texts; one whose keys are tuples of ints and texts (the empty one is both) -/
  | dK (kvs : List (Key × V)) | dT (kvs : List (List Key × V))
  /-- a set of ints: its members, its size -/
  | set (S : Int → Bool) (n : Nat)
  /-- an instance of the class at C, its dict at dx, its attributes -/
  | ins (C dx : Addr) (fs : List (Str × V))
  /-- the dict of the instance at x -/
  | own (x : Addr)
  /-- the dict of an exception -/
  | xd (fs : List (Str × V))
  /-- a bound method, f of x -/
  | met (f x : Addr)
  /-- a range object lo, lo + 1, .. below hi -/
  | rng (lo hi : Int)
  /-- a thing that is known to the object (the script; a dict while a loop walks it): read, never written while it is so -/
  | frz (o : Obj) (u : HO)
  /-- a code object's table -/
  | tbl (ps : Array Value)
  /-- any other thing, by what is true of its one object (a def of one's own: SetO a S n := HO.ext fun h => ..) -/
  | ext (φ : Heap → Prop)

abbrev Hp := Addr → Option HO
def upd (H : Hp) (a : Addr) (o : HO) : Hp := fun b => if b = a then some o else H b
theorem upd_same {H : Hp} {a : Addr} {o : HO} : upd H a o a = some o := by unfold upd; rw [if_pos rfl]
theorem upd_ne {H : Hp} {a b : Addr} {o : HO} (h : b ≠ a) : upd H a o b = H b := by unfold upd; rw [if_neg h]
/-- two objects of different content stand apart -/
theorem ne_of {H : Hp} {a b : Addr} {o u : HO} (h : H a = some o) (h' : H b = some u) (d : o ≠ u) : a ≠ b := by
  intro e; subst e; rw [h] at h'; exact d (Option.some.inj h')
theorem ne_of_none {H : Hp} {a b : Addr} {o : HO} (h : H a = some o) (h' : H b = none) : a ≠ b := by
  intro e; subst e; rw [h] at h'; cases h'

section
variable (P : Program) (w : World)
def ObjOk (H : Hp) (h : Heap) (a : Addr) : HO → Prop
  | .lst xs => xs.length ≤ sizeLine ∧ ∃ (its : List Value) (n : Nat), Vals xs its ∧ h.get? a = some { cls := .type "list", data := .seq its.toArray n }
  | .tup xs => xs.length ≤ sizeLine ∧ ∃ its : List Value, Vals xs its ∧ IsTup h a its.toArray
  | .dK kvs => kvs.length ≤ sizeLine ∧ (a == sysModules) = false ∧ ∃ vs, KV kvs vs ∧ h.DictOf (mixKind P w) a vs
  | .dT kvs => kvs.length ≤ sizeLine ∧ (a == sysModules) = false ∧ ∃ xs : List (List Key × Addr × Value),
      Paired (fun (p : List Key × V) (q : List Key × Addr × Value) => p.1 = q.1 ∧ H q.2.1 = some (.tup (p.1.map kV)) ∧ RelV p.2 q.2.2) kvs xs ∧
      ∃ o es ep, h.get? a = some o ∧ o.ExactDict ∧ o.data = .dict es ep ∧ es.toList = xs.map (entryOfKey (tupleKind (mixKind P w))) ∧ (xs.map (·.1)).Nodup
  | .set S n => h.SetOf (intKind P w) a S n
  | .ins C dx fs => H dx = some (.own a) ∧ fs.length ≤ 1000 ∧ dx ≠ a ∧ h.get? a = some (PySem.W.instObj C dx) ∧
      ∃ mA, h.Ns1 dx mA ∧ (∀ f, RelO (fs.lookup f) (mA f)) ∧ PySem.Within mA (fs.map (·.1))
  | .own _ => ∃ o, h.get? a = some o
  | .xd fs => ∃ mA, h.Ns1 a mA ∧ ∀ f, RelO (fs.lookup f) (mA f)
  | .rng lo hi => ∃ t u v, h.get? a = some { cls := .type "range", data := .fields #[.int lo t, .int hi u, .int 1 v] }
  | .frz o u => h.get? a = some o ∧ ObjOk H h a u
  | .tbl ps => h.get? a = some { cls := .none, data := .fields ps }
  | .met f x => h.get? a = some (PySem.W.methodObj (.ref f) (.ref x))
  | .ext φ => φ h ∧ (∃ o, h.get? a = some o) ∧ ∀ h1 h2 : Heap, φ h1 → (∀ o, h1.get? a = some o → h2.get? a = some o) → φ h2
/-- the abstract heap is held -/
def HOk (H : Hp) (h : Heap) : Prop := ∀ a o, H a = some o → ObjOk P w H h a o
end

section
variable {P : Program} {w : World} {H H' : Hp} {h h' : Heap} {a : Addr} {o : HO}
theorem ObjOk.lt (x : ObjOk P w H h a o) : a < h.objs.size := by
  cases o with
  | lst xs => obtain ⟨_, _, _, _, e⟩ := x; exact Heap.lt_size e
  | tup xs => obtain ⟨_, _, _, p⟩ := x; exact p.lt
  | dK kvs => obtain ⟨_, _, _, _, o, _, _, e, _⟩ := x; exact Heap.lt_size e
  | dT kvs => obtain ⟨_, _, _, _, o, _, _, e, _⟩ := x; exact Heap.lt_size e
  | set S n => obtain ⟨o, _, _, _, e, _⟩ := x; exact Heap.lt_size e
  | ins C dx fs => obtain ⟨_, _, _, e, _⟩ := x; exact Heap.lt_size e
  | own y => obtain ⟨_, e⟩ := x; exact Heap.lt_size e
  | xd fs => obtain ⟨_, ⟨_, _, _, e, _⟩, _⟩ := x; exact Heap.lt_size e
  | rng lo hi => obtain ⟨_, _, _, e⟩ := x; exact Heap.lt_size e
  | frz ob u => obtain ⟨e, _⟩ := x; exact Heap.lt_size e
  | tbl ps => exact Heap.lt_size (show h.get? a = some _ from x)
  | met f y => exact Heap.lt_size (show h.get? a = some _ from x)
  | ext φ => obtain ⟨_, ⟨_, e⟩, _⟩ := x; exact Heap.lt_size e
theorem Paired.mapP {α β : Type} {F G : α → β → Prop} : ∀ {l₁ : List α} {l₂ : List β}, Paired F l₁ l₂ → (∀ a b, F a b → G a b) → Paired G l₁ l₂
  | _, _, .nil, _ => .nil
  | _, _, .cons r t, f => .cons (f _ _ r) (Paired.mapP t f)
/-- what an object's description leans on: its own object, its own dict, the tuples -/
theorem ObjOk.stay (x : ObjOk P w H h a o) (k : ∀ b u, (b = a ∨ H b = some (.own a)) → h.get? b = some u → h'.get? b = some u)
    (ho : ∀ b, H b = some (.own a) → H' b = some (.own a)) (ht : ∀ b xs, H b = some (.tup xs) → H' b = some (.tup xs)) : ObjOk P w H' h' a o := by
  induction o with
  | lst xs => obtain ⟨z, its, n, r, e⟩ := x; exact ⟨z, its, n, r, k _ _ (.inl rfl) e⟩
  | tup xs => obtain ⟨z, its, r, ob, e, c⟩ := x; exact ⟨z, its, r, ob, k _ _ (.inl rfl) e, c⟩
  | dK kvs => obtain ⟨z, y, vs, r, ob, es, ep, e, c⟩ := x; exact ⟨z, y, vs, r, ob, es, ep, k _ _ (.inl rfl) e, c⟩
  | dT kvs =>
    obtain ⟨z, y, xs, r, ob, es, ep, e, c⟩ := x
    exact ⟨z, y, xs, Paired.mapP r fun p q z => ⟨z.1, ht _ _ z.2.1, z.2.2⟩, ob, es, ep, k _ _ (.inl rfl) e, c⟩
  | set S n => obtain ⟨ob, es, ep, t, e, c⟩ := x; exact ⟨ob, es, ep, t, k _ _ (.inl rfl) e, c⟩
  | ins C dx fs =>
    obtain ⟨d, z, ne, e, mA, ⟨od, es, ep, e2, c⟩, r⟩ := x
    exact ⟨ho _ d, z, ne, k _ _ (.inl rfl) e, mA, ⟨od, es, ep, k _ _ (.inr d) e2, c⟩, r⟩
  | own y => obtain ⟨ob, e⟩ := x; exact ⟨ob, k _ _ (.inl rfl) e⟩
  | xd fs => obtain ⟨mA, ⟨od, es, ep, e, c⟩, r⟩ := x; exact ⟨mA, ⟨od, es, ep, k _ _ (.inl rfl) e, c⟩, r⟩
  | rng lo hi => obtain ⟨t, u, v, e⟩ := x; exact ⟨t, u, v, k _ _ (.inl rfl) e⟩
  | frz ob u ih => obtain ⟨e, q⟩ := x; exact ⟨k _ _ (.inl rfl) e, ih q⟩
  | tbl ps =>
    have e : h.get? a = some { cls := .none, data := .fields ps } := x
    show h'.get? a = some { cls := .none, data := .fields ps }
    exact k a _ (.inl rfl) e
  | met f y =>
    have e : h.get? a = some (PySem.W.methodObj (.ref f) (.ref y)) := x
    show h'.get? a = some (PySem.W.methodObj (.ref f) (.ref y))
    exact k a _ (.inl rfl) e
  | ext φ => obtain ⟨p, ⟨o, e⟩, st⟩ := x; exact ⟨st _ _ p fun o q => k _ _ (.inl rfl) q, ⟨o, k _ _ (.inl rfl) e⟩, st⟩
theorem HOk.lt (x : HOk P w H h) (e : H a = some o) : a < h.objs.size := (x a o e).lt
theorem HOk.fresh (x : HOk P w H h) (e : h.objs.size ≤ a) : H a = none := by
  cases q : H a with
  | none => rfl
  | some u => exact absurd (Nat.lt_of_lt_of_le (x.lt q) e) (Nat.lt_irrefl _)
/-- every object of the heap is kept -/
theorem HOk.kept (x : HOk P w H h) (k : ∀ b u, h.get? b = some u → h'.get? b = some u) : HOk P w H h' := fun a o e =>
  (x a o e).stay (fun b u _ q => k b u q) (fun _ q => q) fun _ _ q => q
/-- a new object is laid and tracked -/
theorem HOk.laid (x : HOk P w H h) (k : ∀ b u, h.get? b = some u → h'.get? b = some u) (hp : h.objs.size ≤ a) (new : ObjOk P w (upd H a o) h' a o) : HOk P w (upd H a o) h' := fun b u e => by
  have hn := x.fresh hp
  by_cases hb : b = a
  · subst hb; rw [upd_same] at e; cases e; exact new
  · rw [upd_ne hb] at e
    exact (x b u e).stay (fun c v _ q => k c v q) (fun c q => by rw [upd_ne (ne_of_none q hn)]; exact q) fun c xs q => by rw [upd_ne (ne_of_none q hn)]; exact q
end

/-- what may be read as u: it is u, or a known u -/
def Rd (H : Hp) (a : Addr) (u : HO) : Prop := H a = some u ∨ ∃ o, H a = some (.frz o u)
theorem Rd.of {H : Hp} {a : Addr} {u : HO} (h : H a = some u) : Rd H a u := .inl h
theorem Rd.ok {P : Program} {w : World} {H : Hp} {h : Heap} {a : Addr} {u : HO} (r : Rd H a u) (x : HOk P w H h) : ObjOk P w H h a u := by
  rcases r with r | ⟨o, r⟩
  · exact x a u r
  · obtain ⟨_, q⟩ := x a _ r
    exact q
/-- what may be written -/
def Mut : Option HO → Prop
  | some (.lst _) => True
  | some (.dK _) => True
  | some (.dT _) => True
  | some (.set _ _) => True
  | some (.ins _ _ _) => True
  | some (.ext _) => True
  | _ => False
section
variable {P : Program} {w : World} {H : Hp} {h h' : Heap} {x e : Addr} {o' : HO}
/-- the object at e is changed: x itself, or the dict of the instance x -/
theorem HOk.write (ok : HOk P w H h) (mu : Mut (H x)) (he : e = x ∨ H e = some (.own x)) (k : ∀ b u, b ≠ e → h.get? b = some u → h'.get? b = some u) (heo : ∃ u, h'.get? e = some u)
    (new : ObjOk P w (upd H x o') h' x o') : HOk P w (upd H x o') h' := fun b u q => by
  have nown : ∀ c y, H c = some (.own y) → c ≠ x := fun c y r z => by subst z; rw [r] at mu; exact mu
  have ntup : ∀ c xs, H c = some (.tup xs) → c ≠ x := fun c xs r z => by subst z; rw [r] at mu; exact mu
  by_cases hb : b = x
  · subst hb; rw [upd_same] at q; cases q; exact new
  · rw [upd_ne hb] at q
    by_cases hbe : b = e
    · have q' : H b = some (.own x) := by
        rcases he with z | z
        · exact absurd (hbe.trans z) hb
        · rw [hbe]; exact z
      rw [q] at q'; cases q'
      obtain ⟨v, hv⟩ := heo
      exact ⟨v, by rw [hbe]; exact hv⟩
    · refine (ok b u q).stay (fun c v hc r => k c v ?_ r) (fun c r => by rw [upd_ne (nown c b r)]; exact r) fun c xs r => by rw [upd_ne (ntup c xs r)]; exact r
      rcases hc with rfl | hc
      · exact hbe
      · rintro rfl
        rcases he with z | z
        · exact nown c b hc z
        · rw [hc] at z; cases z; exact hb rfl
end

/-! ### kept unless tracked; of the frames at fs (the callers') the slots may change (an exception that passes writes there); of the records at ex (iterators) nothing is said -/
structure Un (fs ex : List Addr) (H H' : Hp) (h h' : Heap) : Prop where
  keep : ∀ b o, h.get? b = some o → H b = none → b ∉ fs → b ∉ ex → h'.get? b = some o
  slot : ∀ b o, h.get? b = some o → H b = none → b ∈ fs → b ∉ ex → ∃ sl, h'.get? b = some { o with slots := sl }
  free : ∀ b o, h.get? b = some o → H b = none → b ∉ ex → H' b = none
  there : ∀ b o, h.get? b = some o → b ∉ ex → ∃ o', h'.get? b = some o'
  tups : ∀ b xs, H b = some (.tup xs) → H' b = some (.tup xs)
  frzs : ∀ b o u, H b = some (.frz o u) → H' b = some (.frz o u)
  tbls : ∀ b ps, H b = some (.tbl ps) → ∃ more, H' b = some (.tbl (ps ++ more))
section
variable {fs fs' ex ex' : List Addr} {H H1 H2 : Hp} {h h1 h2 h' : Heap} {a x e : Addr} {o : HO}
theorem Un.any (u : Un fs ex H H1 h h1) {b : Addr} {ob : Obj} (q : h.get? b = some ob) (n : H b = none) (hx : b ∉ ex) : ∃ sl, h1.get? b = some { ob with slots := sl } := by
  by_cases hb : b ∈ fs
  · exact u.slot b ob q n hb hx
  · exact ⟨ob.slots, u.keep b ob q n hb hx⟩
theorem Un.trans (a : Un fs ex H H1 h h1) (b : Un fs ex H1 H2 h1 h2) : Un fs ex H H2 h h2 where
  keep := fun c ob q n hc hx => b.keep c ob (a.keep c ob q n hc hx) (a.free c ob q n hx) hc hx
  slot := fun c ob q n hc hx => by
    obtain ⟨sl, e1⟩ := a.slot c ob q n hc hx
    obtain ⟨sl', e2⟩ := b.slot c _ e1 (a.free c ob q n hx) hc hx
    exact ⟨sl', e2⟩
  free := fun c ob q n hx => by
    obtain ⟨o', e1⟩ := a.there c ob q hx
    exact b.free c o' e1 (a.free c ob q n hx) hx
  there := fun c ob q hx => by
    obtain ⟨o', e1⟩ := a.there c ob q hx
    exact b.there c o' e1 hx
  tups := fun c xs q => b.tups c xs (a.tups c xs q)
  frzs := fun c ob xs q => b.frzs c ob xs (a.frzs c ob xs q)
  tbls := fun c ps q => by
    obtain ⟨m1, e1⟩ := a.tbls c ps q
    obtain ⟨m2, e2⟩ := b.tbls c _ e1
    exact ⟨m1 ++ m2, by rw [e2, Array.append_assoc]⟩
theorem Un.kept (k : ∀ b u, h.get? b = some u → h'.get? b = some u) : Un fs ex H H h h' :=
  ⟨fun b ob q _ _ _ => k b ob q, fun b ob q _ _ _ => ⟨ob.slots, k b ob q⟩, fun _ _ _ n _ => n, fun b ob q _ => ⟨ob, k b ob q⟩, fun _ _ q => q, fun _ _ _ q => q, fun _ ps q => ⟨#[], by rw [q]; simp⟩⟩
theorem Un.refl : Un fs ex H H h h := Un.kept fun _ _ q => q
theorem Un.laid (k : ∀ b u, h.get? b = some u → h'.get? b = some u) (hp : h.objs.size ≤ a) (hn : H a = none) : Un fs ex H (upd H a o) h h' where
  keep := fun b u q _ _ _ => k b u q
  slot := fun b u q _ _ _ => ⟨u.slots, k b u q⟩
  free := fun b u q n _ => by rw [upd_ne (Nat.ne_of_lt (Nat.lt_of_lt_of_le (Heap.lt_size q) hp))]; exact n
  there := fun b u q _ => ⟨u, k b u q⟩
  tups := fun b xs q => by rw [upd_ne (ne_of_none q hn)]; exact q
  frzs := fun b u xs q => by rw [upd_ne (ne_of_none q hn)]; exact q
  tbls := fun b ps q => ⟨#[], by rw [upd_ne (ne_of_none q hn), q]; simp⟩
theorem Un.write (mu : Mut (H x)) (he : e = x ∨ H e = some (.own x)) (k : ∀ b u, b ≠ e → h.get? b = some u → h'.get? b = some u) (heo : ∃ u, h'.get? e = some u) : Un fs ex H (upd H x o) h h' := by
  have hx : ∀ b, H b = none → b ≠ x := fun b n z => by subst z; rw [n] at mu; exact mu
  have hb : ∀ b, H b = none → b ≠ e := fun b n z => by
    subst z
    rcases he with r | r
    · exact hx b n r
    · rw [n] at r; cases r
  have hm : ∀ b u, H b = some u → ¬ Mut (some u) → b ≠ x := fun b u q nm z => by subst z; rw [q] at mu; exact nm mu
  refine ⟨fun b u q n _ _ => k b u (hb b n) q, fun b u q n _ _ => ⟨u.slots, k b u (hb b n) q⟩, fun b u q n _ => by rw [upd_ne (hx b n)]; exact n, fun b u q _ => ?_,
    fun b xs q => by rw [upd_ne (hm b _ q fun z => z)]; exact q, fun b u xs q => by rw [upd_ne (hm b _ q fun z => z)]; exact q, fun b ps q => ⟨#[], by rw [upd_ne (hm b _ q fun z => z), q]; simp⟩⟩
  by_cases hbe : b = e
  · subst hbe; exact heo
  · exact ⟨u, k b u hbe q⟩
theorem Un.mono (u : Un fs ex H H1 h h1) (hs : ∀ b ∈ fs, b ∈ fs') (hx : ∀ b ∈ ex, b ∈ ex') : Un fs' ex' H H1 h h1 :=
  ⟨fun b ob q n hb he => u.keep b ob q n (fun z => hb (hs b z)) fun z => he (hx b z), fun _ _ q n _ he => u.any q n fun z => he (hx _ z), fun b ob q n he => u.free b ob q n fun z => he (hx b z), fun b ob q he => u.there b ob q fun z => he (hx b z), u.tups, u.frzs, u.tbls⟩
end

/-! ### the heap without what is tracked -/
def trk (h : Heap) (H : Hp) : List Addr := (List.range h.objs.size).filter fun a => (H a).isSome
def hidT (h : Heap) (H : Hp) : Heap := PySem.W.hideAll h (trk h H)
theorem hidT_size (h : Heap) (H : Hp) : (hidT h H).objs.size = h.objs.size := PySem.W.hideAll_size _ _
theorem hidT_get {h : Heap} {H : Hp} {b : Addr} {o : Obj} (e : h.get? b = some o) (n : H b = none) : (hidT h H).get? b = some o :=
  PySem.W.hideAll_get _ e fun hm => by
    have q : (H b).isSome = true := (List.mem_filter.mp hm).2
    rw [n] at q; simp at q
theorem of_hidT {h : Heap} {H : Hp} {b : Addr} {o : Obj} (e : (hidT h H).get? b = some o) : h.get? b = some o ∧ H b = none := by
  have e' : h.get? b = some o := PySem.W.of_hideAll (trk h H) e
  refine ⟨e', ?_⟩
  cases q : H b with
  | none => rfl
  | some x =>
    have hm : b ∈ trk h H := List.mem_filter.mpr ⟨List.mem_range.mpr (Heap.lt_size e'), by simp [q]⟩
    have z : (hidT h H).get? b = none := PySem.W.hideAll_none (trk h H) hm
    rw [z] at e; cases e

/-! ### OpenK's ledger, filled with every new object but one -/
def allNews (g h : Heap) (L : Addr) : List (Addr × Obj) := (List.range h.objs.size).filterMap fun a => if a = L ∨ (g.get? a).isSome = true then none else (h.get? a).map fun o => (a, o)
def rest (g h : Heap) (L d : Addr) : List (Addr × Obj) := (allNews g h L).filter fun p => decide (p.1 ≠ d)
end L2

namespace L2
open PySem PySem.Spec PyProof.Rows

/-- the module's facts, over the base: the heap at the law's entry without what is tracked there -/
structure Mod (K : PySem.W.Frag) (mg : Str → Option Value) (base : Heap) : Prop where
  kin : K.In base
  glob : base.Ns mainGlobals mg
  blt : ∃ mb, base.Ns builtinsNs mb ∧ ∀ x : Str, x ≠ "__name__" → mb x = bootBuiltins x
  nolimit : base.NoLimit

/-- the context: a def's body (or a comprehension's block) running. base: fixed through the whole law; s₀, H₀: the entry; outer: the frames whose slots others may change (a def's callers); stack: all frames that run;
   ex: iterators that were made ahead of the entry and are walked here (a comprehension's); fn: the names whose cells were made at the entry (a def: all; a comprehension's block: its own); calm: not within an except suite; pn: pins that every state bears; xe: what is wanted of an exception that leaves the code -/
structure Cx where
  prog : Program
  w : World
  K : PySem.W.Frag
  mg : Str → Option Value
  base : Heap
  A : Around
  N : List Str
  s₀ : Shared
  H₀ : Hp
  env : Env
  outer : List Env
  stack : List Env
  ex : List Addr
  fn : Str → Bool
  calm : Bool
  pn : List (Addr × Obj)
  xe : Value → Shared → Prop
/-- an error in hand is known, and none stands behind it -/
def Qt (A : Around) (H : Hp) : Prop := A.handled = none ∨ ∃ a o vs, A.handled = some (.ref a) ∧ H a = some (.frz o (.own a)) ∧ o.data = .fields vs ∧ vs[2]? = some Value.none
/-- the callers' frames -/
def frs (l : List Env) : List Addr := l.filterMap (·.frame)
abbrev Cx.fs (X : Cx) : List Addr := frs X.outer

def Vis (sc : Scope) (x : Str) : Prop := sc.names.lookup x = some .local ∨ sc.names.lookup x = some .cell ∨ sc.names.lookup x = some .free
def Loc (sc : Scope) (x : Str) : Prop := sc.names.lookup x = some .local ∨ sc.names.lookup x = some .cell
def Look (env : Env) (h : Heap) (m : Str → Option Value) (x : Str) (u : Value) : Prop :=
  (env.kindOf x = some .local ∧ m x = some u) ∨ ((env.kindOf x = some .cell ∨ env.kindOf x = some .free) ∧ ∃ c, env.cells.lookup x = some c ∧ h.IsCell c (some u))

structure Cx.Ok (X : Cx) : Prop where
  mod : Mod X.K X.mg X.base
  kind : X.env.scope.kind = .function
  glob : X.env.globals = mainGlobals
  blt : X.env.builtins = builtinsNs
  above : X.s₀.heap.objs.size ≤ X.env.locals
  inj : ∀ x y c, X.env.cells.lookup x = some c → X.env.cells.lookup y = some c → x = y
  has : ∀ x, (X.env.kindOf x = some .cell ∨ X.env.kindOf x = some .free) → ∃ c, X.env.cells.lookup x = some c
  cab : ∀ x c, X.fn x = true → X.env.cells.lookup x = some c → X.s₀.heap.objs.size ≤ c
  hd : Qt X.A X.H₀
  frames : X.A.frames = some X.stack
  stk : X.stack = X.outer ∨ (X.stack = X.env :: X.outer ∧ X.env.frame = some X.env.locals)
  exf : ∀ b ∈ X.ex, b ≠ X.env.locals ∧ ∀ x c, X.env.cells.lookup x = some c → c ≠ b
  bs : ∀ b o, X.base.get? b = some o → X.s₀.heap.get? b = some o ∧ X.H₀ b = none
  bsz : X.base.objs.size ≤ X.s₀.heap.objs.size
  noex : ∀ b o, X.base.get? b = some o → b ∉ X.ex
  exfs : ∀ b ∈ X.ex, b ∉ X.fs
  funs : X.s₀.heap.FunFrames X.base X.outer
  frf : ∀ b ∈ X.fs, X.H₀ b = none

structure Inv (X : Cx) (pins : List (Addr × Obj)) (σ : List (Option V)) (H : Hp) (s : Shared) : Prop where
  ok : X.Ok
  os : s.os = X.s₀.os
  bare : AllBare s.gens
  base : Un X.fs X.ex X.H₀ H X.s₀.heap s.heap
  loc : ∃ m, s.heap.Ns X.env.locals m ∧ ∀ (i : Nat) (x : Str) (v : V), X.N[i]? = some x → σ[i]? = some (some v) → Vis X.env.scope x → ∃ u, RelV v u ∧ Look X.env s.heap m x u
  cell : ∀ x c, X.env.cells.lookup x = some c → ∃ v, s.heap.IsCell c v
  free : H X.env.locals = none
  freeC : ∀ x c, X.env.cells.lookup x = some c → H c = none
  pin : ∀ p ∈ X.pn ++ pins, s.heap.get? p.1 = some p.2 ∧ H p.1 = none ∧ p.1 ≠ X.env.locals ∧ p.1 ∉ X.fs ∧ ∀ v, p.2.data ≠ .cell v
  hok : HOk X.prog X.w H s.heap
  len : σ.length = X.N.length

section
variable {X : Cx} {pins : List (Addr × Obj)} {σ : List (Option V)} {H H' : Hp} {s : Shared} {h' : Heap}

theorem Cx.Ok.nofr (ok : X.Ok) {b : Addr} {o : Obj} (e : X.base.get? b = some o) : b ∉ X.fs := fun hb => by
  have := (ok.funs.mem hb).1
  rw [e] at this; cases this
theorem Inv.bs (I : Inv X pins σ H s) : ∀ b o, X.base.get? b = some o → s.heap.get? b = some o ∧ H b = none := fun b o e =>
  ⟨I.base.keep b o (I.ok.bs b o e).1 (I.ok.bs b o e).2 (I.ok.nofr e) (I.ok.noex b o e), I.base.free b o (I.ok.bs b o e).1 (I.ok.bs b o e).2 (I.ok.noex b o e)⟩
theorem Inv.bk (I : Inv X pins σ H s) : ∀ b o, X.base.get? b = some o → s.heap.get? b = some o := fun b o e => (I.bs b o e).1
theorem Inv.mod (I : Inv X pins σ H s) : Mod X.K X.mg X.base := I.ok.mod
theorem Inv.qt (I : Inv X pins σ H s) : Qt X.A H := by
  rcases I.ok.hd with q | ⟨a, o, vs, e, f, r⟩
  · exact .inl q
  · exact .inr ⟨a, o, vs, e, I.base.frzs _ _ _ f, r⟩
theorem Inv.hq (I : Inv X pins σ H s) : QQ.Hq X.A s.heap := by
  rcases I.qt with q | ⟨a, o, vs, e, f, r⟩
  · exact .inl q
  · obtain ⟨g, _⟩ := I.hok a _ f
    exact .inr ⟨a, o, vs, e, g, r⟩
theorem Inv.kIn (I : Inv X pins σ H s) : X.K.In s.heap := I.ok.mod.kin.keeps I.bk
theorem Inv.nolimit (I : Inv X pins σ H s) : s.heap.NoLimit := I.ok.mod.nolimit.keeps I.bk
/-- the frame over the base: for OpenK's rules (K.In X.base is I.mod.kin) -/
theorem Inv.fr (I : Inv X pins σ H s) : ∃ m, Fr X.base X.env.locals s.heap m :=
  let ⟨m, hn, _⟩ := I.loc
  ⟨m, hn, I.bk, Nat.le_trans I.ok.bsz I.ok.above⟩
theorem Inv.lt (I : Inv X pins σ H s) : X.env.locals < s.heap.objs.size := let ⟨_, hn, _⟩ := I.loc; hn.lt
theorem Inv.sz (I : Inv X pins σ H s) : X.s₀.heap.objs.size ≤ s.heap.objs.size := Nat.le_trans I.ok.above (Nat.le_of_lt I.lt)
theorem Inv.nofs (I : Inv X pins σ H s) {a : Addr} (h : s.heap.objs.size ≤ a) : a ∉ X.fs := fun hb => by
  obtain ⟨_, o, ho, _⟩ := I.ok.funs.mem hb
  exact absurd (Nat.lt_of_lt_of_le (Heap.lt_size ho) (Nat.le_trans I.sz h)) (Nat.lt_irrefl _)
theorem Inv.cne (I : Inv X pins σ H s) : ∀ x c, X.env.cells.lookup x = some c → c ≠ X.env.locals := fun x c e z => by
  obtain ⟨v, o, ho, hd⟩ := I.cell x c e
  obtain ⟨m, ⟨o', es, ep, ho', hd', _⟩, _⟩ := I.loc
  rw [z, ho'] at ho; cases ho; rw [hd'] at hd; cases hd
theorem Inv.funs (I : Inv X pins σ H s) : s.heap.FunFrames X.base X.outer := by
  have all : ∀ (l : List Env), (∀ b ∈ frs l, b ∈ X.fs) → X.s₀.heap.FunFrames X.base l → s.heap.FunFrames X.base l := by
    intro l
    induction l with
    | nil => intro _ _; trivial
    | cons env r ih =>
      intro hs hl
      obtain ⟨hk, ⟨L, o, hf, hn, ho, hd⟩, hr⟩ := hl
      have hL : L ∈ X.fs := hs L (by unfold frs; rw [List.filterMap_cons, hf]; exact List.mem_cons_self)
      obtain ⟨sl, e⟩ := I.base.slot L o ho (I.ok.frf L hL) hL fun z => I.ok.exfs L z hL
      exact ⟨hk, ⟨L, _, hf, hn, e, hd⟩, ih (fun b hb => hs b (by unfold frs; rw [List.filterMap_cons, hf]; exact List.mem_cons_of_mem _ hb)) hr⟩
  exact all X.outer (fun _ hb => hb) I.ok.funs

/-- the frames that run, for a call -/
theorem Inv.stack (I : Inv X pins σ H s) : s.heap.FunFrames X.base X.stack := by
  rcases I.ok.stk with e | ⟨e, hf⟩
  · rw [e]; exact I.funs
  · rw [e]
    obtain ⟨m, hn, _⟩ := I.loc
    refine .cons (by rw [I.ok.kind]; decide) hf hn ?_ I.funs
    exact Heap.get?_none_of_le (Nat.le_trans I.ok.bsz I.ok.above)
theorem Inv.stkSub (I : Inv X pins σ H s) : ∀ b ∈ frs X.stack, b ∈ X.env.locals :: X.fs := fun b hb => by
  rcases I.ok.stk with e | ⟨e, hf⟩
  · rw [e] at hb; exact List.mem_cons_of_mem _ hb
  · rw [e] at hb
    unfold frs at hb
    rw [List.filterMap_cons, hf] at hb
    exact hb
theorem Inv.stkFree (I : Inv X pins σ H s) : ∀ b ∈ frs X.stack, H b = none := fun b hb => by
  rcases List.mem_cons.mp (I.stkSub b hb) with e | hb
  · rw [e]; exact I.free
  · obtain ⟨_, o, ho, _⟩ := I.ok.funs.mem hb
    exact I.base.free b o ho (I.ok.frf b hb) fun z => I.ok.exfs b z hb

/-- THE STEP: the untracked objects but the frame and the records at ch are kept (the callers' frames up to slots), the frame's map is kept, the new abstract heap is held -/
theorem Inv.step {g' : Array GenState} {t' : Nat} {d' : Drawn} {ch : List Addr} (I : Inv X pins σ H s)
    (hch : ∀ b ∈ ch, (b ∈ X.ex ∨ X.s₀.heap.objs.size ≤ b) ∧ b ≠ X.env.locals ∧ (∀ x c, X.env.cells.lookup x = some c → c ≠ b) ∧ ∀ p ∈ X.pn ++ pins, p.1 ≠ b)
    (keep : ∀ b o, b ≠ X.env.locals → b ∉ X.fs → b ∉ ch → s.heap.get? b = some o → H b = none → h'.get? b = some o)
    (slot : ∀ b o, b ≠ X.env.locals → b ∈ X.fs → b ∉ ch → s.heap.get? b = some o → H b = none → ∃ sl, h'.get? b = some { o with slots := sl }) (free : ∀ b o, b ∉ ch → s.heap.get? b = some o → H b = none → H' b = none)
    (there : ∀ b o, b ∉ ch → s.heap.get? b = some o → ∃ o', h'.get? b = some o')
    (tups : ∀ b xs, H b = some (.tup xs) → H' b = some (.tup xs)) (frzs : ∀ b o u, H b = some (.frz o u) → H' b = some (.frz o u)) (tbls : ∀ b ps, H b = some (.tbl ps) → ∃ more, H' b = some (.tbl (ps ++ more)))
    (ns : ∀ m, s.heap.Ns X.env.locals m → h'.Ns X.env.locals m) (hok : HOk X.prog X.w H' h') (hg : AllBare g') :
    Inv X pins σ H' { s with heap := h', gens := g', drawn := d', toks := t' } := by
  have neL : ∀ b o, X.s₀.heap.get? b = some o → b ≠ X.env.locals := fun b o e => Nat.ne_of_lt (Nat.lt_of_lt_of_le (Heap.lt_size e) I.ok.above)
  have neC : ∀ b o, X.s₀.heap.get? b = some o → b ∉ X.ex → b ∉ ch := fun b o e hx hb => by
    rcases (hch b hb).1 with z | z
    · exact hx z
    · exact absurd (Nat.lt_of_lt_of_le (Heap.lt_size e) z) (Nat.lt_irrefl _)
  have cellK : ∀ x c, X.env.cells.lookup x = some c → ∀ v, s.heap.IsCell c v → h'.IsCell c v := fun x c e v ⟨o, ho, hd⟩ => by
    have nch : c ∉ ch := fun z => (hch c z).2.2.1 x c e rfl
    by_cases hc : c ∈ X.fs
    · obtain ⟨sl, q⟩ := slot c o (I.cne x c e) hc nch ho (I.freeC x c e)
      exact ⟨_, q, hd⟩
    · exact ⟨o, keep c o (I.cne x c e) hc nch ho (I.freeC x c e), hd⟩
  refine ⟨I.ok, I.os, hg, ⟨fun b o e n hb hx => ?_, fun b o e n hb hx => ?_, fun b o e n hx => ?_, fun b o e hx => ?_, fun b xs e => tups b xs (I.base.tups b xs e), fun b o xs e => frzs b o xs (I.base.frzs b o xs e), fun b ps e => ?_⟩, ?_, fun x c e => ?_, ?_, fun x c e => ?_, fun p hp => ?_, hok, I.len⟩
  · exact keep b o (neL b o e) hb (neC b o e hx) (I.base.keep b o e n hb hx) (I.base.free b o e n hx)
  · obtain ⟨sl, e1⟩ := I.base.slot b o e n hb hx
    obtain ⟨sl', e2⟩ := slot b _ (neL b o e) hb (neC b o e hx) e1 (I.base.free b o e n hx)
    exact ⟨sl', e2⟩
  · obtain ⟨o', e1⟩ := I.base.there b o e hx
    exact free b o' (neC b o e hx) e1 (I.base.free b o e n hx)
  · obtain ⟨o', e1⟩ := I.base.there b o e hx
    exact there b o' (neC b o e hx) e1
  · obtain ⟨m1, e1⟩ := I.base.tbls b ps e
    obtain ⟨m2, e2⟩ := tbls b _ e1
    exact ⟨m1 ++ m2, by rw [e2, Array.append_assoc]⟩
  · obtain ⟨m, hn, hl⟩ := I.loc
    refine ⟨m, ns m hn, fun i x v e1 e2 e3 => ?_⟩
    obtain ⟨u, r, l⟩ := hl i x v e1 e2 e3
    refine ⟨u, r, ?_⟩
    rcases l with l | ⟨k, c, e, z⟩
    · exact .inl l
    · exact .inr ⟨k, c, e, cellK x c e _ z⟩
  · obtain ⟨v, z⟩ := I.cell x c e
    exact ⟨v, cellK x c e v z⟩
  · obtain ⟨m, ⟨o, _, _, ho, _⟩, _⟩ := I.loc
    exact free _ o (fun z => (hch _ z).2.1 rfl) ho I.free
  · obtain ⟨v, o, ho, hd⟩ := I.cell x c e
    exact free c o (fun z => (hch c z).2.2.1 x c e rfl) ho (I.freeC x c e)
  · obtain ⟨e, n, ne, nf, d⟩ := I.pin p hp
    have nch : p.1 ∉ ch := fun z => (hch p.1 z).2.2.2 p hp rfl
    exact ⟨keep p.1 p.2 ne nf nch e n, free p.1 p.2 nch e n, ne, nf, d⟩
theorem Inv.step0 {g' : Array GenState} {t' : Nat} {d' : Drawn} {ch : List Addr} (I : Inv X pins σ H s)
    (hch : ∀ b ∈ ch, (b ∈ X.ex ∨ X.s₀.heap.get? b = none) ∧ b ≠ X.env.locals ∧ (∀ x c, X.env.cells.lookup x = some c → c ≠ b) ∧ ∀ p ∈ X.pn ++ pins, p.1 ≠ b)
    (keep : ∀ b o, b ≠ X.env.locals → b ∉ X.fs → b ∉ ch → s.heap.get? b = some o → H b = none → h'.get? b = some o)
    (slot : ∀ b o, b ≠ X.env.locals → b ∈ X.fs → b ∉ ch → s.heap.get? b = some o → H b = none → ∃ sl, h'.get? b = some { o with slots := sl }) (free : ∀ b o, b ∉ ch → s.heap.get? b = some o → H b = none → H' b = none)
    (there : ∀ b o, b ∉ ch → s.heap.get? b = some o → ∃ o', h'.get? b = some o')
    (tups : ∀ b xs, H b = some (.tup xs) → H' b = some (.tup xs)) (frzs : ∀ b o u, H b = some (.frz o u) → H' b = some (.frz o u)) (tbls : ∀ b ps, H b = some (.tbl ps) → ∃ more, H' b = some (.tbl (ps ++ more)))
    (ns : ∀ m, s.heap.Ns X.env.locals m → h'.Ns X.env.locals m) (hok : HOk X.prog X.w H' h') (hg : AllBare g') :
    Inv X pins σ H' { s with heap := h', gens := g', drawn := d', toks := t' } := by
  have neL : ∀ b o, X.s₀.heap.get? b = some o → b ≠ X.env.locals := fun b o e => Nat.ne_of_lt (Nat.lt_of_lt_of_le (Heap.lt_size e) I.ok.above)
  have neC : ∀ b o, X.s₀.heap.get? b = some o → b ∉ X.ex → b ∉ ch := fun b o e hx hb => by
    rcases (hch b hb).1 with z | z
    · exact hx z
    · rw [e] at z; cases z
  have cellK : ∀ x c, X.env.cells.lookup x = some c → ∀ v, s.heap.IsCell c v → h'.IsCell c v := fun x c e v ⟨o, ho, hd⟩ => by
    have nch : c ∉ ch := fun z => (hch c z).2.2.1 x c e rfl
    by_cases hc : c ∈ X.fs
    · obtain ⟨sl, q⟩ := slot c o (I.cne x c e) hc nch ho (I.freeC x c e)
      exact ⟨_, q, hd⟩
    · exact ⟨o, keep c o (I.cne x c e) hc nch ho (I.freeC x c e), hd⟩
  refine ⟨I.ok, I.os, hg, ⟨fun b o e n hb hx => ?_, fun b o e n hb hx => ?_, fun b o e n hx => ?_, fun b o e hx => ?_, fun b xs e => tups b xs (I.base.tups b xs e), fun b o xs e => frzs b o xs (I.base.frzs b o xs e), fun b ps e => ?_⟩, ?_, fun x c e => ?_, ?_, fun x c e => ?_, fun p hp => ?_, hok, I.len⟩
  · exact keep b o (neL b o e) hb (neC b o e hx) (I.base.keep b o e n hb hx) (I.base.free b o e n hx)
  · obtain ⟨sl, e1⟩ := I.base.slot b o e n hb hx
    obtain ⟨sl', e2⟩ := slot b _ (neL b o e) hb (neC b o e hx) e1 (I.base.free b o e n hx)
    exact ⟨sl', e2⟩
  · obtain ⟨o', e1⟩ := I.base.there b o e hx
    exact free b o' (neC b o e hx) e1 (I.base.free b o e n hx)
  · obtain ⟨o', e1⟩ := I.base.there b o e hx
    exact there b o' (neC b o e hx) e1
  · obtain ⟨m1, e1⟩ := I.base.tbls b ps e
    obtain ⟨m2, e2⟩ := tbls b _ e1
    exact ⟨m1 ++ m2, by rw [e2, Array.append_assoc]⟩
  · obtain ⟨m, hn, hl⟩ := I.loc
    refine ⟨m, ns m hn, fun i x v e1 e2 e3 => ?_⟩
    obtain ⟨u, r, l⟩ := hl i x v e1 e2 e3
    refine ⟨u, r, ?_⟩
    rcases l with l | ⟨k, c, e, z⟩
    · exact .inl l
    · exact .inr ⟨k, c, e, cellK x c e _ z⟩
  · obtain ⟨v, z⟩ := I.cell x c e
    exact ⟨v, cellK x c e v z⟩
  · obtain ⟨m, ⟨o, _, _, ho, _⟩, _⟩ := I.loc
    exact free _ o (fun z => (hch _ z).2.1 rfl) ho I.free
  · obtain ⟨v, o, ho, hd⟩ := I.cell x c e
    exact free c o (fun z => (hch c z).2.2.1 x c e rfl) ho (I.freeC x c e)
  · obtain ⟨e, n, ne, nf, d⟩ := I.pin p hp
    have nch : p.1 ∉ ch := fun z => (hch p.1 z).2.2.2 p hp rfl
    exact ⟨keep p.1 p.2 ne nf nch e n, free p.1 p.2 nch e n, ne, nf, d⟩
/-- .. where the frame's own object is kept too -/
theorem Inv.un {t' : Nat} (I : Inv X pins σ H s) (u : Un X.fs [] H H' s.heap h') (hok : HOk X.prog X.w H' h') : Inv X pins σ H' { s with heap := h', toks := t' } := by
  obtain ⟨m, ⟨o, es, ep, ho, r⟩, _⟩ := id I.loc
  obtain ⟨sl, hL⟩ := u.any ho I.free (by simp)
  exact I.step (g' := s.gens) (d' := s.drawn) (ch := []) (fun _ z => nomatch z) (fun b o _ hb _ e n => u.keep b o e n hb (by simp)) (fun b o _ hb _ e n => u.slot b o e n hb (by simp)) (fun b o _ e n => u.free b o e n (by simp)) (fun b o _ e => u.there b o e (by simp)) u.tups u.frzs u.tbls (fun m' hm => by
    obtain ⟨o', es', ep', ho', r'⟩ := hm
    rw [ho] at ho'; cases ho'
    exact ⟨_, es', ep', hL, r'⟩) hok I.bare
/-- behind a call (or a comprehension's block): the slots of this frame may have changed too, the records at ch may have turned -/
theorem Inv.call {g' : Array GenState} {t' : Nat} {d' : Drawn} {ch : List Addr} (I : Inv X pins σ H s) (u : Un (frs X.stack) ch H H' s.heap h') (hok : HOk X.prog X.w H' h') (hg : AllBare g')
    (hch : ∀ b ∈ ch, (b ∈ X.ex ∨ X.s₀.heap.objs.size ≤ b) ∧ b ≠ X.env.locals ∧ (∀ x c, X.env.cells.lookup x = some c → c ≠ b) ∧ ∀ p ∈ X.pn ++ pins, p.1 ≠ b) :
    Inv X pins σ H' { s with heap := h', gens := g', drawn := d', toks := t' } := by
  obtain ⟨m, ⟨o, es, ep, ho, r⟩, _⟩ := id I.loc
  obtain ⟨sl, hL⟩ := u.any ho I.free fun z => (hch _ z).2.1 rfl
  exact I.step (ch := ch) hch (fun b o hL hb hc e n => u.keep b o e n (fun z => (List.mem_cons.mp (I.stkSub b z)).elim hL hb) hc) (fun b o _ _ hc e n => u.any e n hc) (fun b o hc e n => u.free b o e n hc) (fun b o hc e => u.there b o e hc) u.tups u.frzs u.tbls (fun m' hm => by
    obtain ⟨o', es', ep', ho', r'⟩ := hm
    rw [ho] at ho'; cases ho'
    exact ⟨_, es', ep', hL, r'⟩) hok hg
/-- an untracked record of ours (an iterator) has turned -/
theorem Inv.turned {t' : Nat} {it : Addr} (I : Inv X pins σ H s) (k : ∀ b o, b ≠ it → s.heap.get? b = some o → h'.get? b = some o) (hn : H it = none) (hL : it ≠ X.env.locals)
    (h1 : it ∈ X.ex ∨ X.s₀.heap.objs.size ≤ it) (h2 : ∀ x c, X.env.cells.lookup x = some c → c ≠ it) (h3 : ∀ p ∈ X.pn ++ pins, p.1 ≠ it) : Inv X pins σ H { s with heap := h', toks := t' } := by
  have nit : ∀ b u, H b = some u → b ≠ it := fun b u e z => by rw [z, hn] at e; cases e
  refine I.step (g' := s.gens) (d' := s.drawn) (ch := [it]) (fun b hb => ?_) (fun b o _ _ hc e _ => k b o (fun z => hc (by simp [z])) e) (fun b o _ _ hc e _ => ⟨o.slots, k b o (fun z => hc (by simp [z])) e⟩) (fun _ _ _ _ n => n)
    (fun b o hc e => ⟨o, k b o (fun z => hc (by simp [z])) e⟩) (fun _ _ e => e) (fun _ _ _ e => e) (fun b ps e => ⟨#[], by rw [e]; simp⟩) (fun m hm => ?_) (fun b u e => ?_) I.bare
  · have e : b = it := by simpa using hb
    subst e
    exact ⟨h1, hL, h2, h3⟩
  · obtain ⟨o, es, ep, ho, r⟩ := hm
    exact ⟨o, es, ep, k _ o (Ne.symm hL) ho, r⟩
  · refine (I.hok b u e).stay (fun c v hc q => k c v ?_ q) (fun _ q => q) fun _ _ q => q
    rcases hc with z | z
    · rw [z]; exact nit b u e
    · exact nit c _ z
theorem Inv.tok (I : Inv X pins σ H s) (t : Nat) : Inv X pins σ H { s with toks := t } := I.un (h' := s.heap) (t' := t) Un.refl I.hok
/-- all objects kept -/
theorem Inv.kept {t' : Nat} (I : Inv X pins σ H s) (k : ∀ b u, s.heap.get? b = some u → h'.get? b = some u) : Inv X pins σ H { s with heap := h', toks := t' } := I.un (Un.kept k) (I.hok.kept k)
/-- a new object laid and tracked -/
theorem Inv.laid {a : Addr} {o : HO} {t' : Nat} (I : Inv X pins σ H s) (k : ∀ b u, s.heap.get? b = some u → h'.get? b = some u) (hp : s.heap.objs.size ≤ a) (new : ObjOk X.prog X.w (upd H a o) h' a o) :
    Inv X pins σ (upd H a o) { s with heap := h', toks := t' } := I.un (Un.laid k hp (I.hok.fresh hp)) (I.hok.laid k hp new)
/-- an object written -/
theorem Inv.write {x e : Addr} {o : HO} {t' : Nat} (I : Inv X pins σ H s) (mu : Mut (H x)) (he : e = x ∨ H e = some (.own x)) (k : ∀ b u, b ≠ e → s.heap.get? b = some u → h'.get? b = some u) (heo : ∃ u, h'.get? e = some u)
    (new : ObjOk X.prog X.w (upd H x o) h' x o) : Inv X pins σ (upd H x o) { s with heap := h', toks := t' } := I.un (Un.write mu he k heo) (I.hok.write mu he k heo new)
theorem Inv.pins_of {pins' : List (Addr × Obj)} (I : Inv X pins σ H s) (h : ∀ p ∈ pins', s.heap.get? p.1 = some p.2 ∧ H p.1 = none ∧ p.1 ≠ X.env.locals ∧ p.1 ∉ X.fs ∧ ∀ v, p.2.data ≠ .cell v) : Inv X pins' σ H s :=
  ⟨I.ok, I.os, I.bare, I.base, I.loc, I.cell, I.free, I.freeC, fun p hp => (List.mem_append.mp hp).elim (fun z => I.pin p (List.mem_append_left _ z)) (h p), I.hok, I.len⟩

theorem nodup_ix {N : List Str} (hN : N.Nodup) {i j : Nat} {x : Str} (a : N[i]? = some x) (b : N[j]? = some x) : i = j := by
  obtain ⟨h1, e1⟩ := List.getElem?_eq_some_iff.mp a
  obtain ⟨h2, e2⟩ := List.getElem?_eq_some_iff.mp b
  exact (List.getElem_inj hN).mp (e1.trans e2.symm)

/-- a name is stored; what changed -/
theorem store_ok2 {M : Model} {A : Around} {E : Value → Shared → Prop} {i : Nat} {x : Str} {v : V} {u : Value} {Q : Unit → Shared → Prop} (I : Inv X pins σ H s) (hN : X.N.Nodup) (hi : X.N[i]? = some x) (hx : Loc X.env.scope x) (r : RelV v u)
    (h : ∀ s', Inv X pins (σ.set i (some v)) H s' → (∃ a, Heap.SameBut a s.heap s'.heap ∧ (a = X.env.locals ∨ X.env.cells.lookup x = some a)) → Q () s') (hf : X.fn x = true ∨ X.env.scope.names.lookup x = some .local := by first | exact .inl rfl | exact .inr rfl | assumption) : wpAny M A (storeName X.env x u) Q E s := by
  obtain ⟨m, hn, hl⟩ := id I.loc
  have hcls : (X.env.scope.kind == .class || (X.env.scope.kind == .module && X.env.locals != X.env.globals)) = false := by rw [I.ok.kind]; rfl
  have hiσ : i < σ.length := by rw [I.len]; exact (List.getElem?_eq_some_iff.mp hi).1
  have cne := I.cne
  have tracked : ∀ {a : Addr} {h' : Heap}, (∃ o, s.heap.get? a = some o ∧ H a = none) → Heap.SameBut a s.heap h' → HOk X.prog X.w H h' := fun {a h'} ha hs b ob e => by
    obtain ⟨_, _, hfree⟩ := ha
    refine (I.hok b ob e).stay (fun c w' hc q => (hs.2 c ?_).trans q) (fun _ q => q) fun _ _ q => q
    rintro rfl
    rcases hc with rfl | hc
    · rw [hfree] at e; cases e
    · rw [hfree] at hc; cases hc
  rcases hx with hk | hk
  · refine wpAny_storeName_local hk hn (fun h' hn' hs => ?_) hcls
    obtain ⟨oL, _, _, hoL, _⟩ := id hn
    refine h _ ⟨I.ok, I.os, I.bare, ⟨fun b o e n hb hx => ?_, fun b o e n hb hx => ?_, I.base.free, fun b o e hx => ?_, I.base.tups, I.base.frzs, I.base.tbls⟩, ⟨_, hn', fun j y v' e1 e2 e3 => ?_⟩, fun y c e => ?_, I.free, I.freeC, fun p hp => ?_, tracked ⟨oL, hoL, I.free⟩ hs, by simpa using I.len⟩ ⟨_, hs, .inl rfl⟩
    · exact (hs.2 b (Nat.ne_of_lt (Nat.lt_of_lt_of_le (Heap.lt_size e) I.ok.above))).trans (I.base.keep b o e n hb hx)
    · obtain ⟨sl, e1⟩ := I.base.slot b o e n hb hx
      exact ⟨sl, (hs.2 b (Nat.ne_of_lt (Nat.lt_of_lt_of_le (Heap.lt_size e) I.ok.above))).trans e1⟩
    · obtain ⟨o', e1⟩ := I.base.there b o e hx
      exact ⟨o', (hs.2 b (Nat.ne_of_lt (Nat.lt_of_lt_of_le (Heap.lt_size e) I.ok.above))).trans e1⟩
    · by_cases hj : j = i
      · subst hj
        rw [hi] at e1; cases e1
        rw [List.getElem?_set_self hiσ] at e2
        cases e2
        exact ⟨u, r, .inl ⟨hk, by simp⟩⟩
      · rw [List.getElem?_set_ne (Ne.symm hj)] at e2
        obtain ⟨u', r', q⟩ := hl j y v' e1 e2 e3
        refine ⟨u', r', ?_⟩
        rcases q with ⟨k, e⟩ | ⟨k, c, e, z⟩
        · refine .inl ⟨k, ?_⟩
          have : y ≠ x := fun e => hj (nodup_ix hN e1 (e ▸ hi))
          simp [this, e]
        · exact .inr ⟨k, c, e, z.sameBut hs (cne y c e)⟩
    · obtain ⟨w', z⟩ := I.cell y c e
      exact ⟨w', z.sameBut hs (cne y c e)⟩
    · obtain ⟨e, n, ne, nf, d⟩ := I.pin p hp
      exact ⟨(hs.2 p.1 ne).trans e, n, ne, nf, d⟩
  · have hfn : X.fn x = true := by
      rcases hf with z | z
      · exact z
      · rw [z] at hk; cases hk
    obtain ⟨c, hc⟩ := I.ok.has x (.inl hk)
    obtain ⟨w', z⟩ := I.cell x c hc
    refine wpAny_storeName_cell I.ok.kind hk hc z (fun h' hc' hs => ?_)
    obtain ⟨oc, hoc, hocd⟩ := id z
    refine h { s with heap := h' } ⟨I.ok, I.os, I.bare, ⟨fun b o e n hb hx => ?_, fun b o e n hb hx => ?_, I.base.free, fun b o e hx => ?_, I.base.tups, I.base.frzs, I.base.tbls⟩, ⟨m, hn.sameBut hs (Ne.symm (cne x c hc)), fun j y v' e1 e2 e3 => ?_⟩, fun y c' e => ?_, I.free, I.freeC, fun p hp => ?_, tracked ⟨oc, hoc, I.freeC x c hc⟩ hs, by simpa using I.len⟩ ⟨c, hs, .inr hc⟩
    · exact (hs.2 b (Nat.ne_of_lt (Nat.lt_of_lt_of_le (Heap.lt_size e) (I.ok.cab x c hfn hc)))).trans (I.base.keep b o e n hb hx)
    · obtain ⟨sl, e1⟩ := I.base.slot b o e n hb hx
      exact ⟨sl, (hs.2 b (Nat.ne_of_lt (Nat.lt_of_lt_of_le (Heap.lt_size e) (I.ok.cab x c hfn hc)))).trans e1⟩
    · obtain ⟨o', e1⟩ := I.base.there b o e hx
      exact ⟨o', (hs.2 b (Nat.ne_of_lt (Nat.lt_of_lt_of_le (Heap.lt_size e) (I.ok.cab x c hfn hc)))).trans e1⟩
    · by_cases hj : j = i
      · subst hj
        rw [hi] at e1; cases e1
        rw [List.getElem?_set_self hiσ] at e2
        cases e2
        exact ⟨u, r, .inr ⟨.inl hk, c, hc, hc'⟩⟩
      · rw [List.getElem?_set_ne (Ne.symm hj)] at e2
        obtain ⟨u', r', q⟩ := hl j y v' e1 e2 e3
        refine ⟨u', r', ?_⟩
        rcases q with q | ⟨k, c', e, z'⟩
        · exact .inl q
        · refine .inr ⟨k, c', e, z'.sameBut hs ?_⟩
          rintro rfl
          exact hj (nodup_ix hN e1 (I.ok.inj _ _ _ e hc ▸ hi))
    · by_cases hcc : c' = c
      · subst hcc; exact ⟨_, hc'⟩
      · obtain ⟨w2, z2⟩ := I.cell y c' e
        exact ⟨w2, z2.sameBut hs hcc⟩
    · obtain ⟨e, n, ne, nf, d⟩ := I.pin p hp
      refine ⟨(hs.2 p.1 ?_).trans e, n, ne, nf, d⟩
      intro q
      rw [q, hoc] at e
      have q' : oc = p.2 := Option.some.inj e
      exact d w' (by rw [← q']; exact hocd)
theorem store_ok {M : Model} {A : Around} {E : Value → Shared → Prop} {i : Nat} {x : Str} {v : V} {u : Value} {Q : Unit → Shared → Prop} (I : Inv X pins σ H s) (hN : X.N.Nodup) (hi : X.N[i]? = some x) (hx : Loc X.env.scope x) (r : RelV v u)
    (h : ∀ s', Inv X pins (σ.set i (some v)) H s' → Q () s') (hf : X.fn x = true ∨ X.env.scope.names.lookup x = some .local := by first | exact .inl rfl | exact .inr rfl | assumption) : wpAny M A (storeName X.env x u) Q E s :=
  store_ok2 I hN hi hx r (fun s' I' _ => h s' I') hf
/-- behind a call or a block, the state as it is -/
theorem Inv.call' {s' : Shared} {ch : List Addr} (I : Inv X pins σ H s) (ho : s'.os = s.os) (u : Un (frs X.stack) ch H H' s.heap s'.heap) (hok : HOk X.prog X.w H' s'.heap) (hg : AllBare s'.gens)
    (hch : ∀ b ∈ ch, (b ∈ X.ex ∨ X.s₀.heap.objs.size ≤ b) ∧ b ≠ X.env.locals ∧ (∀ x c, X.env.cells.lookup x = some c → c ≠ b) ∧ ∀ p ∈ X.pn ++ pins, p.1 ≠ b) : Inv X pins σ H' s' := by
  obtain ⟨h', g', d', t', o'⟩ := s'
  have e : o' = s.os := ho
  subst e
  exact I.call (g' := g') (t' := t') (d' := d') u hok hg hch
end

/-! ### the judgements -/
/-- an exception: its class, its own dict's address (where it has one), the abstract heap behind it -/
abbrev XK := Value → Option Addr → Hp → Prop
abbrev St := List (Option V)
abbrev VK := V → Hp → Prop
/-- an expression's reading; a test's; an argument list's -/
abbrev TE := St → Hp → VK → Prop
abbrev TT := St → Hp → (Bool → Hp → Prop) → Prop
abbrev TA := St → Hp → (List V → Hp → Prop) → Prop
/-- what is wanted behind a statement -/
structure Ends where
  nx : St → Hp → Prop
  rt : VK
  bk : St → Hp → Prop := fun _ _ => False
  ct : St → Hp → Prop := fun _ _ => False
abbrev TS := Ends → St → Hp → Prop

def EP (X : Cx) (pins : List (Addr × Obj)) (σ : St) (Q : VK) (u : Value) (s' : Shared) : Prop := ∃ v H', Inv X pins σ H' s' ∧ RelV v u ∧ Q v H'
def TP (X : Cx) (pins : List (Addr × Obj)) (σ : St) (Q : Bool → Hp → Prop) (b : Bool) (s' : Shared) : Prop := ∃ H', Inv X pins σ H' s' ∧ Q b H'
def AP (X : Cx) (pins : List (Addr × Obj)) (σ : St) (Q : List V → Hp → Prop) (us : List Value) (s' : Shared) : Prop := ∃ vs H', Inv X pins σ H' s' ∧ Vals vs us ∧ Q vs H'
def SP (X : Cx) (pins : List (Addr × Obj)) (D : Ends) (f : Flow) (s' : Shared) : Prop :=
  match f with
  | .next => ∃ σ' H', Inv X pins σ' H' s' ∧ D.nx σ' H'
  | .brk => ∃ σ' H', Inv X pins σ' H' s' ∧ D.bk σ' H'
  | .cont => ∃ σ' H', Inv X pins σ' H' s' ∧ D.ct σ' H'
  | .ret u => ∃ v σ' H', Inv X pins σ' H' s' ∧ RelV v u ∧ D.rt v H'

def PE (X : Cx) (e : Expr) (t : TE) : Prop :=
  ∀ (pins : List (Addr × Obj)) (s : Shared) (σ : St) (H : Hp) (Q : VK), Inv X pins σ H s → t σ H Q → wpAny (model X.prog X.w) X.A (eval e X.env) (EP X pins σ Q) X.xe s
def PT (X : Cx) (e : Expr) (t : TT) : Prop :=
  ∀ (pins : List (Addr × Obj)) (s : Shared) (σ : St) (H : Hp) (Q : Bool → Hp → Prop), Inv X pins σ H s → t σ H Q → wpAny (model X.prog X.w) X.A (isTrue e X.env (eval e X.env)) (TP X pins σ Q) X.xe s
/-- a test whatever its 'whole' is (and, or) -/
def PW (X : Cx) (e : Expr) (t : TT) : Prop :=
  ∀ (whole : Sem Value) (pins : List (Addr × Obj)) (s : Shared) (σ : St) (H : Hp) (Q : Bool → Hp → Prop), Inv X pins σ H s → t σ H Q → wpAny (model X.prog X.w) X.A (isTrue e X.env whole) (TP X pins σ Q) X.xe s
theorem PW.pt {X : Cx} {e : Expr} {t : TT} (h : PW X e t) : PT X e t := h _
/-- an argument list (no star), from the left -/
def PA (X : Cx) (es : List Expr) (t : TA) : Prop :=
  ∀ (pos : Pos) (pins : List (Addr × Obj)) (s : Shared) (σ : St) (H : Hp) (Q : List V → Hp → Prop), Inv X pins σ H s → t σ H Q → wpAny (model X.prog X.w) X.A (spliced (backTo pos (starEach es X.env))) (AP X pins σ Q) X.xe s
def PS (X : Cx) (st : Stmt) (t : TS) : Prop :=
  ∀ (pins : List (Addr × Obj)) (s : Shared) (σ : St) (H : Hp) (D : Ends), Inv X pins σ H s → t D σ H → wpAny (model X.prog X.w) X.A (exec st X.env) (SP X pins D) X.xe s
def PSs (X : Cx) (st : List Stmt) (t : TS) : Prop :=
  ∀ (pins : List (Addr × Obj)) (s : Shared) (σ : St) (H : Hp) (D : Ends), Inv X pins σ H s → t D σ H → wpAny (model X.prog X.w) X.A (execs st X.env) (SP X pins D) X.xe s
/-- weaken the end -/
theorem thn {α : Type} {t : Sem α} {Q Q' : α → Shared → Prop} {M : Model} {A : Around} {E : Value → Shared → Prop} {s : Shared} (h : wpAny M A t Q E s) (hQ : ∀ a s, Q a s → Q' a s) : wpAny M A t Q' E s := wpAny_mono h hQ fun _ _ x => x
end L2

namespace L2
open PySem PySem.Spec PyProof.Rows
section
variable {X : Cx}

/-! ### names and constants -/
def tVar (i : Nat) : TE := fun σ H Q => ∃ v, σ[i]? = some (some v) ∧ Q v H
def tC (v : V) : TE := fun _ H Q => Q v H
theorem pe_var {i : Nat} {x : Str} {pos : Pos} (hN : X.N[i]? = some x) (hv : Vis X.env.scope x) (hd : (x == ("__debug__" : Str)) = false := by decide) (hcd : (x == ("__classdict__" : Str)) = false := by decide) : PE X (.Name x pos) (tVar i) := by
  intro pins s σ H Q I h
  obtain ⟨v, e, h⟩ := h
  obtain ⟨m, hn, hl⟩ := I.loc
  obtain ⟨u, r, l⟩ := hl i x v hN e hv
  have fin : EP X pins σ Q u s := ⟨v, H, I, r, h⟩
  rcases l with ⟨hk, hm⟩ | ⟨hk, c, hc, hcell⟩
  · exact wpAny_Name (wpAny_loadName_local I.ok.kind hk hn hm fin) hd
  · rcases hk with hk | hk
    · exact wpAny_Name (wpAny_loadName_cell I.ok.kind hk hc hcell fin) hd
    · exact wpAny_Name (wpAny_loadName_free I.ok.kind hk hc hcell fin hcd) hd
theorem pe_int {i j pos} : PE X (.Constant (.int i) j pos) (tC (.int i)) := fun _ _ _ H _ I h => wpAny_Constant_int ⟨.int i, H, I.tok _, ⟨_, rfl⟩, h⟩
theorem pe_bl {b j pos} : PE X (.Constant (.bool b) j pos) (tC (.bl b)) := fun _ _ _ H _ I h => Constant_bool ⟨.bl b, H, I, rfl, h⟩
theorem pe_non {j pos} : PE X (.Constant .none j pos) (tC .non) := fun _ _ _ H _ I h => Constant_none ⟨.non, H, I, rfl, h⟩
theorem pe_str {x j pos} : PE X (.Constant (.str x) j pos) (tC (.str x)) := fun _ _ _ H _ I h => Calls.Constant_str ⟨.str x, H, I.tok _, ⟨_, rfl⟩, h⟩

/-- a global name of the def -/
def Gl (X : Cx) (x : Str) : Prop := X.env.kindOf x = some .globalImplicit
theorem ld_glob {E : Value → Shared → Prop} {pins : List (Addr × Obj)} {s : Shared} {σ : St} {H : Hp} {x : Str} {u : Value} {pos : Pos} {Q : Value → Shared → Prop} (I : Inv X pins σ H s) (hg : Gl X x) (hm : X.mg x = some u) (h : Q u s)
    (hd : (x == ("__debug__" : Str)) = false := by decide) : wpAny (model X.prog X.w) X.A (eval (.Name x pos) X.env) Q E s :=
  Calls.Name_function_global I.ok.kind hg (Calls.loadGlobal_global (by rw [I.ok.glob]; exact I.mod.glob.keeps I.bk) hm h) hd
theorem ld_blt {E : Value → Shared → Prop} {pins : List (Addr × Obj)} {s : Shared} {σ : St} {H : Hp} {x : Str} {u : Value} {pos : Pos} {Q : Value → Shared → Prop} (I : Inv X pins σ H s) (hg : Gl X x) (hm : X.mg x = none) (hv : bootBuiltins x = some u) (h : Q u s)
    (hn : x ≠ "__name__" := by decide) (hd : (x == ("__debug__" : Str)) = false := by decide) : wpAny (model X.prog X.w) X.A (eval (.Name x pos) X.env) Q E s := by
  obtain ⟨mb, h1, h2⟩ := I.mod.blt
  exact Calls.Name_function_global I.ok.kind hg (Calls.loadGlobal_builtin (by rw [I.ok.glob]; exact I.mod.glob.keeps I.bk) hm (by rw [I.ok.blt]; exact h1.keeps I.bk) ((h2 x hn).trans hv) h) hd
/-- a module's constant, a class, a function, as a value -/
theorem pe_glob {x : Str} {v : V} {u : Value} {pos : Pos} (hg : Gl X x) (hm : X.mg x = some u) (r : RelV v u) (hd : (x == ("__debug__" : Str)) = false := by decide) : PE X (.Name x pos) (tC v) :=
  fun _ _ _ H _ I h => ld_glob I hg hm ⟨v, H, I, r, h⟩ hd
theorem pe_bltn {x : Str} {v : V} {u : Value} {pos : Pos} (hg : Gl X x) (hm : X.mg x = none) (hv : bootBuiltins x = some u) (r : RelV v u) (hn : x ≠ "__name__" := by decide) (hd : (x == ("__debug__" : Str)) = false := by decide) : PE X (.Name x pos) (tC v) :=
  fun _ _ _ H _ I h => ld_blt I hg hm hv ⟨v, H, I, r, h⟩ hn hd

/-! ### arithmetic -/
/-- two ints -/
def t2I (ta tb : TE) (k : Int → Int → Hp → Prop) : St → Hp → Prop := fun σ H => ta σ H fun x H1 => tb σ H1 fun y H2 => ∃ i j, x = .int i ∧ y = .int j ∧ k i j H2
def tAdd (ta tb : TE) : TE := fun σ H Q => t2I ta tb (fun i j H2 => Q (.int (i + j)) H2) σ H
def tSub (ta tb : TE) : TE := fun σ H Q => t2I ta tb (fun i j H2 => Q (.int (i - j)) H2) σ H
/-- the left factor below 2^64 -/
def tMul (ta tb : TE) : TE := fun σ H Q => t2I ta tb (fun i j H2 => (-(2 ^ 64) < i ∧ i < 2 ^ 64) ∧ Q (.int (i * j)) H2) σ H
variable {a b : Expr} {ta tb : TE} {pos : Pos}
/-! ### comparisons -/
def PC (X : Cx) (op : CmpOp) (a b : Expr) (t : TE) : Prop :=
  ∀ (pins : List (Addr × Obj)) (s : Shared) (σ : St) (H : Hp) (Q : VK), Inv X pins σ H s → t σ H Q →
    wpAny (model X.prog X.w) X.A (eval a X.env) (fun v s₁ => wpAny (model X.prog X.w) X.A (eval b X.env) (fun u s₂ => wpAny (model X.prog X.w) X.A (compareOp op v u) (EP X pins σ Q) X.xe s₂) X.xe s₁) X.xe s
theorem nobehind (b : Expr) {op : CmpOp} (h : op ≠ .In) (h2 : op ≠ .NotIn) : behindInMarks op b = false := by
  have e1 : (op == CmpOp.In) = false := by cases op <;> first | rfl | exact absurd rfl h
  have e2 : (op == CmpOp.NotIn) = false := by cases op <;> first | rfl | exact absurd rfl h2
  cases b <;> simp [behindInMarks, e1, e2]
def tCmp (p : Int → Int → Bool) (ta tb : TE) : TE := fun σ H Q => t2I ta tb (fun i j H2 => Q (.bl (p i j)) H2) σ H
abbrev tLt : TE → TE → TE := tCmp fun i j => decide (i < j)
abbrev tLe : TE → TE → TE := tCmp fun i j => decide (i ≤ j)
abbrev tGt : TE → TE → TE := tCmp fun i j => decide (j < i)
abbrev tGe : TE → TE → TE := tCmp fun i j => decide (j ≤ i)
abbrev tEqI : TE → TE → TE := tCmp fun i j => decide (i = j)
abbrev tNeI : TE → TE → TE := tCmp fun i j => !decide (i = j)
/-- is None -/
def tIsN (ta : TE) : TE := fun σ H Q => ta σ H fun x H1 => Q (.bl (decide (x = .non))) H1
def tNotN (ta : TE) : TE := fun σ H Q => ta σ H fun x H1 => Q (.bl (!decide (x = .non))) H1
theorem RelV.none_iff {x : V} {v : Value} (r : RelV x v) : (v == Value.none) = decide (x = .non) := by
  cases x with
  | non => cases r; rfl
  | bl _ => cases r; rfl
  | int _ => obtain ⟨t, rfl⟩ := r; rfl
  | str _ => obtain ⟨t, rfl⟩ := r; rfl
  | byt _ => obtain ⟨t, rfl⟩ := r; rfl
  | flt _ => obtain ⟨t, rfl⟩ := r; rfl
  | ref _ => cases r; rfl
  | ty _ => cases r; rfl
theorem pc_isN {j pos'} (ha : PE X a ta) : PC X .Is a (.Constant .none j pos') (tIsN ta) := by
  intro pins s σ H Q I h
  refine thn (ha pins s σ H _ I h) fun v s1 ⟨x, H1, I1, r1, q1⟩ => ?_
  exact Constant_none (is_none_gen ⟨.bl _, H1, I1, by rw [r1.none_iff]; rfl, q1⟩)
theorem pc_notN {j pos'} (ha : PE X a ta) : PC X .IsNot a (.Constant .none j pos') (tNotN ta) := by
  intro pins s σ H Q I h
  refine thn (ha pins s σ H _ I h) fun v s1 ⟨x, H1, I1, r1, q1⟩ => ?_
  exact Constant_none (isnot_none_gen ⟨.bl _, H1, I1, by rw [r1.none_iff]; rfl, q1⟩)
/-- a comparison as a value, as a test -/
def tB (t : TE) : TT := fun σ H Q => t σ H fun x H1 => ∃ c, x = .bl c ∧ Q c H1
theorem pt_cmp {op : CmpOp} {t : TE} (h : PC X op a b t) (h1 : behindInMarks op b = false := by first | exact nobehind _ (by decide) (by decide) | rfl) : PT X (.Compare a [op] [b] pos) (tB t) := by
  intro pins s σ H Q I hw
  refine wpAny_isTrue_Compare1 (thn (h pins s σ H _ I hw) fun v s1 h1 => thn h1 fun u s2 h2 => thn h2 fun c s3 ⟨x, H1, I1, r1, q1⟩ => ?_) h1
  obtain ⟨d, rfl, q⟩ := q1
  cases r1
  exact wpAny_truthy_bool ⟨H1, I1, q⟩
/-- an expression whose value is a bool, as a test -/
theorem pt_val {e : Expr} {t : TE} (h : PE X e t) (he : ∀ whole, isTrue e X.env whole = (do let v ← whole; standAt e.pos; holding [v] (truthy v)) := by intro _; rfl) : PT X e (tB t) := by
  intro pins s σ H Q I hw
  refine isTrue_plain (thn (h pins s σ H _ I hw) fun v s1 ⟨x, H1, I1, r1, q1⟩ => ?_) (he _)
  obtain ⟨d, rfl, q⟩ := q1
  cases r1
  exact wpAny_truthy_bool ⟨H1, I1, q⟩

/-! ### and, or, not -/
variable {tA tB' : TT} {rest : List Expr}
def tAnd (t u : TT) : TT := fun σ H Q => t σ H fun c H1 => if c = true then u σ H1 Q else Q false H1
def tOr (t u : TT) : TT := fun σ H Q => t σ H fun c H1 => if c = true then Q true H1 else u σ H1 Q
def tNot (t : TT) : TT := fun σ H Q => t σ H fun c H1 => Q (!c) H1
theorem pw_and1 (ha : PT X a tA) : PW X (.BoolOp .And [a] pos) tA := by
  intro wh pins s σ H Q I h
  refine isTrue_and (thn (ha pins s σ H Q I h) fun c s1 e => ?_)
  cases c with
  | true => exact isTrue_and_nil e
  | false => exact e
theorem pw_or1 (ha : PT X a tA) : PW X (.BoolOp .Or [a] pos) tA := by
  intro wh pins s σ H Q I h
  refine isTrue_or (thn (ha pins s σ H Q I h) fun c s1 e => ?_)
  cases c with
  | false => exact isTrue_or_nil e
  | true => exact e
theorem pw_and (ha : PT X a tA) (hb : PW X (.BoolOp .And (b :: rest) pos) tB') : PW X (.BoolOp .And (a :: b :: rest) pos) (tAnd tA tB') := by
  intro wh pins s σ H Q I h
  refine isTrue_and (thn (ha pins s σ H _ I h) fun c s1 ⟨H1, I1, q1⟩ => ?_)
  cases c with
  | true => exact hb wh pins s1 σ H1 Q I1 q1
  | false => exact ⟨H1, I1, q1⟩
theorem pw_or (ha : PT X a tA) (hb : PW X (.BoolOp .Or (b :: rest) pos) tB') : PW X (.BoolOp .Or (a :: b :: rest) pos) (tOr tA tB') := by
  intro wh pins s σ H Q I h
  refine isTrue_or (thn (ha pins s σ H _ I h) fun c s1 ⟨H1, I1, q1⟩ => ?_)
  cases c with
  | true => exact ⟨H1, I1, q1⟩
  | false => exact hb wh pins s1 σ H1 Q I1 q1
theorem pt_not (ha : PT X a tA) : PT X (.UnaryOp .Not a pos) (tNot tA) := by
  intro pins s σ H Q I h
  exact isTrue_not (ha pins s σ H (fun c H1 => Q (!c) H1) I h)
/-- .. as values (bools) -/
def tAndV (ta tb : TE) : TE := fun σ H Q => ta σ H fun x H1 => ∃ c, x = .bl c ∧ if c = true then tb σ H1 Q else Q (.bl false) H1
def tOrV (ta tb : TE) : TE := fun σ H Q => ta σ H fun x H1 => ∃ c, x = .bl c ∧ if c = true then Q (.bl true) H1 else tb σ H1 Q
def tNotV (ta : TE) : TE := fun σ H Q => ta σ H fun x H1 => ∃ c, x = .bl c ∧ Q (.bl (!c)) H1
theorem pe_one {op} {t : TE} (h : PE X a t) : PE X (.BoolOp op [a] pos) t := fun pins s σ H Q I hw => BoolOp_one (h pins s σ H Q I hw)
theorem pe_and (ha : PE X a ta) (hb : PE X (.BoolOp .And (b :: rest) pos) tb) : PE X (.BoolOp .And (a :: b :: rest) pos) (tAndV ta tb) := by
  intro pins s σ H Q I h
  refine BoolOp_and (thn (ha pins s σ H _ I h) fun v s1 ⟨x, H1, I1, r1, q1⟩ => ?_)
  obtain ⟨c, rfl, q1⟩ := q1
  cases r1
  refine wpAny_truthy_bool ?_
  cases c with
  | true => exact hb pins s1 σ H1 Q I1 q1
  | false => exact ⟨.bl false, H1, I1, rfl, q1⟩
theorem pe_not (ha : PE X a ta) : PE X (.UnaryOp .Not a pos) (tNotV ta) := by
  intro pins s σ H Q I h
  refine UnaryOp_ (thn (ha pins s σ H _ I h) fun v s1 ⟨x, H1, I1, r1, q1⟩ => ?_)
  obtain ⟨c, rfl, q1⟩ := q1
  cases r1
  exact not_of (wpAny_truthy_bool ⟨.bl (!c), H1, I1, rfl, q1⟩)
/-- a if t else b -/
def tIf (t : TT) (ta tb : TE) : TE := fun σ H Q => t σ H fun c H1 => if c = true then ta σ H1 Q else tb σ H1 Q
end
end L2

namespace L2
open PySem PySem.Spec PyProof.Rows

/-! ### a list, a tuple that is read: tracked, frozen, or an object of the module -/
def SqL (K : PySem.W.Frag) (H : Hp) (a : Addr) (xs : List V) : Prop :=
  Rd H a (.lst xs) ∨
    ∃ (o : Obj) (its : Array Value) (n : Nat), K.lookup a = some o ∧ o.cls = .type "list" ∧ o.dict = none ∧ o.data = .seq its n ∧ its.size ≤ sizeLine ∧ Vals xs its.toList
def SqT (K : PySem.W.Frag) (H : Hp) (a : Addr) (xs : List V) : Prop :=
  Rd H a (.tup xs) ∨
    ∃ (o : Obj) (its : Array Value) (n : Nat), K.lookup a = some o ∧ o.cls = .type "tuple" ∧ o.data = .seq its n ∧ its.size ≤ sizeLine ∧ Vals xs its.toList
def absV : Value → Option V
  | .none => some .non
  | .bool b => some (.bl b)
  | .int i _ => some (.int i)
  | .str x _ => some (.str x)
  | .bytes b _ => some (.byt b)
  | .float b _ => some (.flt b)
  | .ref a => some (.ref a)
  | .type n => some (.ty n)
  | _ => none
theorem RelV.abs {x : V} {u : Value} (r : RelV x u) : absV u = some x := by
  cases x with
  | non => cases r; rfl
  | bl _ => cases r; rfl
  | int _ => obtain ⟨t, rfl⟩ := r; rfl
  | str _ => obtain ⟨t, rfl⟩ := r; rfl
  | byt _ => obtain ⟨t, rfl⟩ := r; rfl
  | flt _ => obtain ⟨t, rfl⟩ := r; rfl
  | ref _ => cases r; rfl
  | ty _ => cases r; rfl
theorem RelV.inj {x y : V} {u : Value} (r : RelV x u) (q : RelV y u) : x = y := Option.some.inj (r.abs.symm.trans q.abs)
theorem Vals.inj : ∀ {xs ys : List V} {us : List Value}, Vals xs us → Vals ys us → xs = ys
  | _, _, _, .nil, .nil => rfl
  | _, _, _, .cons r t, .cons r' t' => by rw [r.inj r', Vals.inj t t']
section
variable {X : Cx} {pins : List (Addr × Obj)} {σ : St} {H : Hp} {s : Shared} {a : Addr} {xs ys : List V}
theorem SqL.of {K : PySem.W.Frag} (h : H a = some (.lst xs)) : SqL K H a xs := .inl (.inl h)
theorem SqT.of {K : PySem.W.Frag} (h : H a = some (.tup xs)) : SqT K H a xs := .inl (.inl h)
theorem Inv.list (I : Inv X pins σ H s) (h : SqL X.K H a xs) : ∃ its : List Value, Vals xs its ∧ PlainL s.heap a its.toArray ∧ xs.length ≤ sizeLine := by
  rcases h with h | ⟨o, its, n, hk, hc, hd, hs, hz, r⟩
  · obtain ⟨z, its, n, r, e⟩ := h.ok I.hok
    exact ⟨its, r, ⟨_, n, e, rfl, rfl, rfl⟩, z⟩
  · refine ⟨its.toList, r, ⟨o, n, I.kIn a o hk, hc, hd, by simpa using hs⟩, ?_⟩
    have e := r.length
    simp only [Array.length_toList] at e
    omega
theorem Inv.tuple (I : Inv X pins σ H s) (h : SqT X.K H a xs) : ∃ its : List Value, Vals xs its ∧ IsTup s.heap a its.toArray ∧ xs.length ≤ sizeLine := by
  rcases h with h | ⟨o, its, n, hk, hc, hs, hz, r⟩
  · obtain ⟨z, its, r, p⟩ := h.ok I.hok
    exact ⟨its, r, p, z⟩
  · refine ⟨its.toList, r, ⟨o, I.kIn a o hk, hc, n, by simpa using hs⟩, ?_⟩
    have e := r.length
    simp only [Array.length_toList] at e
    omega
theorem Inv.list_inj (I : Inv X pins σ H s) (h : SqL X.K H a xs) (h' : SqL X.K H a ys) : xs = ys := by
  obtain ⟨its, r, ⟨o, n, e, _, _, d⟩, _⟩ := I.list h
  obtain ⟨its', r', ⟨o', n', e', _, _, d'⟩, _⟩ := I.list h'
  rw [e] at e'; cases e'
  rw [d] at d'
  injection d' with d1 _
  have : its = its' := by simpa using congrArg Array.toList d1
  subst this
  exact r.inj r'
end

/-! ### another wish about exceptions -/
abbrev Cx.wish (X : Cx) (E : Value → Shared → Prop) : Cx := { X with xe := E }
/-- no exception leaves -/
abbrev Cx.nox (X : Cx) : Cx := X.wish fun _ _ => False
theorem Cx.Ok.wish {X : Cx} (ok : X.Ok) (E : Value → Shared → Prop) : (X.wish E).Ok :=
  ⟨ok.mod, ok.kind, ok.glob, ok.blt, ok.above, ok.inj, ok.has, ok.cab, ok.hd, ok.frames, ok.stk, ok.exf, ok.bs, ok.bsz, ok.noex, ok.exfs, ok.funs, ok.frf⟩
theorem Cx.Ok.unwish {X : Cx} {E : Value → Shared → Prop} (ok : (X.wish E).Ok) : X.Ok :=
  ⟨ok.mod, ok.kind, ok.glob, ok.blt, ok.above, ok.inj, ok.has, ok.cab, ok.hd, ok.frames, ok.stk, ok.exf, ok.bs, ok.bsz, ok.noex, ok.exfs, ok.funs, ok.frf⟩
section
variable {X : Cx} {pins : List (Addr × Obj)} {σ : St} {H : Hp} {s : Shared} {E : Value → Shared → Prop}
theorem Inv.wish (I : Inv X pins σ H s) (E : Value → Shared → Prop) : Inv (X.wish E) pins σ H s := ⟨I.ok.wish E, I.os, I.bare, I.base, I.loc, I.cell, I.free, I.freeC, I.pin, I.hok, I.len⟩
theorem Inv.unwish (I : Inv (X.wish E) pins σ H s) : Inv X pins σ H s := ⟨I.ok.unwish, I.os, I.bare, I.base, I.loc, I.cell, I.free, I.freeC, I.pin, I.hok, I.len⟩
theorem SP.unwish {D : Ends} {f : Flow} {s' : Shared} (h : SP (X.wish E) pins D f s') : SP X pins D f s' := by
  cases f with
  | next => obtain ⟨σ', H', I, q⟩ := h; exact ⟨σ', H', I.unwish, q⟩
  | brk => obtain ⟨σ', H', I, q⟩ := h; exact ⟨σ', H', I.unwish, q⟩
  | cont => obtain ⟨σ', H', I, q⟩ := h; exact ⟨σ', H', I.unwish, q⟩
  | ret u => obtain ⟨v, σ', H', I, r, q⟩ := h; exact ⟨v, σ', H', I.unwish, r, q⟩
theorem PE.nox {e : Expr} {t : TE} (h : PE X.nox e t) : PE X e t := fun pins s σ H Q I hw =>
  wpAny_mono (h pins s σ H Q (I.wish _) hw) (fun _ _ ⟨v, H', I', r, q⟩ => ⟨v, H', I'.unwish, r, q⟩) fun _ _ z => False.elim z
theorem PT.nox {e : Expr} {t : TT} (h : PT X.nox e t) : PT X e t := fun pins s σ H Q I hw =>
  wpAny_mono (h pins s σ H Q (I.wish _) hw) (fun _ _ ⟨H', I', q⟩ => ⟨H', I'.unwish, q⟩) fun _ _ z => False.elim z
theorem PSs.nox {st : List Stmt} {t : TS} (h : PSs X.nox st t) : PSs X st t := fun pins s σ H D I hw =>
  wpAny_mono (h pins s σ H D (I.wish _) hw) (fun _ _ q => q.unwish) fun _ _ z => False.elim z
end

/-! ### blocks and small statements -/
section
variable {X : Cx} {st : Stmt} {rest : List Stmt} {t u : TS} {e : Expr} {te : TE} {pos : Pos}
def tNext : TS := fun D σ H => D.nx σ H
def tSeq (t u : TS) : TS := fun D σ H => t { D with nx := u D } σ H
theorem pss_nil : PSs X [] tNext := fun _ _ σ H _ I h => wpAny_execs_nil ⟨σ, H, I, h⟩
theorem pss_cons (h1 : PS X st t) (h2 : PSs X rest u) : PSs X (st :: rest) (tSeq t u) := by
  intro pins s σ H D I h
  refine wpAny_execs_cons (thn (h1 pins s σ H { D with nx := u D } I h) fun f s1 q => ?_)
  cases f with
  | next =>
    obtain ⟨σ', H', I', q⟩ := q
    exact h2 pins s1 σ' H' D I' q
  | ret v => exact q
  | brk => exact q
  | cont => exact q
theorem pss_one (h1 : PS X st t) : PSs X [st] t := by
  intro pins s σ H D I h
  refine wpAny_execs_cons (thn (h1 pins s σ H D I h) fun f s1 q => ?_)
  cases f with
  | next => exact wpAny_execs_nil q
  | ret v => exact q
  | brk => exact q
  | cont => exact q
def tBreak : TS := fun D σ H => D.bk σ H
def tCont : TS := fun D σ H => D.ct σ H
/-- in a def's body nothing is shown -/
theorem Inv.quiet {pins : List (Addr × Obj)} {σ : St} {H : Hp} {s : Shared} (I : Inv X pins σ H s) : interactive X.env = false := by simp [interactive, I.ok.kind]
/-- an expression whose value is dropped -/
def tDrop (te : TE) : TS := fun D σ H => te σ H fun _ H1 => D.nx σ H1
theorem ps_expr (he : PE X e te) (hs : swapsWith e none pos.line X.env = pure false := by rfl) : PS X (.Expr e pos) (tDrop te) := by
  intro pins s σ H D I h
  exact wpAny_Expr_any (thn (he pins s σ H _ I h) fun v s1 ⟨x, H1, I1, r1, q1⟩ => ⟨σ, H1, I1, q1⟩) I.quiet hs
def tRet (te : TE) : TS := fun D σ H => te σ H D.rt
theorem ps_ret (he : PE X e te) : PS X (.Return (some e) pos) (tRet te) := by
  intro pins s σ H D I h
  exact wpAny_Return_some (thn (he pins s σ H _ I h) fun v s1 ⟨x, H1, I1, r1, q1⟩ => ⟨x, σ, H1, I1, r1, q1⟩)
def tRetN : TS := fun D _ H => D.rt .non H
def tIfS (c : TT) (t u : TS) : TS := fun D σ H => c σ H fun b H1 => if b = true then t D σ H1 else u D σ H1
theorem ps_if {c : Expr} {a b : List Stmt} {tc : TT} (hc : PT X c tc) (ha : PSs X a t) (hb : PSs X b u) : PS X (.If c a b pos) (tIfS tc t u) := by
  intro pins s σ H D I h
  refine wpAny_If (thn (hc pins s σ H _ I h) fun d s1 ⟨H1, I1, q1⟩ => ?_)
  cases d with
  | true => exact ha pins s1 σ H1 D I1 q1
  | false => exact hb pins s1 σ H1 D I1 q1
/-- code that the proof never comes to -/
def tNever : TS := fun _ _ _ => False
theorem ps_never : PS X st tNever := fun _ _ _ _ _ _ h => h.elim
end

/-! ### targets -/
abbrev TG := V → St → Hp → (St → Hp → Prop) → Prop
abbrev TGs := List V → St → Hp → (St → Hp → Prop) → Prop
def PG (X : Cx) (target : Expr) (t : TG) : Prop :=
  ∀ (pins : List (Addr × Obj)) (s : Shared) (σ : St) (H : Hp) (v : V) (u : Value) (Q : St → Hp → Prop), Inv X pins σ H s → RelV v u → t v σ H Q →
    wpAny (model X.prog X.w) X.A (assign target X.env u) (fun _ s' => ∃ σ' H', Inv X pins σ' H' s' ∧ Q σ' H') X.xe s
/-- several targets, one after another -/
def PGs (X : Cx) (ts : List Expr) (t : TGs) : Prop :=
  ∀ (pins : List (Addr × Obj)) (s : Shared) (σ : St) (H : Hp) (vs : List V) (us : List Value) (Q : St → Hp → Prop), Inv X pins σ H s → Vals vs us → t vs σ H Q →
    wpAny (model X.prog X.w) X.A (assignInOrder ((assignEach ts X.env).map (·.2)) us) (fun _ s' => ∃ σ' H', Inv X pins σ' H' s' ∧ Q σ' H') X.xe s
/-- o[i] = v, by values -/
abbrev TSet := V → V → V → Hp → (Hp → Prop) → Prop
def PSet (X : Cx) (t : TSet) : Prop :=
  ∀ (pins : List (Addr × Obj)) (s : Shared) (σ : St) (H : Hp) (o i v : V) (ov iv u : Value) (Q : Hp → Prop), Inv X pins σ H s → RelV o ov → RelV i iv → RelV v u → t o i v H Q →
    wpAny (model X.prog X.w) X.A (setItem ov iv u) (fun _ s' => ∃ H', Inv X pins σ H' s' ∧ Q H') X.xe s
/-- a op= b, by values -/
abbrev TIp := V → V → Hp → VK → Prop
def PIp (X : Cx) (op : Operator) (t : TIp) : Prop :=
  ∀ (pins : List (Addr × Obj)) (s : Shared) (σ : St) (H : Hp) (x y : V) (v u : Value) (Q : VK), Inv X pins σ H s → RelV x v → RelV y u → t x y H Q →
    wpAny (model X.prog X.w) X.A (inplaceOp op v u) (EP X pins σ Q) X.xe s
section
variable {X : Cx} {pos : Pos}
def gName (i : Nat) : TG := fun v σ H Q => Q (σ.set i (some v)) H
theorem pg_name {i : Nat} {x : Str} (hN : X.N.Nodup) (hi : X.N[i]? = some x) (hx : Loc X.env.scope x) (hf : X.fn x = true ∨ X.env.scope.names.lookup x = some .local := by first | exact .inl rfl | exact .inr rfl | assumption) : PG X (.Name x pos) (gName i) := by
  intro pins s σ H v u Q I r h
  exact wpAny_assign_Name (store_ok I hN hi hx r (fun s' I' => ⟨_, H, I', h⟩) hf)
def gNil : TGs := fun vs σ H Q => vs = [] ∧ Q σ H
def gCons (t : TG) (u : TGs) : TGs := fun vs σ H Q => ∃ v r, vs = v :: r ∧ t v σ H fun σ' H' => u r σ' H' Q
theorem pgs_nil : PGs X [] gNil := by
  intro pins s σ H vs us Q I r h
  obtain ⟨e, h⟩ := h
  subst e
  cases r
  exact assignInOrder_nil ⟨σ, H, I, h⟩
theorem pgs_cons {e : Expr} {es : List Expr} {t : TG} {u : TGs} (h1 : PG X e t) (h2 : PGs X es u)
    (hs : (assignEach (e :: es) X.env).map (·.2) = assign e X.env :: (assignEach es X.env).map (·.2) := by rfl) : PGs X (e :: es) (gCons t u) := by
  intro pins s σ H vs us Q I r h
  obtain ⟨v, vr, e1, h⟩ := h
  subst e1
  cases r with
  | cons r rr =>
    rw [hs]
    refine assignInOrder_cons (thn (h1 pins s σ H _ _ _ I r h) fun _ s1 ⟨σ1, H1, I1, q1⟩ => ?_)
    exact h2 pins s1 σ1 H1 _ _ Q I1 rr q1
/-- (a, b, ..) = a tuple of that length -/
def gTup (K : PySem.W.Frag) (n : Nat) (t : TGs) : TG := fun v σ H Q => ∃ a xs, v = .ref a ∧ SqT K H a xs ∧ xs.length = n ∧ t xs σ H Q
theorem pg_tup {es : List Expr} {k : Nat} {t : TGs} {n : Nat} (hc : X.calm = true) (h : PGs X es t)
    (hn : (assignEach es X.env).length = n := by rfl) (hst : (assignEach es X.env).findIdx? (·.1) = none := by rfl) : PG X (.Tuple es k pos) (gTup X.K n t) := by
  intro pins s σ H v u Q I r hw
  obtain ⟨a, xs, e1, hq, hl, hw⟩ := hw
  subst e1
  cases r
  obtain ⟨its, rv, ht, hz⟩ := I.tuple hq
  refine QQ.assign_Tuple_q I.hq ht (by simp [hn, ← hl, rv.length]) hst fun h' hx => ?_
  have I1 : Inv X pins σ H { s with heap := h' } := I.kept (t' := s.toks) fun b o e => hx b o (Nat.ne_of_lt (Heap.lt_size e)) e
  exact h pins _ σ H xs _ Q I1 (by simpa using rv) hw
/-- o[i] = .. -/
def gSub (to ti : TE) (t : TSet) : TG := fun v σ H Q => to σ H fun o H1 => ti σ H1 fun i H2 => t o i v H2 fun H3 => Q σ H3
theorem pg_sub {o i : Expr} {to ti : TE} {t : TSet} (ho : PE X o to) (hi : PE X i ti) (hs : PSet X t)
    (ha : ∀ v, assign (.Subscript o i pos) X.env v = (do
      let ov ← holding [v] (eval o X.env)
      let iv ← holding [v, ov] (eval i X.env)
      standAt pos
      holding [v, ov, iv] (setItem ov iv v)
      release [v, ov, iv] []) := by intro _; rfl) : PG X (.Subscript o i pos) (gSub to ti t) := by
  intro pins s σ H v u Q I r h
  rw [ha]
  refine wpAny_bind (wpAny_holding (thn (ho pins s σ H _ I h) fun ov s1 ⟨x, H1, I1, r1, q1⟩ => ?_))
  refine wpAny_bind (wpAny_holding (thn (hi pins s1 σ H1 _ I1 q1) fun iv s2 ⟨y, H2, I2, r2, q2⟩ => ?_))
  refine wpAny_bind (wpAny_standAt (wpAny_bind (wpAny_holding (thn (hs pins s2 σ H2 x y v ov iv u _ I2 r1 r2 r q2) fun _ s3 ⟨H3, I3, q3⟩ => ?_))))
  exact wpAny_release ⟨σ, H3, I3, q3⟩
/-- target = value -/
def tAsg (te : TE) (g : TG) : TS := fun D σ H => te σ H fun x H1 => g x σ H1 D.nx
theorem ps_asg {tg e : Expr} {te : TE} {g : TG} (he : PE X e te) (hg : PG X tg g) (hs : swapsWithSole [tg] e pos.line X.env = pure false := by rfl) (hw : swappedStores [tg] e X.env = pure none := by rfl)
    (h1 : (assignEach [tg] X.env).map (·.2) = [assign tg X.env] := by rfl) : PS X (.Assign [tg] e pos) (tAsg te g) := by
  intro pins s σ H D I h
  refine wpAny_Assign_stores (thn (he pins s σ H _ I h) fun v s1 ⟨x, H1, I1, r1, q1⟩ => ?_) hs hw
  rw [h1]
  exact thn (hg pins s1 σ H1 x v _ I1 r1 q1) fun _ s2 q => q
/-- name = value -/
theorem ps_set {i : Nat} {x : Str} {e : Expr} {te : TE} {pos' : Pos} (hN : X.N.Nodup) (hi : X.N[i]? = some x) (hx : Loc X.env.scope x) (he : PE X e te) (hs : swapsWith e (some (.Name x pos')) pos.line X.env = pure false := by rfl) (hf : X.fn x = true ∨ X.env.scope.names.lookup x = some .local := by first | exact .inl rfl | exact .inr rfl | assumption) :
    PS X (.Assign [.Name x pos'] e pos) (tAsg te (gName i)) := by
  intro pins s σ H D I h
  refine wpAny_Assign_Name (thn (he pins s σ H _ I h) fun v s1 ⟨y, H1, I1, r1, q1⟩ => ?_) hs
  exact store_ok I1 hN hi hx r1 (fun s2 I2 => ⟨_, H1, I2, q1⟩) hf
/-- a, b = x, y with plain local names: stored from the right; the pair itself is not tracked (the opening rows as in PyProof/Rows/TupAssign.lean:23) -/
def tPar (i j : Nat) (ta : TA) : TS := fun D σ H => ta σ H fun vs H1 => ∃ v w, vs = [v, w] ∧ D.nx ((σ.set i (some v)).set j (some w)) H1
/-- name op= e -/
def tAug (i : Nat) (te : TE) (ti : TIp) : TS := fun D σ H => ∃ x, σ[i]? = some (some x) ∧ te σ H fun y H1 => ti x y H1 fun z H2 => D.nx (σ.set i (some z)) H2
/-- o[i] op= e -/
def tAugS (to ti te : TE) (tget : V → V → Hp → VK → Prop) (tip : TIp) (tset : TSet) : TS := fun D σ H => to σ H fun o H1 => ti σ H1 fun i H2 => tget o i H2 fun x H3 => te σ H3 fun y H4 => tip x y H4 fun z H5 => tset o i z H5 fun H6 => D.nx σ H6
/-- o[i], by values -/
def PGet (X : Cx) (t : V → V → Hp → VK → Prop) : Prop :=
  ∀ (pins : List (Addr × Obj)) (s : Shared) (σ : St) (H : Hp) (o i : V) (ov iv : Value) (Q : VK), Inv X pins σ H s → RelV o ov → RelV i iv → t o i H Q →
    wpAny (model X.prog X.w) X.A (getItem ov iv) (EP X pins σ Q) X.xe s
/-- ints -/
def ipI (f : Int → Int → Int) : TIp := fun x y H Q => ∃ i j, x = .int i ∧ y = .int j ∧ Q (.int (f i j)) H
end

/-! ### while -/
section
variable {X : Cx} {pos : Pos}
/-- the invariant W with its measure -/
def tWhile (c : TT) (tb : TS) : TS := fun D σ H => ∃ W : Nat → St → Hp → Prop, (∃ m, W m σ H) ∧ ∀ m σ H, W m σ H →
  c σ H fun b H1 => if b = true then ∃ N : St → Hp → Prop, (∀ σ' H', N σ' H' → ∃ m', m' < m ∧ W m' σ' H') ∧ tb { D with nx := N, ct := N, bk := D.nx } σ H1 else D.nx σ H1
theorem ps_while {c : Expr} {body : List Stmt} {tc : TT} {tb : TS} (hp : PassesOwn (model X.prog X.w) X.A X.env X.xe) (hc : PT X c tc) (hb : PSs X body tb) : PS X (.While c body [] pos) (tWhile tc tb) := by
  intro pins s σ H D I h
  obtain ⟨W, ⟨m0, w0⟩, turn⟩ := h
  refine wpAny_While (codeAny_whileLoop (fun n s' => ∃ σ' H', Inv X pins σ' H' s' ∧ W n σ' H') ?_ m0 ⟨σ, H, I, w0⟩)
  rintro n s1 ⟨σ1, H1, I1, w1⟩
  refine wpAny_passesOwn hp (thn (hc pins s1 σ1 H1 _ I1 (turn n σ1 H1 w1)) fun b s2 ⟨H2, I2, q2⟩ => ?_)
  cases b with
  | true =>
    obtain ⟨N, hN, q2⟩ := q2
    rw [if_pos rfl]
    refine wpAny_passesOwn hp (thn (hb pins s2 σ1 H2 _ I2 q2) fun f s3 q3 => ?_)
    cases f with
    | next =>
      obtain ⟨σ3, H3, I3, n3⟩ := q3
      obtain ⟨m', hm, w3⟩ := hN σ3 H3 n3
      exact ⟨m', hm, σ3, H3, I3, w3⟩
    | cont =>
      obtain ⟨σ3, H3, I3, n3⟩ := q3
      obtain ⟨m', hm, w3⟩ := hN σ3 H3 n3
      exact ⟨m', hm, σ3, H3, I3, w3⟩
    | brk => exact q3
    | ret v => exact q3
  | false =>
    rw [if_neg Bool.false_ne_true]
    exact wpAny_execs_nil ⟨σ1, H2, I2, q2⟩
end

/-! ### what a loop or a comprehension walks -/
/-- at turn i: it yields x (the heap may grow), or it stops -/
structure It where
  go : Nat → Hp → Prop
  yld : Nat → Hp → V → Hp → Prop
  stop : Nat → Hp → Prop
/-- the iterator's own objects may turn: they are not the frame's, not pinned, younger than the entry (or a comprehension's own) -/
def FpOk (X : Cx) (pins : List (Addr × Obj)) (H : Hp) (b : Addr) : Prop :=
  H b = none ∧ b ≠ X.env.locals ∧ b ∉ X.fs ∧ (b ∈ X.ex ∨ X.s₀.heap.objs.size ≤ b) ∧ (∀ x c, X.env.cells.lookup x = some c → c ≠ b) ∧ ∀ p ∈ X.pn ++ pins, p.1 ≠ b
theorem Inv.fpOk {X : Cx} {pins : List (Addr × Obj)} {σ : St} {H H' : Hp} {s : Shared} {b : Addr} (I : Inv X pins σ H s) (hb : s.heap.objs.size ≤ b) (hn : H' b = none) : FpOk X pins H' b := by
  refine ⟨hn, Nat.ne_of_gt (Nat.lt_of_lt_of_le I.lt hb), I.nofs hb, .inr (Nat.le_trans I.sz hb), fun x c e z => ?_, fun p hp z => ?_⟩
  · obtain ⟨v, q⟩ := I.cell x c e
    exact absurd (Nat.lt_of_lt_of_le q.lt (by rw [z]; exact hb)) (Nat.lt_irrefl _)
  · exact absurd (Nat.lt_of_lt_of_le (Heap.lt_size (I.pin p hp).1) (by rw [z]; exact hb)) (Nat.lt_irrefl _)
structure Turn (P : Program) (w : World) (K : PySem.W.Frag) (tg : Expr) (J : It) (fp : List Addr) (it : Addr) (tn : Nat → Heap → Prop) : Prop where
  mem : it ∈ fp
  obj : ∀ i h, tn i h → ∀ b ∈ fp, ∃ o, h.get? b = some o ∧ ∀ v, o.data ≠ .cell v
  keep : ∀ i h h', tn i h → (∀ b ∈ fp, ∀ o, h.get? b = some o → h'.get? b = some o) → tn i h'
  item : ∀ (X : Cx), X.prog = P → X.w = w → X.K = K → X.calm = true → ∀ (i : Nat) (pins : List (Addr × Obj)) (s : Shared) (σ : St) (H : Hp) (E : Value → Shared → Prop), Inv X pins σ H s → (∀ b ∈ fp, FpOk X pins H b) → tn i s.heap → J.go i H →
    wpAny (model P w) X.A (pyNext (.ref it)) (fun r s1 => ∃ u, r = some u ∧
      wpAny (model P w) X.A (letOwnedTupleGo tg (.ref it) u) (fun _ s2 => ∃ x H', Inv X pins σ H' s2 ∧ RelV x u ∧ J.yld i H x H' ∧ tn (i + 1) s2.heap ∧ ∀ b ∈ fp, H' b = none) E s1) E s
  done : ∀ (X : Cx), X.prog = P → X.w = w → X.K = K → X.calm = true → ∀ (i : Nat) (pins : List (Addr × Obj)) (s : Shared) (σ : St) (H : Hp) (E : Value → Shared → Prop), Inv X pins σ H s → (∀ b ∈ fp, FpOk X pins H b) → tn i s.heap → J.stop i H →
    wpAny (model P w) X.A (pyNext (.ref it)) (fun r s1 => r = none ∧ Inv X pins σ H s1) E s
  self : ∀ (A : Around) (i : Nat) (s : Shared) (Q : Value → Shared → Prop) (E : Value → Shared → Prop), tn i s.heap → Q (.ref it) s → wpAny (model P w) A (pyIter (.ref it)) Q E s
abbrev TI := St → Hp → (It → Hp → Prop) → Prop
/-- an iterator has come -/
def PIE (X : Cx) (pins : List (Addr × Obj)) (σ : St) (tg : Expr) (R : It → Hp → Prop) (itv : Value) (s2 : Shared) : Prop :=
  ∃ (it : Addr) (fp : List Addr) (tn : Nat → Heap → Prop) (J : It) (H' : Hp), itv = .ref it ∧ Inv X pins σ H' s2 ∧ Turn X.prog X.w X.K tg J fp it tn ∧ tn 0 s2.heap ∧ (∀ b ∈ fp, FpOk X pins H' b) ∧ R J H'
def PI (X : Cx) (tg iter : Expr) (wi : TI) : Prop :=
  ∀ (pins : List (Addr × Obj)) (s : Shared) (σ : St) (H : Hp) (R : It → Hp → Prop), Inv X pins σ H s → wi σ H R →
    wpAny (model X.prog X.w) X.A (eval iter X.env) (fun v s1 => wpAny (model X.prog X.w) X.A (pyIter v) (PIE X pins σ tg R) X.xe s1) X.xe s

/-- the step ahead of the store is nothing for an iterator that keeps no tuple -/
theorem go_of {M : Model} {A : Around} {E : Value → Shared → Prop} {s : Shared} {tg : Expr} {it : Addr} {u : Value} {o : Obj} {n : String} {vs : Array Value} {Q : Unit → Shared → Prop} (ho : s.heap.get? it = some o) (hc : o.cls = .type n) (hd : o.data = .fields vs)
    (hn : ["enumerate", "zip", "dict_itemiterator", "dict_reverseitemiterator", "odict_iterator", "itertools.zip_longest", "itertools.pairwise"].contains n = false) (hQ : Q () s) : wpAny M A (letOwnedTupleGo tg (.ref it) u) Q E s := by
  unfold letOwnedTupleGo
  cases tg <;> first
    | exact wpAny_pure hQ
    | (cases u <;> first
        | exact wpAny_pure hQ
        | (refine wpAny_bind (wpAny_load ho ?_)
           rw [hc, hd]
           show wpAny M A (if (["enumerate", "zip", "dict_itemiterator", "dict_reverseitemiterator", "odict_iterator", "itertools.zip_longest", "itertools.pairwise"].contains n && vs[0]? == some (rawInt _)) = true then _ else _) Q E s
           rw [if_neg (by intro h; rw [hn, Bool.false_and] at h; cases h)]
           exact wpAny_pure hQ))

/-- the list at a, as it stands at each turn (a loop may append to it) -/
def Itl (K : PySem.W.Frag) (a : Addr) : It :=
  ⟨fun i H => ∃ xs x, SqL K H a xs ∧ xs[i]? = some x, fun i H x H' => H' = H ∧ ∀ xs, SqL K H a xs → xs[i]? = some x, fun i H => ∃ xs, SqL K H a xs ∧ xs.length ≤ i⟩
def Itt (K : PySem.W.Frag) (a : Addr) : It :=
  ⟨fun i H => ∃ xs x, SqT K H a xs ∧ xs[i]? = some x, fun i H x H' => H' = H ∧ ∀ xs, SqT K H a xs → xs[i]? = some x, fun i H => ∃ xs, SqT K H a xs ∧ xs.length ≤ i⟩
/-- lo, lo + 1, .. (n of them) -/
def Itr (lo : Int) (n : Nat) : It := ⟨fun i _ => i < n, fun i H x H' => H' = H ∧ x = .int (lo + i), fun i _ => n ≤ i⟩
theorem turn_list {P : Program} {w : World} {K : PySem.W.Frag} {tg : Expr} (a it : Addr) : Turn P w K tg (Itl K a) [it] it (fun i h => h.IsListIter it a i) where
  mem := by simp
  obj := fun i h st b hb => by
    have e : b = it := by simpa using hb
    subst e
    obtain ⟨o, e, c, d⟩ := st
    exact ⟨o, e, fun v z => by rw [d] at z; cases z⟩
  keep := fun i h h' st k => st.at fun o e => k it (by simp) o e
  item := by
    intro X hP hw hK hc i pins s σ H E I hf st hg
    subst hP hw hK
    obtain ⟨xs, x, hq, hx⟩ := hg
    obtain ⟨its, rv, p, hz⟩ := I.list hq
    obtain ⟨u, hu, ru⟩ := rv.get hx
    obtain ⟨f0, f1, f2, f3, f4, f5⟩ := hf it (by simp)
    refine wpAny_pyNext_list_item st p.isList (x := u) (by simpa using hu) fun h' st' sb => ?_
    have I1 : Inv X pins σ H { s with heap := h' } := I.turned (t' := s.toks) (fun b o hb e => (sb.2 b hb).trans e) f0 f1 f3 f4 f5
    obtain ⟨o, e, c, d⟩ := id st'
    exact ⟨u, rfl, go_of (s := { s with heap := h' }) e c d (by decide) ⟨x, H, I1, ru, ⟨rfl, fun ys hy => by rw [I.list_inj hy hq]; exact hx⟩, st', fun b hb => (hf b hb).1⟩⟩
  done := by
    intro X hP hw hK hc i pins s σ H E I hf st hg
    subst hP hw hK
    obtain ⟨xs, hq, hx⟩ := hg
    obtain ⟨its, rv, p, hz⟩ := I.list hq
    obtain ⟨f0, f1, f2, f3, f4, f5⟩ := hf it (by simp)
    have hl := rv.length
    exact QQ.list_end_q I.hq st p.isList (by simp; omega) fun h' eb => ⟨rfl, I.turned (t' := s.toks) (fun b o hb e => eb b o hb e) f0 f1 f3 f4 f5⟩
  self := fun _ _ _ _ _ st h => wpAny_pyIter_listiter st h
theorem turn_range {P : Program} {w : World} {K : PySem.W.Frag} {tg : Expr} (it : Addr) (lo : Int) (n : Nat) : Turn P w K tg (Itr lo n) [it] it (fun i h => IsRangeIter h it (lo + (i : Nat) * 1) ((n : Int) - (i : Nat)) 1) where
  mem := by simp
  obj := fun i h st b hb => by
    have e : b = it := by simpa using hb
    subst e
    exact ⟨_, st, fun v z => by
      have z' : Data.fields _ = Data.cell v := z
      cases z'⟩
  keep := fun i h h' st k => k it (by simp) _ st
  item := by
    intro X hP hw hK hc i pins s σ H E I hf st hg
    subst hP hw hK
    obtain ⟨f0, f1, f2, f3, f4, f5⟩ := hf it (by simp)
    refine wpAny_pyNext_range_item st (by have : i < n := hg; omega) fun h' st1 sb => ?_
    have st' : IsRangeIter h' it (lo + ((i + 1 : Nat) : Int) * 1) ((n : Int) - ((i + 1 : Nat) : Int)) 1 := by
      have e1 : lo + ((i + 1 : Nat) : Int) * 1 = lo + (i : Int) * 1 + 1 := by omega
      have e2 : (n : Int) - ((i + 1 : Nat) : Int) = (n : Int) - (i : Int) - 1 := by omega
      rw [e1, e2]; exact st1
    have I1 : Inv X pins σ H { s with heap := h', toks := s.toks + 1 } := I.turned (fun b o hb e => sb.extBut b o hb e) f0 f1 f3 f4 f5
    refine ⟨_, rfl, go_of (s := { s with heap := h', toks := s.toks + 1 }) (n := "range_iterator") st' rfl rfl (by decide) ⟨.int (lo + i), H, I1, ⟨s.toks, ?_⟩, ⟨rfl, rfl⟩, st', fun b hb => (hf b hb).1⟩⟩
    rw [Int.mul_one]
  done := by
    intro X hP hw hK hc i pins s σ H E I hf st hg
    subst hP hw hK
    obtain ⟨f0, f1, f2, f3, f4, f5⟩ := hf it (by simp)
    exact QQ.range_end_q I.hq st (by have : n ≤ i := hg; omega) fun h' eb => ⟨rfl, I.turned (t' := s.toks) (fun b o hb e => eb b o hb e) f0 f1 f3 f4 f5⟩
  self := fun _ _ _ _ _ st h => wpAny_pyIter_rangeiter st h
end L2

namespace L2
open PySem PySem.Spec PyProof.Rows
section
variable {X : Cx} {tg : Expr}
def iList (K : PySem.W.Frag) (tl : TE) : TI := fun σ H R => tl σ H fun x H1 => ∃ a, x = .ref a ∧ (∃ xs, SqL K H1 a xs) ∧ R (Itl K a) H1
def iTup (K : PySem.W.Frag) (tl : TE) : TI := fun σ H R => tl σ H fun x H1 => ∃ a, x = .ref a ∧ (∃ xs, SqT K H1 a xs) ∧ R (Itt K a) H1
theorem pi_list {l : Expr} {tl : TE} (hl : PE X l tl) : PI X tg l (iList X.K tl) := by
  intro pins s σ H R I h
  refine thn (hl pins s σ H _ I h) fun v s1 ⟨x, H1, I1, r1, q1⟩ => ?_
  obtain ⟨a, e, ⟨xs, hq⟩, q⟩ := q1
  subst e
  cases r1
  obtain ⟨its, rv, p, hz⟩ := I1.list hq
  refine wpAny_pyIter_list p.isList ?_
  refine ⟨s1.heap.objs.size, [s1.heap.objs.size], _, _, H1, rfl, I1.kept (t' := s1.toks) fun b o e => Heap.get?_push_of_some _ e, turn_list a _, ⟨_, Heap.get?_push_size _ rfl, rfl, rfl⟩, fun b hb => ?_, q⟩
  have e : b = s1.heap.objs.size := by simpa using hb
  subst e
  exact I1.fpOk (Nat.le_refl _) (I1.hok.fresh (Nat.le_refl _))
/-- a range object just made, walked -/
theorem range_it {pins : List (Addr × Obj)} {σ : St} {H : Hp} {s : Shared} {R : It → Hp → Prop} {E : Value → Shared → Prop} {lo hi : Int} {t u v : Tok} {tk : Nat} (I : Inv X pins σ H s) (h1 : -(2 ^ 62) ≤ lo) (h2 : lo < 2 ^ 62) (h3 : -(2 ^ 62) ≤ hi) (h4 : hi < 2 ^ 62)
    (q : R (Itr lo (hi - lo).toNat) H) : wpAny (model X.prog X.w) X.A (pyIter (.ref s.heap.objs.size)) (PIE X pins σ tg R) E { s with heap := s.heap.push { cls := .type "range", data := .fields #[.int lo t, .int hi u, .int 1 v] }, toks := tk } := by
  refine wpAny_pyIter_range (IsRange.new ..) (small_one h1 h2 h3 h4) ?_
  have I1 : Inv X pins σ H { s with heap := s.heap.push { cls := .type "range", data := .fields #[.int lo t, .int hi u, .int 1 v] }, toks := tk } := I.kept fun b o e => Heap.get?_push_of_some _ e
  refine ⟨(s.heap.push { cls := .type "range", data := .fields #[.int lo t, .int hi u, .int 1 v] }).objs.size, [(s.heap.push { cls := .type "range", data := .fields #[.int lo t, .int hi u, .int 1 v] }).objs.size], _, _, H, rfl,
    I1.kept (t' := tk) fun b o e => Heap.get?_push_of_some _ e, turn_range _ lo (hi - lo).toNat, ?_, fun b hb => ?_, q⟩
  · have e1 : lo + ((0 : Nat) : Int) * 1 = lo := by simp
    have e2 : (((hi - lo).toNat : Nat) : Int) - ((0 : Nat) : Int) = Builtin.Range.rangeSize lo hi 1 := by rw [rangeSize_one]; split <;> omega
    show IsRangeIter _ _ (lo + ((0 : Nat) : Int) * 1) ((((hi - lo).toNat : Nat) : Int) - ((0 : Nat) : Int)) 1
    rw [e1, e2]
    exact Heap.get?_push_size _ rfl
  · have e : b = (s.heap.push { cls := .type "range", data := .fields #[.int lo t, .int hi u, .int 1 v] }).objs.size := by simpa using hb
    subst e
    exact I1.fpOk (Nat.le_refl _) (I1.hok.fresh (Nat.le_refl _))
def iRng1 (ta : TA) : TI := fun σ H R => ta σ H fun vs H1 => ∃ j : Int, vs = [.int j] ∧ -(2 ^ 62) ≤ j ∧ j < 2 ^ 62 ∧ R (Itr 0 j.toNat) H1
def iRng2 (ta : TA) : TI := fun σ H R => ta σ H fun vs H1 => ∃ i j : Int, vs = [.int i, .int j] ∧ (-(2 ^ 62) ≤ i ∧ i < 2 ^ 62 ∧ -(2 ^ 62) ≤ j ∧ j < 2 ^ 62) ∧ R (Itr i (j - i).toNat) H1
theorem pi_range1 {a : Expr} {ta : TA} {p pos : Pos} (hg : Gl X "range") (hm : X.mg "range" = none) (ha : PA X [a] ta) (hs : starEach [a] X.env = [(false, eval a X.env)] := by rfl) : PI X tg (.Call (.Name "range" p) [a] [] pos) (iRng1 ta) := by
  intro pins s σ H R I h
  refine Call_ (ld_blt I hg hm boot_range (PyProof.Rows.callWith_type1 (thn (ha pos pins s σ H _ I h) fun us s1 ⟨vs, H1, I1, r1, q1⟩ => ?_) hs rfl))
  obtain ⟨j, e, q1, q2, q⟩ := q1
  subst e
  cases r1 with
  | cons r rr =>
    cases rr
    obtain ⟨t, rfl⟩ := r
    exact call_range_1 (range_it I1 (by omega) (by omega) q1 q2 (by simpa using q))
theorem pi_range2 {a b : Expr} {ta : TA} {p pos : Pos} (hg : Gl X "range") (hm : X.mg "range" = none) (ha : PA X [a, b] ta) (hs : starEach [a, b] X.env = [(false, eval a X.env), (false, eval b X.env)] := by rfl) (hs2 : starEach [b] X.env = [(false, eval b X.env)] := by rfl) :
    PI X tg (.Call (.Name "range" p) [a, b] [] pos) (iRng2 ta) := by
  intro pins s σ H R I h
  refine Call_ (ld_blt I hg hm boot_range (PyProof.Rows.callWith_type1 (thn (ha pos pins s σ H _ I h) fun us s1 ⟨vs, H1, I1, r1, q1⟩ => ?_) (by rw [hs, hs2]) (by rw [hs2]; rfl)))
  obtain ⟨i, j, e, ⟨q1, q2, q3, q4⟩, q⟩ := q1
  subst e
  cases r1 with
  | cons r rr =>
    cases rr with
    | cons r' rr =>
      cases rr
      obtain ⟨t, rfl⟩ := r
      obtain ⟨t', rfl⟩ := r'
      exact call_range_2 (range_it I1 q1 q2 q3 q4 q)

/-! ### for -/
/-- W: the invariant by the turn and a measure; N: what the body is to reach -/
def tFor (wi : TI) (g : TG) (tb : TS) : TS := fun D σ H => wi σ H fun J H1 => ∃ W : Nat → Nat → St → Hp → Prop, (∃ m, W 0 m σ H1) ∧ ∀ i m σ H, W i m σ H →
  (J.stop i H ∧ D.nx σ H) ∨ (J.go i H ∧ ∃ N : St → Hp → Prop, (∀ σ' H', N σ' H' → ∃ m', m' < m ∧ W (i + 1) m' σ' H') ∧ ∀ x H', J.yld i H x H' → g x σ H' fun σ2 H2 => tb { D with nx := N, ct := N, bk := D.nx } σ2 H2)
/-- the records at fp as they stand -/
def pinsAt (fp : List Addr) (h : Heap) : List (Addr × Obj) := fp.filterMap fun b => (h.get? b).map fun o => (b, o)
theorem mem_pinsAt {fp : List Addr} {h : Heap} {b : Addr} {o : Obj} (hb : b ∈ fp) (e : h.get? b = some o) : (b, o) ∈ pinsAt fp h := List.mem_filterMap.mpr ⟨b, hb, by rw [e]; rfl⟩
theorem of_pinsAt {fp : List Addr} {h : Heap} {p : Addr × Obj} (hp : p ∈ pinsAt fp h) : p.1 ∈ fp ∧ h.get? p.1 = some p.2 := by
  obtain ⟨b, hb, e⟩ := List.mem_filterMap.mp hp
  cases q : h.get? b with
  | none => rw [q] at e; cases e
  | some o =>
    rw [q] at e
    have e' : (b, o) = p := Option.some.inj e
    subst e'
    exact ⟨hb, q⟩
theorem Inv.pinned {pins : List (Addr × Obj)} {σ : St} {H : Hp} {s : Shared} {fp : List Addr} (I : Inv X pins σ H s) (hf : ∀ b ∈ fp, FpOk X pins H b) (ho : ∀ b ∈ fp, ∃ o, s.heap.get? b = some o ∧ ∀ v, o.data ≠ .cell v) : Inv X (pins ++ pinsAt fp s.heap) σ H s :=
  I.pins_of fun p hp => (List.mem_append.mp hp).elim (fun z => I.pin p (List.mem_append_right _ z)) fun z => by
    obtain ⟨hb, e⟩ := of_pinsAt z
    obtain ⟨f0, f1, f2, _⟩ := hf p.1 hb
    obtain ⟨o, e', d⟩ := ho p.1 hb
    rw [e] at e'; cases e'
    exact ⟨e, f0, f1, f2, d⟩
theorem Inv.unpinned {pins pl : List (Addr × Obj)} {σ : St} {H : Hp} {s : Shared} (I : Inv X (pins ++ pl) σ H s) : Inv X pins σ H s := I.pins_of fun p hp => I.pin p (List.mem_append_right _ (List.mem_append_left _ hp))
theorem ps_for {iter : Expr} {body : List Stmt} {wi : TI} {g : TG} {tb : TS} {pos : Pos} (hp : PassesOwn (model X.prog X.w) X.A X.env X.xe) (hc : X.calm = true) (hi : PI X tg iter wi) (hg : PG X tg g) (hb : PSs X body tb)
    (hs : ∀ x, foldedSetIterable iter X.env x = pure x := by intro _; rfl) : PS X (.For tg iter body [] pos) (tFor wi g tb) := by
  intro pins s σ H D I h
  refine wpAny_For (thn (hi pins s σ H _ I h) fun v s1 h1 => thn h1 fun itv s2 h2 => ?_) hs
  obtain ⟨it, fp, tn, J, H2, e, I2, T, st2, f2, W, ⟨m0, w0⟩, turn⟩ := h2
  subst e
  -- what stays true of the iterator's objects through the loop
  have stat : ∀ {H' : Hp}, (∀ b ∈ fp, H' b = none) → ∀ b ∈ fp, FpOk X pins H' b := fun hn b hb => ⟨hn b hb, (f2 b hb).2⟩
  refine codeAny_forLoop_any (fun n s' => ∃ i σ' H', Inv X pins σ' H' s' ∧ tn i s'.heap ∧ (∀ b ∈ fp, H' b = none) ∧ W i n σ' H') ?_ m0 ⟨0, σ, H2, I2, st2, fun b hb => (f2 b hb).1, w0⟩
  rintro n s3 ⟨i, σ3, H3, I3, st3, fr3, w3⟩
  rcases turn i n σ3 H3 w3 with ⟨stop, qn⟩ | ⟨go, N, hN, step⟩
  · refine wpAny_passesOwn hp (thn (T.done X rfl rfl rfl hc i pins s3 σ3 H3 X.xe I3 (stat fr3) st3 stop) fun r s4 ⟨hr, I4⟩ => ?_)
    subst hr
    exact wpAny_execs_nil ⟨σ3, H3, I4, qn⟩
  · refine wpAny_passesOwn hp (thn (T.item X rfl rfl rfl hc i pins s3 σ3 H3 X.xe I3 (stat fr3) st3 go) fun r s4 ⟨u, hr, h4⟩ => ?_)
    subst hr
    refine wpAny_passesOwn hp (thn h4 fun _ s5 ⟨x, H5, I5, r5, y5, st5, fr5⟩ => ?_)
    have I5' := I5.pinned (stat fr5) (T.obj _ _ st5)
    refine wpAny_passesOwn hp (thn (hg _ s5 σ3 H5 x u _ I5' r5 (step x H5 y5)) fun _ s6 ⟨σ6, H6, I6, q6⟩ => ?_)
    refine wpAny_passesOwn hp (thn (hb _ s6 σ6 H6 _ I6 q6) fun f s7 q7 => ?_)
    have again : ∀ {σ7 : St} {H7 : Hp}, Inv X (pins ++ pinsAt fp s5.heap) σ7 H7 s7 → N σ7 H7 → ∃ m, m < n ∧ ∃ i σ' H', Inv X pins σ' H' s7 ∧ tn i s7.heap ∧ (∀ b ∈ fp, H' b = none) ∧ W i m σ' H' := fun {σ7 H7} I7 n7 => by
      obtain ⟨m', hm, w7⟩ := hN σ7 H7 n7
      refine ⟨m', hm, i + 1, σ7, H7, I7.unpinned, T.keep _ _ _ st5 fun b hb o e => (I7.pin (b, o) (List.mem_append_right _ (List.mem_append_right _ (mem_pinsAt hb e)))).1, fun b hb => ?_, w7⟩
      obtain ⟨o, e, d⟩ := T.obj _ _ st5 b hb
      exact (I7.pin (b, o) (List.mem_append_right _ (List.mem_append_right _ (mem_pinsAt hb e)))).2.1
    cases f with
    | next => obtain ⟨σ7, H7, I7, n7⟩ := q7; exact again I7 n7
    | cont => obtain ⟨σ7, H7, I7, n7⟩ := q7; exact again I7 n7
    | brk => obtain ⟨σ7, H7, I7, q7⟩ := q7; exact ⟨σ7, H7, I7.unpinned, q7⟩
    | ret v => obtain ⟨x7, σ7, H7, I7, r7, q7⟩ := q7; exact ⟨x7, σ7, H7, I7.unpinned, r7, q7⟩
end

/-! ### the forms one uses -/
/-- over a list that the body leaves as it is -/
theorem for_list {K : PySem.W.Frag} {a : Addr} {xs : List V} {g : TG} {tb : TS} {D : Ends} {σ : St} {H : Hp} (Pv : Nat → St → Hp → Prop) (h0 : Pv 0 σ H) (hl : ∀ i σ H, i ≤ xs.length → Pv i σ H → SqL K H a xs)
    (hs : ∀ i x σ H, xs[i]? = some x → Pv i σ H → g x σ H fun σ2 H2 => tb { D with nx := Pv (i + 1), ct := Pv (i + 1), bk := D.nx } σ2 H2) (hd : ∀ σ H, Pv xs.length σ H → D.nx σ H) :
    ∃ W : Nat → Nat → St → Hp → Prop, (∃ m, W 0 m σ H) ∧ ∀ i m σ H, W i m σ H →
      ((Itl K a).stop i H ∧ D.nx σ H) ∨ ((Itl K a).go i H ∧ ∃ N : St → Hp → Prop, (∀ σ' H', N σ' H' → ∃ m', m' < m ∧ W (i + 1) m' σ' H') ∧ ∀ x H', (Itl K a).yld i H x H' → g x σ H' fun σ2 H2 => tb { D with nx := N, ct := N, bk := D.nx } σ2 H2) := by
  refine ⟨fun i m σ H => m = xs.length - i ∧ i ≤ xs.length ∧ Pv i σ H, ⟨xs.length, by simp, Nat.zero_le _, h0⟩, ?_⟩
  rintro i m σ H ⟨rfl, hi, p⟩
  have q := hl i σ H hi p
  by_cases hlt : i < xs.length
  · refine .inr ⟨⟨xs, xs[i], q, by simp [hlt]⟩, Pv (i + 1), fun σ' H' p' => ⟨xs.length - (i + 1), by omega, rfl, hlt, p'⟩, fun x H' y => ?_⟩
    obtain ⟨e, y⟩ := y
    subst e
    exact hs i x σ _ (y xs q) p
  · have e : i = xs.length := by omega
    subst e
    exact .inl ⟨⟨xs, q, Nat.le_refl _⟩, hd σ H p⟩
theorem for_range {lo : Int} {n : Nat} {g : TG} {tb : TS} {D : Ends} {σ : St} {H : Hp} (Pv : Nat → St → Hp → Prop) (h0 : Pv 0 σ H)
    (hs : ∀ i σ H, i < n → Pv i σ H → g (.int (lo + i)) σ H fun σ2 H2 => tb { D with nx := Pv (i + 1), ct := Pv (i + 1), bk := D.nx } σ2 H2) (hd : ∀ σ H, Pv n σ H → D.nx σ H) :
    ∃ W : Nat → Nat → St → Hp → Prop, (∃ m, W 0 m σ H) ∧ ∀ i m σ H, W i m σ H →
      ((Itr lo n).stop i H ∧ D.nx σ H) ∨ ((Itr lo n).go i H ∧ ∃ N : St → Hp → Prop, (∀ σ' H', N σ' H' → ∃ m', m' < m ∧ W (i + 1) m' σ' H') ∧ ∀ x H', (Itr lo n).yld i H x H' → g x σ H' fun σ2 H2 => tb { D with nx := N, ct := N, bk := D.nx } σ2 H2) := by
  refine ⟨fun i m σ H => m = n - i ∧ i ≤ n ∧ Pv i σ H, ⟨n, by simp, Nat.zero_le _, h0⟩, ?_⟩
  rintro i m σ H ⟨rfl, hi, p⟩
  by_cases hlt : i < n
  · refine .inr ⟨hlt, Pv (i + 1), fun σ' H' p' => ⟨n - (i + 1), by omega, rfl, hlt, p'⟩, fun x H' y => ?_⟩
    obtain ⟨e, y⟩ := y
    subst e y
    exact hs i σ _ hlt p
  · have e : i = n := by omega
    subst e
    exact .inl ⟨Nat.le_refl _, hd σ H p⟩
end L2

namespace L2
open PySem PySem.Spec PyProof.Rows

abbrev R2 := V → V → Hp → VK → Prop
/-- a two-place operation on values: f is binaryOp op, inplaceOp op or compareOp op -/
def OpR (X : Cx) (f : Value → Value → Sem Value) (r : R2) : Prop :=
  ∀ (pins : List (Addr × Obj)) (s : Shared) (σ : St) (H : Hp) (x y : V) (v u : Value) (Q : VK), Inv X pins σ H s → RelV x v → RelV y u → r x y H Q →
    wpAny (model X.prog X.w) X.A (f v u) (EP X pins σ Q) X.xe s
/-- a one-place operation -/
def UnR (X : Cx) (f : Value → Sem Value) (r : V → Hp → VK → Prop) : Prop :=
  ∀ (pins : List (Addr × Obj)) (s : Shared) (σ : St) (H : Hp) (x : V) (v : Value) (Q : VK), Inv X pins σ H s → RelV x v → r x H Q →
    wpAny (model X.prog X.w) X.A (f v) (EP X pins σ Q) X.xe s
/-- a call of a value that is known (a builtin, a type) with values -/
def CallR (X : Cx) (f : Value) (r : List V → Hp → VK → Prop) : Prop :=
  ∀ (pins : List (Addr × Obj)) (s : Shared) (σ : St) (H : Hp) (xs : List V) (us : List Value) (Q : VK), Inv X pins σ H s → Vals xs us → r xs H Q →
    wpAny (model X.prog X.w) X.A (call f us) (EP X pins σ Q) X.xe s
/-- a value's truth -/
def TruR (X : Cx) (r : V → Hp → (Bool → Hp → Prop) → Prop) : Prop :=
  ∀ (pins : List (Addr × Obj)) (s : Shared) (σ : St) (H : Hp) (x : V) (v : Value) (Q : Bool → Hp → Prop), Inv X pins σ H s → RelV x v → r x H Q →
    wpAny (model X.prog X.w) X.A (truthy v) (TP X pins σ Q) X.xe s

def tOp (r : R2) (ta tb : TE) : TE := fun σ H Q => ta σ H fun x H1 => tb σ H1 fun y H2 => r x y H2 Q
def tUn (r : V → Hp → VK → Prop) (ta : TE) : TE := fun σ H Q => ta σ H fun x H1 => r x H1 Q
/-- ints in, under C, and a value out -/
def rI (C : Int → Int → Prop) (g : Int → Int → V) : R2 := fun x y H Q => ∃ i j, x = .int i ∧ y = .int j ∧ C i j ∧ Q (g i j) H
def rI0 (g : Int → Int → V) : R2 := fun x y H Q => ∃ i j, x = .int i ∧ y = .int j ∧ Q (g i j) H
def rU (g : Int → V) : V → Hp → VK → Prop := fun x H Q => ∃ i, x = .int i ∧ Q (g i) H

section
variable {X : Cx} {a b c : Expr} {ta tb tc : TE} {pos : Pos}

theorem binT (ha : PE X a ta) (hb : PE X b tb) {pins : List (Addr × Obj)} {s : Shared} {σ : St} {H : Hp} {R : V → V → Hp → Prop} (I : Inv X pins σ H s)
    (h : ta σ H fun x H1 => tb σ H1 fun y H2 => R x y H2) {Q : Value → Shared → Prop} {f : Value → Value → Sem Value}
    (hf : ∀ v u s2 x y H2, Inv X pins σ H2 s2 → RelV x v → RelV y u → R x y H2 → wpAny (model X.prog X.w) X.A (f v u) Q X.xe s2) :
    wpAny (model X.prog X.w) X.A (eval a X.env) (fun v s₁ => wpAny (model X.prog X.w) X.A (eval b X.env) (fun u s₂ => wpAny (model X.prog X.w) X.A (f v u) Q X.xe s₂) X.xe s₁) X.xe s := by
  refine thn (ha pins s σ H _ I h) fun v s1 ⟨x, H1, I1, r1, q1⟩ => ?_
  refine thn (hb pins s1 σ H1 _ I1 q1) fun u s2 ⟨y, H2, I2, r2, q2⟩ => ?_
  exact hf v u s2 x y H2 I2 r1 r2 q2

theorem pe_op {op : Operator} {r : R2} (ho : OpR X (binaryOp op) r) (ha : PE X a ta) (hb : PE X b tb) : PE X (.BinOp a op b pos) (tOp r ta tb) := by
  intro pins s σ H Q I h
  exact wpAny_BinOp (binT ha hb I h fun v u s2 x y H2 I2 rx ry q => ho pins s2 σ H2 x y v u Q I2 rx ry q)
theorem pe_un {op : UnaryOp} {r : V → Hp → VK → Prop} (ho : UnR X (unaryOp op) r) (ha : PE X a ta) : PE X (.UnaryOp op a pos) (tUn r ta) := by
  intro pins s σ H Q I h
  exact UnaryOp_ (thn (ha pins s σ H _ I h) fun v s1 ⟨x, H1, I1, r1, q1⟩ => ho pins s1 σ H1 x v Q I1 r1 q1)
/-! ### ints -/
theorem opI {f : Value → Value → Sem Value} {C : Int → Int → Prop} {g : Int → Int → Int}
    (rule : ∀ (i j : Int) (t u : Tok) (s : Shared) (Q : Value → Shared → Prop) (E : Value → Shared → Prop), C i j → Q (.int (g i j) s.toks) { s with toks := s.toks + 1 } → wpAny (model X.prog X.w) X.A (f (.int i t) (.int j u)) Q E s) :
    OpR X f (rI C fun i j => .int (g i j)) := by
  intro pins s σ H x y v u Q I rx ry h
  obtain ⟨i, j, rfl, rfl, hc, q⟩ := h
  obtain ⟨t, rfl⟩ := rx
  obtain ⟨t', rfl⟩ := ry
  exact rule i j t t' s _ _ hc ⟨.int (g i j), H, I.tok _, ⟨_, rfl⟩, q⟩
theorem opI0 {f : Value → Value → Sem Value} {g : Int → Int → Int}
    (rule : ∀ (i j : Int) (t u : Tok) (s : Shared) (Q : Value → Shared → Prop) (E : Value → Shared → Prop), Q (.int (g i j) s.toks) { s with toks := s.toks + 1 } → wpAny (model X.prog X.w) X.A (f (.int i t) (.int j u)) Q E s) :
    OpR X f (rI0 fun i j => .int (g i j)) := by
  intro pins s σ H x y v u Q I rx ry h
  obtain ⟨i, j, rfl, rfl, q⟩ := h
  obtain ⟨t, rfl⟩ := rx
  obtain ⟨t', rfl⟩ := ry
  exact rule i j t t' s _ _ ⟨.int (g i j), H, I.tok _, ⟨_, rfl⟩, q⟩
theorem opB0 {f : Value → Value → Sem Value} {g : Int → Int → Bool}
    (rule : ∀ (i j : Int) (t u : Tok) (s : Shared) (Q : Value → Shared → Prop) (E : Value → Shared → Prop), Q (.bool (g i j)) s → wpAny (model X.prog X.w) X.A (f (.int i t) (.int j u)) Q E s) :
    OpR X f (rI0 fun i j => .bl (g i j)) := by
  intro pins s σ H x y v u Q I rx ry h
  obtain ⟨i, j, rfl, rfl, q⟩ := h
  obtain ⟨t, rfl⟩ := rx
  obtain ⟨t', rfl⟩ := ry
  exact rule i j t t' s _ _ ⟨.bl (g i j), H, I, rfl, q⟩

def CDiv (i j : Int) : Prop := 0 < j ∧ j < 1073741824
def CDivN (i j : Int) : Prop := j ≠ 0 ∧ j.natAbs < 1073741824
def CPow (i j : Int) : Prop := 0 ≤ j ∧ j ≤ 1000000 ∧ i.natAbs < 2 ^ 64
def CMul (i j : Int) : Prop := (-(2 ^ 64) < i ∧ i < 2 ^ 64) ∨ (-(2 ^ 64) < j ∧ j < 2 ^ 64)
theorem CMul.ok {i j : Int} (h : CMul i j) : IntMulOk i j := by
  rcases h with ⟨h1, h2⟩ | ⟨h1, h2⟩
  · exact .of_left (intBits_le_64 h1 h2)
  · exact .of_right (intBits_le_64 h1 h2)
theorem two_pow_nn (k : Nat) : (0 : Int) ≤ 2 ^ k := by
  rw [two_pow_cast]
  exact Int.natCast_nonneg _

theorem op_add : OpR X (binaryOp .Add) (rI0 fun i j => .int (i + j)) := opI0 fun _ _ _ _ _ _ _ q => add_int q
theorem op_sub : OpR X (binaryOp .Sub) (rI0 fun i j => .int (i - j)) := opI0 fun _ _ _ _ _ _ _ q => sub_int q
theorem op_mul : OpR X (binaryOp .Mult) (rI CMul fun i j => .int (i * j)) := opI fun _ _ _ _ _ _ _ hc q => mul_int q hc.ok
/-- // by a positive divisor -/
theorem op_fdiv : OpR X (binaryOp .FloorDiv) (rI CDiv fun i j => .int (i / j)) := opI fun i j _ _ _ _ _ hc q => by
  have h1 : (0 : Int) < j := hc.1
  have h2 : j < 1073741824 := hc.2
  exact floordiv_int (by omega) (by rw [Int.fdiv_eq_ediv_of_nonneg i (by omega)]; exact q) (.inl (PyProof.noPylong_small (by omega)))
/-- % by a positive divisor of any size -/
theorem op_mod : OpR X (binaryOp .Mod) (rI (fun _ j => 0 < j) fun i j => .int (i % j)) := opI fun i j _ _ _ _ _ hc q => by
  have h1 : (0 : Int) < j := hc
  exact mod_int' (by omega) (by rw [Int.fmod_eq_emod_of_nonneg i (by omega)]; exact q)
theorem op_shl : OpR X (binaryOp .LShift) (rI CPow fun i j => .int (i * 2 ^ j.toNat)) := opI fun _ _ _ _ _ _ _ hc q => lshift_int_small hc.1 hc.2.1 hc.2.2 q
theorem op_shr : OpR X (binaryOp .RShift) (rI (fun _ j => 0 ≤ j) fun i j => .int (i / 2 ^ j.toNat)) := opI fun i j _ _ _ _ _ hc q =>
  rshift_int hc (by rw [Int.fdiv_eq_ediv_of_nonneg i (two_pow_nn _)]; exact q)
theorem op_and : OpR X (binaryOp .BitAnd) (rI0 fun i j => .int (Builtin.bitAnd i j)) := opI0 fun _ _ _ _ _ _ _ q => and_int q
theorem op_or : OpR X (binaryOp .BitOr) (rI0 fun i j => .int (Builtin.bitOr i j)) := opI0 fun _ _ _ _ _ _ _ q => or_int q
theorem unI {f : Value → Sem Value} {g : Int → Int}
    (rule : ∀ (i : Int) (t : Tok) (s : Shared) (Q : Value → Shared → Prop) (E : Value → Shared → Prop), Q (.int (g i) s.toks) { s with toks := s.toks + 1 } → wpAny (model X.prog X.w) X.A (f (.int i t)) Q E s) :
    UnR X f (rU fun i => .int (g i)) := by
  intro pins s σ H x v Q I rx h
  obtain ⟨i, rfl, q⟩ := h
  obtain ⟨t, rfl⟩ := rx
  exact rule i t s _ _ ⟨.int (g i), H, I.tok _, ⟨_, rfl⟩, q⟩
theorem un_neg : UnR X (unaryOp .USub) (rU fun i => .int (-i)) := unI fun _ _ _ _ _ q => neg_int q
/-! ### bools among ints: n += (a < b) -/
end

/-! ### comparisons -/
/-- the scalars that == tells apart as data does -/
def scal : V → V → Bool
  | .non, .non => true | .non, .int _ => true | .int _, .non => true | .non, .bl _ => true | .bl _, .non => true | .non, .str _ => true | .str _, .non => true
  | .int _, .int _ => true | .bl _, .bl _ => true | .str _, .str _ => true | .byt _, .byt _ => true
  | .int _, .str _ => true | .str _, .int _ => true | .bl _, .str _ => true | .str _, .bl _ => true
  | _, _ => false
def rEq : R2 := fun x y H Q => scal x y = true ∧ Q (.bl (decide (x = y))) H
def rNe : R2 := fun x y H Q => scal x y = true ∧ Q (.bl (!decide (x = y))) H

theorem dec_int {i j : Int} : decide (V.int i = V.int j) = (i == j) := by
  rw [Bool.eq_iff_iff]
  simp
theorem dec_bl {i j : Bool} : decide (V.bl i = V.bl j) = (i == j) := by
  rw [Bool.eq_iff_iff]
  simp
theorem dec_str {i j : Str} : decide (V.str i = V.str j) = (i == j) := by
  rw [Bool.eq_iff_iff]
  simp
theorem dec_byt {i j : Array UInt8} : decide (V.byt i = V.byt j) = (i.toList == j.toList) := by
  rw [Bool.eq_iff_iff]
  cases i
  cases j
  simp

section
variable {X : Cx} {a b c : Expr} {ta tb tc : TE} {pos : Pos}
theorem fin_bl {pins : List (Addr × Obj)} {σ : St} {H : Hp} {s : Shared} {Q : VK} {k k' : Bool} (I : Inv X pins σ H s) (q : Q (.bl k) H) (e : k = k') : EP X pins σ Q (.bool k') s := by
  subst e
  exact ⟨.bl k, H, I, rfl, q⟩
theorem op_eq : OpR X (compareOp .Eq) rEq := by
  intro pins s σ H x y v u Q I rx ry h
  obtain ⟨hs, q⟩ := h
  cases x with
  | non =>
    cases rx
    cases y with
    | non => cases ry; exact PySem.EqNone.eq_none_none (fin_bl I q (by simp))
    | bl j => cases ry; exact PySem.EqNone.eq_none_bool (fin_bl I q (by simp))
    | int j => obtain ⟨t', rfl⟩ := ry; exact PySem.EqNone.eq_none_int (fin_bl I q (by simp))
    | str j => obtain ⟨t', rfl⟩ := ry; exact PySem.EqNone.eq_none_str (fin_bl I q (by simp))
    | _ => exact absurd (show false = true from hs) Bool.false_ne_true
  | bl i =>
    cases rx
    cases y with
    | non => cases ry; exact PySem.EqNone.eq_bool_none (fin_bl I q (by simp))
    | bl j => cases ry; exact eq_bool (fin_bl I q dec_bl)
    | str j => obtain ⟨t', rfl⟩ := ry; exact PySem.EqMixed.eq_bool_str (fin_bl I q (by simp))
    | _ => exact absurd (show false = true from hs) Bool.false_ne_true
  | int i =>
    obtain ⟨t, rfl⟩ := rx
    cases y with
    | non => cases ry; exact PySem.EqNone.eq_int_none (fin_bl I q (by simp))
    | int j => obtain ⟨t', rfl⟩ := ry; exact eq_int (fin_bl I q dec_int)
    | str j => obtain ⟨t', rfl⟩ := ry; exact PySem.EqMixed.eq_int_str (fin_bl I q (by simp))
    | _ => exact absurd (show false = true from hs) Bool.false_ne_true
  | str i =>
    obtain ⟨t, rfl⟩ := rx
    cases y with
    | non => cases ry; exact PySem.EqNone.eq_str_none (fin_bl I q (by simp))
    | bl j => cases ry; exact PySem.EqMixed.eq_str_bool (fin_bl I q (by simp))
    | int j => obtain ⟨t', rfl⟩ := ry; exact PySem.EqMixed.eq_str_int (fin_bl I q (by simp))
    | str j => obtain ⟨t', rfl⟩ := ry; exact eq_str (fin_bl I q dec_str)
    | _ => exact absurd (show false = true from hs) Bool.false_ne_true
  | byt i =>
    obtain ⟨t, rfl⟩ := rx
    cases y with
    | byt j => obtain ⟨t', rfl⟩ := ry; exact PySem.W.eq_bytes (fin_bl I q dec_byt)
    | _ => exact absurd (show false = true from hs) Bool.false_ne_true
  | _ => cases y <;> exact absurd (show false = true from hs) Bool.false_ne_true
theorem op_ne : OpR X (compareOp .NotEq) rNe := by
  intro pins s σ H x y v u Q I rx ry h
  obtain ⟨hs, q⟩ := h
  cases x with
  | non =>
    cases rx
    cases y with
    | non => cases ry; exact PySem.EqNone.ne_none_none (fin_bl I q (by simp))
    | bl j => cases ry; exact PySem.EqNone.ne_none_bool (fin_bl I q (by simp))
    | int j => obtain ⟨t', rfl⟩ := ry; exact PySem.EqNone.ne_none_int (fin_bl I q (by simp))
    | str j => obtain ⟨t', rfl⟩ := ry; exact PySem.EqNone.ne_none_str (fin_bl I q (by simp))
    | _ => exact absurd (show false = true from hs) Bool.false_ne_true
  | bl i =>
    cases rx
    cases y with
    | non => cases ry; exact PySem.EqNone.ne_bool_none (fin_bl I q (by simp))
    | bl j => cases ry; exact ne_bool (fin_bl I q (congrArg not dec_bl))
    | str j => obtain ⟨t', rfl⟩ := ry; exact PySem.EqMixed.ne_bool_str (fin_bl I q (by simp))
    | _ => exact absurd (show false = true from hs) Bool.false_ne_true
  | int i =>
    obtain ⟨t, rfl⟩ := rx
    cases y with
    | non => cases ry; exact PySem.EqNone.ne_int_none (fin_bl I q (by simp))
    | int j => obtain ⟨t', rfl⟩ := ry; exact ne_int (fin_bl I q (congrArg not dec_int))
    | str j => obtain ⟨t', rfl⟩ := ry; exact PySem.EqMixed.ne_int_str (fin_bl I q (by simp))
    | _ => exact absurd (show false = true from hs) Bool.false_ne_true
  | str i =>
    obtain ⟨t, rfl⟩ := rx
    cases y with
    | non => cases ry; exact PySem.EqNone.ne_str_none (fin_bl I q (by simp))
    | bl j => cases ry; exact PySem.EqMixed.ne_str_bool (fin_bl I q (by simp))
    | int j => obtain ⟨t', rfl⟩ := ry; exact PySem.EqMixed.ne_str_int (fin_bl I q (by simp))
    | str j => obtain ⟨t', rfl⟩ := ry; exact ne_str (fin_bl I q (congrArg not dec_str))
    | _ => exact absurd (show false = true from hs) Bool.false_ne_true
  | byt i =>
    obtain ⟨t, rfl⟩ := rx
    cases y with
    | byt j => obtain ⟨t', rfl⟩ := ry; exact PySem.W.ne_bytes (fin_bl I q (congrArg not dec_byt))
    | _ => exact absurd (show false = true from hs) Bool.false_ne_true
  | _ => cases y <;> exact absurd (show false = true from hs) Bool.false_ne_true

theorem op_lt : OpR X (compareOp .Lt) (rI0 fun i j => .bl (decide (i < j))) := opB0 fun _ _ _ _ _ _ _ q => lt_int q
theorem op_le : OpR X (compareOp .LtE) (rI0 fun i j => .bl (decide (i ≤ j))) := opB0 fun _ _ _ _ _ _ _ q => le_int q
theorem op_gt : OpR X (compareOp .Gt) (rI0 fun i j => .bl (decide (j < i))) := opB0 fun _ _ _ _ _ _ _ q => gt_int q
theorem op_ge : OpR X (compareOp .GtE) (rI0 fun i j => .bl (decide (j ≤ i))) := opB0 fun _ _ _ _ _ _ _ q => ge_int q
/-- is None, is not None: the right side a value none -/
theorem op_isN : OpR X (compareOp .Is) (fun x y H Q => y = .non ∧ Q (.bl (decide (x = .non))) H) := by
  intro pins s σ H x y v u Q I rx ry h
  obtain ⟨rfl, q⟩ := h
  cases ry
  refine is_none_gen (fin_bl I q ?_)
  cases x <;> first
    | (cases rx; rfl)
    | (obtain ⟨t, rfl⟩ := rx; rfl)
theorem op_notN : OpR X (compareOp .IsNot) (fun x y H Q => y = .non ∧ Q (.bl (!decide (x = .non))) H) := by
  intro pins s σ H x y v u Q I rx ry h
  obtain ⟨rfl, q⟩ := h
  cases ry
  refine isnot_none_gen (fin_bl I q ?_)
  cases x <;> first
    | (cases rx; rfl)
    | (obtain ⟨t, rfl⟩ := rx; rfl)

/-- is, is not of two objects that are tracked lists or instances -/
def isObj : HO → Bool
  | .lst _ => true
  | .ins _ _ _ => true
  | _ => false
/-- two rules for one operation: by cases -/
theorem OpR.or {f : Value → Value → Sem Value} {r r' : R2} (h : OpR X f r) (h' : OpR X f r') : OpR X f (fun x y H Q => r x y H Q ∨ r' x y H Q) := by
  intro pins s σ H x y v u Q I rx ry q
  rcases q with q | q
  · exact h pins s σ H x y v u Q I rx ry q
  · exact h' pins s σ H x y v u Q I rx ry q

theorem nomark (b : Expr) {op : CmpOp} (h : op ≠ .In := by decide) (h2 : op ≠ .NotIn := by decide) : behindInMarks op b = false := by
  have e1 : (op == CmpOp.In) = false := by cases op <;> first | rfl | exact absurd rfl h
  have e2 : (op == CmpOp.NotIn) = false := by cases op <;> first | rfl | exact absurd rfl h2
  cases b <;> simp [behindInMarks, e1, e2]
/-- a comparison as a value; hm: nomark b, or (for in, not in) by with_unfolding_all rfl -/
theorem pe_cmpR {op : CmpOp} {r : R2} (ho : OpR X (compareOp op) r) (ha : PE X a ta) (hb : PE X b tb) (hm : behindInMarks op b = false) : PE X (.Compare a [op] [b] pos) (tOp r ta tb) := by
  intro pins s σ H Q I h
  exact wpAny_Compare1 (binT ha hb I h fun v u s2 x y H2 I2 rx ry q => ho pins s2 σ H2 x y v u Q I2 rx ry q) hm
/-- a reading of a value as a test -/
def tTest (t : TE) : TT := fun σ H Q => t σ H fun x H' => ∃ k, x = .bl k ∧ Q k H'
theorem pt_cmpR {op : CmpOp} {r : R2} (ho : OpR X (compareOp op) r) (ha : PE X a ta) (hb : PE X b tb) (hm : behindInMarks op b = false) : PT X (.Compare a [op] [b] pos) (tTest (tOp r ta tb)) := by
  intro pins s σ H Q I h
  refine wpAny_isTrue_Compare1 (thn (ha pins s σ H _ I h) fun v s1 ⟨x, H1, I1, r1, q1⟩ => thn (hb pins s1 σ H1 _ I1 q1) fun u s2 ⟨y, H2, I2, r2, q2⟩ =>
    thn (ho pins s2 σ H2 x y v u _ I2 r1 r2 q2) fun c s3 ⟨z, H3, I3, r3, k, e, q3⟩ => ?_) hm
  subst e
  cases r3
  exact wpAny_truthy_bool ⟨H3, I3, q3⟩
/-- a op1 b op2 c -/
def tChain (r r' : R2) (ta tb tc : TE) : TE := fun σ H Q => ta σ H fun x H1 => tb σ H1 fun y H2 => r x y H2 fun z H3 => ∃ k, z = .bl k ∧
  (if k = true then tc σ H3 fun w' H4 => r' y w' H4 Q else Q (.bl false) H3)
theorem pe_chain {op op' : CmpOp} {r r' : R2} (ho : OpR X (compareOp op) r) (ho' : OpR X (compareOp op') r') (ha : PE X a ta) (hb : PE X b tb) (hc : PE X c tc)
    (hm : lastMarks [op, op'] [b, c] = false := by with_unfolding_all rfl) : PE X (.Compare a [op, op'] [b, c] pos) (tChain r r' ta tb tc) := by
  intro pins s σ H Q I h
  refine Compare_chain (thn (ha pins s σ H _ I h) fun v s1 ⟨x, H1, I1, r1, q1⟩ => chain_link (thn (hb pins s1 σ H1 _ I1 q1) fun u s2 ⟨y, H2, I2, r2, q2⟩ =>
    thn (ho pins s2 σ H2 x y v u _ I2 r1 r2 q2) fun d s3 ⟨z, H3, I3, r3, k, e, q3⟩ => ?_)) hm
  subst e
  cases r3
  refine wpAny_truthy_bool ?_
  cases k with
  | false => exact ite_ff ⟨.bl false, H3, I3, rfl, q3⟩
  | true => exact ite_tt (chain_last (thn (hc pins s3 σ H3 _ I3 q3) fun w' s4 ⟨z', H4, I4, r4, q4⟩ => ho' pins s4 σ H4 y z' u w' Q I4 r2 r4 q4))
/-! ### truth -/
/-- a value's truth by the abstract heap -/
def TruV (K : PySem.W.Frag) (x : V) (H : Hp) (k : Bool) : Prop :=
  match x with
  | .non => k = false
  | .bl b => k = b
  | .int i => k = (i != 0)
  | .str y => y.length ≤ sizeLine ∧ k = ((y.length : Int) != 0)
  | .byt y => y.size ≤ sizeLine ∧ k = ((y.size : Int) != 0)
  | .ref p => (∃ xs, SqL K H p xs ∧ k = !xs.isEmpty) ∨ (∃ xs, SqT K H p xs ∧ k = !xs.isEmpty) ∨ ∃ kvs, H p = some (.dK kvs) ∧ k = !kvs.isEmpty
  | _ => False
theorem line63 : (sizeLine : Nat) < 2 ^ 63 := by rw [sizeLine_eq]; decide
/-! ### strs and bytes -/
theorem op_add_str : OpR X (binaryOp .Add) (fun x y H Q => ∃ i j, x = .str i ∧ y = .str j ∧ i.length + j.length ≤ sizeLine ∧ Q (.str (i ++ j)) H) := by
  intro pins s σ H x y v u Q I rx ry h
  obtain ⟨i, j, rfl, rfl, hz, q⟩ := h
  obtain ⟨t, rfl⟩ := rx
  obtain ⟨t', rfl⟩ := ry
  exact add_str (fun t' tk => ⟨.str (i ++ j), H, I.tok _, ⟨_, rfl⟩, q⟩) hz
def PlainIxT (b : Expr) : Prop := ∀ o i, subscripted b false o i = operate [o, i] (getItem o i)
/-! ### scalar builtins, by CallR -/
theorem vals1 {x : V} {us : List Value} (r : Vals [x] us) : ∃ u, us = [u] ∧ RelV x u := by
  cases r with
  | cons r1 r2 => cases r2; exact ⟨_, rfl, r1⟩
theorem vals2 {x y : V} {us : List Value} (r : Vals [x, y] us) : ∃ u w', us = [u, w'] ∧ RelV x u ∧ RelV y w' := by
  cases r with
  | cons r1 r2 =>
    cases r2 with
    | cons r3 r4 => cases r4; exact ⟨_, _, rfl, r1, r3⟩
theorem call_int1 : CallR X (.type "int") (fun xs H Q => (∃ i, xs = [.int i] ∧ Q (.int i) H) ∨ ∃ k, xs = [.bl k] ∧ Q (.int (if k then 1 else 0)) H) := by
  intro pins s σ H xs us Q I r h
  rcases h with ⟨i, rfl, q⟩ | ⟨k, rfl, q⟩
  · obtain ⟨u, rfl, t, rfl⟩ := vals1 r
    exact call_int_int ⟨.int i, H, I, ⟨_, rfl⟩, q⟩
  · obtain ⟨u, rfl, r1⟩ := vals1 r
    cases r1
    exact call_int_bool ⟨.int (if k then 1 else 0), H, I.tok _, ⟨_, rfl⟩, q⟩
theorem call_str_int : CallR X (.type "str") (fun xs H Q => ∃ i, xs = [.int i] ∧ i.natAbs.log2 < 1920 ∧ Q (.str (toString i)) H) := by
  intro pins s σ H xs us Q I r h
  obtain ⟨i, rfl, hz, q⟩ := h
  obtain ⟨u, rfl, t, rfl⟩ := vals1 r
  exact PySem.P.str_of_int hz ⟨.str _, H, I.tok _, ⟨_, rfl⟩, q⟩
/-- len of a str, a bytes, a list, a tuple -/
def LenV (K : PySem.W.Frag) (x : V) (H : Hp) (n : Nat) : Prop :=
  match x with
  | .str y => y.length ≤ sizeLine ∧ n = y.length
  | .byt y => y.size ≤ sizeLine ∧ n = y.size
  | .ref p => (∃ xs, SqL K H p xs ∧ n = xs.length) ∨ ∃ xs, SqT K H p xs ∧ n = xs.length
  | _ => False
end
end L2

namespace L2
open PySem PySem.Spec PyProof.Rows

/-! ### an instance, its attributes a map -/
structure ObjM (h : Heap) (x dx C : Addr) (mA : Str → Option Value) : Prop where
  obj : h.get? x = some (PySem.W.instObj C dx)
  ns : h.Ns1 dx mA
  ne : dx ≠ x

theorem lookIn_ns {h : Heap} {dx : Addr} {mA : Str → Option Value} (n : h.Ns1 dx mA) : ∃ od, h.get? dx = some od ∧ ∀ name, PySem.W.lookIn name od = some (mA name) := by
  obtain ⟨o, es, ep, ho, hd, hk, _, hm⟩ := n
  refine ⟨o, ho, fun name => ?_⟩
  have e := hm name
  unfold nsFind findBy at e
  rw [← Array.find?_toList] at e
  unfold PySem.W.lookIn
  rw [hd]
  dsimp only
  split
  · rename_i y q
    rw [q] at e
    exact congrArg some e
  · rename_i q
    rw [q] at e
    have a : es.toList.any (·.refKey) = false := by
      rw [List.any_eq_false]
      intro y hy
      obtain ⟨z, t, hkey⟩ := hk y (Array.mem_toList_iff.mp hy)
      simp [DictEntry.refKey, hkey]
    have a' : ¬ es.toList.any (·.refKey) = true := by rw [a]; exact Bool.false_ne_true
    rw [if_neg a']
    exact congrArg some e

theorem ObjM.look {h : Heap} {x dx C : Addr} {mA : Str → Option Value} (I : ObjM h x dx C mA) : ∃ od, PySem.W.InstAt h x (PySem.W.instObj C dx) C (some od) ∧ ∀ name, PySem.W.lookIn name od = some (mA name) :=
  let ⟨od, ho, hl⟩ := lookIn_ns I.ns
  ⟨od, ⟨I.obj, rfl, rfl, ho⟩, hl⟩

section
variable {prog : Program} {w : World} {A : Around} {E : Value → Shared → Prop} {s : Shared} {K : PySem.W.Frag} {x dx C f : Addr} {mA : Str → Option Value} {name : Str} {v : Value}

theorem get_map {expr : Bool} {Q : Value → Shared → Prop} (X : K.In s.heap) (I : ObjM s.heap x dx C mA) (hg : PySem.W.plainGet K C name = true) (hh : PySem.W.hasDictIn K C = true)
    (ha : PySem.W.findIn K (.ref C) name = some none) (hv : mA name = some v) (hv' : PySem.W.handedIn v = true) (h : Q v { s with toks := s.toks + 1 }) :
    wpAny (model prog w) A (getAttr (.ref x) name expr) Q E s := by
  obtain ⟨od, J, hl⟩ := I.look
  exact PySem.W.get_value X J (PySem.W.plainGet_of hg).1 (PySem.W.findObj_own hh ha rfl (by rw [hl, hv])) hv' h

theorem get_meth {pl : Sem Bool} {Q : Value × List Value → Shared → Prop} (X : K.In s.heap) (I : ObjM s.heap x dx C mA) (hg : PySem.W.plainGet K C name = true)
    (hf : PySem.W.findIn K (.ref C) name = some (some (.ref f))) (ht : PySem.W.isFn K (.ref f) = true) (hv : mA name = none) (h : Q (.ref f, [.ref x]) s) :
    wpAny (model prog w) A (getMethod (.ref x) name pl) Q E s := by
  obtain ⟨od, J, hl⟩ := I.look
  exact PySem.W.method_fn X J (PySem.W.plainGet_of hg).1 (PySem.W.plainGet_of hg).2 hf (beq_iff_eq.mp ht) (by show (PySem.W.lookIn name od).map (·.isSome) = some false; rw [hl, hv]; rfl) h

theorem set_map {ns : List Str} {Q : Unit → Shared → Prop} (X : K.In s.heap) (I : ObjM s.heap x dx C mA)
    (hs : PySem.W.findIn K (.ref C) "__setattr__" = some (some (.builtin "object.__setattr__"))) (hp : PySem.W.plainOver K C = true) (ht : PySem.W.takerIn K C name = some none) (hh : PySem.W.hasDictIn K C = true)
    (hw : PySem.Within mA ns) (hsz : ns.length ≤ sizeLine)
    (h : ∀ h', ObjM h' x dx C (fun y => if y = name then some v else mA y) → Heap.SameBut dx s.heap h' → Q () { s with heap := h', toks := s.toks + 2 }) :
    wpAny (model prog w) A (setAttr (.ref x) name v) Q E s := by
  obtain ⟨od, J, hl⟩ := I.look
  refine PySem.W.set_plain X J hs (PySem.W.osa_open (s := { s with toks := s.toks + 1 }) (r := none) X J hp ht fun b => ?_)
  obtain ⟨cd, hc, hd'⟩ := PySem.W.any_some hh
  have hx : s.heap.get? x = some ⟨.ref C, some dx, .plain, #[]⟩ := I.obj
  refine wpAny_bind (wpAny_pure (wpAny_bind (wpAny_bind (wpAny_loadPart hx (wpAny_bind (PySem.W.Looks.here (s := { s with toks := s.toks + 1 }) (PySem.W.looks_clsIn X hc) ?_))))))
  rw [hd']
  refine wpAny_pure (a := some dx) (wpAny_bind (wpAny_pure (wpAny_bind ?_)))
  refine wpAny_nsSet1 (s := { s with toks := s.toks + 1 }) I.ns fun h' hn2 hs2 => ?_
  obtain ⟨oD, esD, epD, hoD, hdD, hcD⟩ := hn2.count (PySem.Within.cons name v hw)
  refine wpAny_bind (wpAny_lookBehind hoD (by rw [hdD]; exact pastItsLine_dict (Nat.le_trans hcD (by rw [List.length_cons]; omega))) ?_)
  exact wpAny_pure (h _ ⟨(hs2.2 _ (Ne.symm I.ne)).trans I.obj, hn2, I.ne⟩ hs2)

/-- C(..): the dict at the heap's end, the instance behind it; then its __init__ -/
theorem make_map {R : Result → Shared → Prop} {vs : List Value} {kw : List (Str × Value)} (X : K.In s.heap) (hm : PySem.W.makesIn K C = true)
    (hi : PySem.W.findIn K (.ref C) "__init__" = some (some (.ref f))) (hf : PySem.W.typeIn K (.ref f) = some (.type "function"))
    (h : codeAny (model prog w) (A.under (.builtin "type.__call__" ⟨.ref C :: vs, kw⟩)) (.call (.ref f) ⟨.ref (s.heap.objs.size + 1) :: vs, kw⟩) (PySem.W.InitBack (s.heap.objs.size + 1) R)
      { s with heap := (s.heap.push PySem.W.emptyDict).push (PySem.W.instObj C s.heap.objs.size) }) :
    codeAny (model prog w) A (.call (.ref C) ⟨vs, kw⟩) R s := by
  obtain ⟨hh, g, d, t, os⟩ := s
  exact PySem.W.make_core (PySem.W.makes_of X hm) (PySem.W.looks_findIn X hi) (fun self => PySem.W.bind_fn X self hf) (.inl rfl) h
end

/-! ### the attributes as a list of pairs -/
def putF (f : Str) (v : V) : List (Str × V) → List (Str × V)
  | [] => [(f, v)]
  | (g, x) :: r => if g = f then (g, v) :: r else (g, x) :: putF f v r
theorem lookup_putF (f g : Str) (v : V) : ∀ fs : List (Str × V), (putF f v fs).lookup g = if g = f then some v else fs.lookup g
  | [] => by
    show List.lookup g [(f, v)] = _
    by_cases h : g = f
    · have hb : (g == f) = true := beq_iff_eq.mpr h
      simp only [List.lookup, hb, if_pos h]
    · have hb : (g == f) = false := beq_eq_false_iff_ne.mpr h
      simp only [List.lookup, hb, if_neg h]
  | (k, x) :: r => by
    have ih := lookup_putF f g v r
    rw [show putF f v ((k, x) :: r) = (if k = f then (k, v) :: r else (k, x) :: putF f v r) from rfl]
    by_cases hk : k = f
    · rw [if_pos hk]
      by_cases h : g = k
      · have hb : (g == k) = true := beq_iff_eq.mpr h
        simp only [List.lookup, hb, if_pos (h.trans hk)]
      · have hb : (g == k) = false := beq_eq_false_iff_ne.mpr h
        simp only [List.lookup, hb, if_neg (fun e : g = f => h (e.trans hk.symm))]
    · rw [if_neg hk]
      by_cases h : g = k
      · have hb : (g == k) = true := beq_iff_eq.mpr h
        simp only [List.lookup, hb, if_neg (fun e : g = f => hk (h.symm.trans e))]
      · have hb : (g == k) = false := beq_eq_false_iff_ne.mpr h
        simp only [List.lookup, hb]
        exact ih
theorem keys_putF (f : Str) (v : V) : ∀ fs : List (Str × V), f ∈ (putF f v fs).map (·.1) ∧ ∀ g, g ∈ fs.map (·.1) → g ∈ (putF f v fs).map (·.1)
  | [] => ⟨by simp [putF], fun g h => by simp at h⟩
  | (k, x) :: r => by
    obtain ⟨i1, i2⟩ := keys_putF f v r
    rw [show putF f v ((k, x) :: r) = (if k = f then (k, v) :: r else (k, x) :: putF f v r) from rfl]
    by_cases hk : k = f
    · rw [if_pos hk]
      subst hk
      exact ⟨by simp, fun g h => by simpa using h⟩
    · rw [if_neg hk]
      refine ⟨?_, fun g h => ?_⟩
      · rw [List.map_cons]
        exact List.mem_cons_of_mem _ i1
      · rw [List.map_cons] at h ⊢
        rcases List.mem_cons.mp h with e | e
        · exact List.mem_cons.mpr (.inl e)
        · exact List.mem_cons_of_mem _ (i2 g e)
theorem length_putF (f : Str) (v : V) : ∀ fs : List (Str × V), (putF f v fs).length ≤ fs.length + 1
  | [] => by simp [putF]
  | (k, x) :: r => by
    have ih := length_putF f v r
    rw [show putF f v ((k, x) :: r) = (if k = f then (k, v) :: r else (k, x) :: putF f v r) from rfl]
    by_cases hk : k = f
    · rw [if_pos hk, List.length_cons, List.length_cons]; omega
    · rw [if_neg hk, List.length_cons, List.length_cons]; omega

theorem RelO.some_of {v : V} {o : Option Value} (r : RelO (some v) o) : ∃ u, o = some u ∧ RelV v u := by
  cases o with
  | none => exact (show False from r).elim
  | some u => exact ⟨u, rfl, r⟩
theorem RelO.none_of {o : Option Value} (r : RelO none o) : o = none := by
  cases o with
  | none => rfl
  | some u => exact (show False from r).elim
theorem handed_of {v : V} {u : Value} (r : RelV v u) : PySem.W.handedIn u = true := by
  cases v with
  | non => cases (show u = Value.none from r); rfl
  | bl b => cases (show u = Value.bool b from r); rfl
  | int i => obtain ⟨t, e⟩ := (show ∃ t, u = Value.int i t from r); cases e; rfl
  | str x => obtain ⟨t, e⟩ := (show ∃ t, u = Value.str x t from r); cases e; rfl
  | byt b => obtain ⟨t, e⟩ := (show ∃ t, u = Value.bytes b t from r); cases e; rfl
  | flt b => obtain ⟨t, e⟩ := (show ∃ t, u = Value.float b t from r); cases e; rfl
  | ref a => cases (show u = Value.ref a from r); rfl
  | ty n => cases (show u = Value.type n from r); rfl

section
variable {P : Program} {w : World} {H H' : Hp} {h h' : Heap} {a C dx : Addr} {fs fs' : List (Str × V)}
theorem ins_get (hok : HOk P w H h) (e : H a = some (.ins C dx fs)) : ∃ mA, ObjM h a dx C mA ∧ (∀ f, RelO (fs.lookup f) (mA f)) ∧ PySem.Within mA (fs.map (·.1)) ∧ fs.length ≤ 1000 ∧ H dx = some (.own a) := by
  obtain ⟨d, z, ne, ob, mA, n, r, q⟩ := (show ObjOk P w H h a (.ins C dx fs) from hok a _ e)
  exact ⟨mA, ⟨ob, n, ne⟩, r, q, z, d⟩
end

/-! ### what of the text a class must have -/
structure Cls (K : PySem.W.Frag) (C : Addr) : Prop where
  pg : PySem.W.plainGet K C Str.empty = true
  hd : PySem.W.hasDictIn K C = true
  po : PySem.W.plainOver K C = true
  sa : PySem.W.findIn K (.ref C) "__setattr__" = some (some (.builtin "object.__setattr__"))
theorem Cls.get {K : PySem.W.Frag} {C : Addr} (c : Cls K C) (f : Str) : PySem.W.plainGet K C f = true := c.pg
/-- no class of it has the name -/
def NoAttr (K : PySem.W.Frag) (C : Addr) (f : Str) : Prop := PySem.W.findIn K (.ref C) f = some none
theorem NoAttr.taker {K : PySem.W.Frag} {C : Addr} {f : Str} (n : NoAttr K C f) : PySem.W.takerIn K C f = some none := by
  unfold PySem.W.takerIn
  rw [show PySem.W.findIn K (.ref C) f = some none from n]
  rfl
/-- a constant of the class -/
structure Con (K : PySem.W.Frag) (C : Addr) (f : Str) (v : V) (u : Value) : Prop where
  at_ : PySem.W.findIn K (.ref C) f = some (some u)
  rel : RelV v u
  get : PySem.W.specialIn K u "__get__" = some none
  cp : PySem.W.copiedNames.contains f = false
/-- a method: a plain def of the class or of one above it -/
structure Meth (K : PySem.W.Frag) (C : Addr) (m : Str) (f : Addr) : Prop where
  at_ : PySem.W.findIn K (.ref C) m = some (some (.ref f))
  fn : PySem.W.isFn K (.ref f) = true
  kp : PySem.W.keepIn K (.ref f) = true

section
variable {X : Cx} {pins : List (Addr × Obj)} {σ : St} {H : Hp} {s : Shared} {a C dx : Addr} {fs : List (Str × V)} {f : Str} {v : V} {A : Around} {E : Value → Shared → Prop}

theorem getattr_ok {b : Bool} {Q : Value → Shared → Prop} (I : Inv X pins σ H s) (e : H a = some (.ins C dx fs)) (c : Cls X.K C) (n : NoAttr X.K C f) (l : fs.lookup f = some v)
    (h : ∀ u s', Inv X pins σ H s' → RelV v u → Q u s') : wpAny (model X.prog X.w) A (getAttr (.ref a) f b) Q E s := by
  obtain ⟨mA, O, r, _, _, _⟩ := ins_get I.hok e
  obtain ⟨u, hu, ru⟩ := RelO.some_of (v := v) (o := mA f) (by rw [← l]; exact r f)
  exact get_map I.kIn O (c.get f) c.hd n hu (handed_of ru) (h u _ (I.tok _) ru)

theorem getmeth_ok {m : Str} {g : Addr} {pl : Sem Bool} {Q : Value × List Value → Shared → Prop} (I : Inv X pins σ H s) (e : H a = some (.ins C dx fs)) (c : Cls X.K C) (k : Meth X.K C m g) (l : fs.lookup m = none)
    (h : Q (.ref g, [.ref a]) s) : wpAny (model X.prog X.w) A (getMethod (.ref a) m pl) Q E s := by
  obtain ⟨mA, O, r, _, _, _⟩ := ins_get I.hok e
  have hn : mA m = none := RelO.none_of (by rw [← l]; exact r m)
  exact get_meth I.kIn O (c.get m) k.at_ k.fn hn h

theorem setattr_ok {y : V} {u : Value} {Q : Unit → Shared → Prop} (I : Inv X pins σ H s) (e : H a = some (.ins C dx fs)) (c : Cls X.K C) (n : NoAttr X.K C f) (hl : fs.length < 1000) (ry : RelV y u)
    (h : ∀ s', Inv X pins σ (upd H a (.ins C dx (putF f y fs))) s' → Q () s') : wpAny (model X.prog X.w) A (setAttr (.ref a) f u) Q E s := by
  obtain ⟨mA, O, r, wi, _, ho⟩ := ins_get I.hok e
  have hz : (fs.map (·.1)).length ≤ sizeLine := by rw [List.length_map, sizeLine_eq]; omega
  refine set_map I.kIn O c.sa c.po n.taker c.hd wi hz fun h' O' sb => h _ ?_
  have hd : ∃ o, h'.get? dx = some o := let ⟨o, _, _, e', _⟩ := O'.ns; ⟨o, e'⟩
  refine I.write (x := a) (e := dx) (by rw [e]; exact True.intro) (.inr ho) (fun b q hb z => (sb.2 b hb).trans z) hd ?_
  refine ⟨by rw [upd_ne O.ne]; exact ho, ?_, O.ne, O'.obj, _, O'.ns, fun g => ?_, fun g hg => ?_⟩
  · have := length_putF f y fs; omega
  · show RelO ((putF f y fs).lookup g) (if g = f then some u else mA g)
    rw [lookup_putF]
    by_cases q : g = f
    · rw [if_pos q, if_pos q]; exact ry
    · rw [if_neg q, if_neg q]; exact r g
  · by_cases q : g = f
    · rw [q]; exact (keys_putF f y fs).1
    · refine (keys_putF f y fs).2 g (wi g fun z => hg ?_)
      show (if g = f then some u else mA g) = none
      rw [if_neg q]; exact z

/-- a new instance, tracked, without attributes -/
theorem Inv.made (I : Inv X pins σ H s) : Inv X pins σ (upd (upd H s.heap.objs.size (.own (s.heap.objs.size + 1))) (s.heap.objs.size + 1) (.ins C s.heap.objs.size []))
    { s with heap := (s.heap.push PySem.W.emptyDict).push (PySem.W.instObj C s.heap.objs.size) } := by
  have e1 : (s.heap.push PySem.W.emptyDict).get? s.heap.objs.size = some PySem.W.emptyDict := Heap.get?_push_size s.heap rfl
  have e2 : ((s.heap.push PySem.W.emptyDict).push (PySem.W.instObj C s.heap.objs.size)).get? (s.heap.objs.size + 1) = some (PySem.W.instObj C s.heap.objs.size) := by
    have := Heap.get?_push_size (s.heap.push PySem.W.emptyDict) (o := PySem.W.instObj C s.heap.objs.size) rfl
    rwa [Heap.size_push] at this
  have e3 : (s.heap.push PySem.W.emptyDict).Ns s.heap.objs.size (fun _ => none) := ⟨PySem.W.emptyDict, #[], _, e1, rfl, (fun e he => absurd he (by simp)), fun _ => rfl⟩
  have I1 := I.laid (a := s.heap.objs.size) (o := .own (s.heap.objs.size + 1)) (h' := s.heap.push PySem.W.emptyDict) (t' := s.toks) (fun b u q => Heap.get?_push_of_some _ q) (Nat.le_refl _) ⟨_, e1⟩
  refine I1.laid (a := s.heap.objs.size + 1) (o := .ins C s.heap.objs.size []) (t' := s.toks) (fun b u q => Heap.get?_push_of_some _ q) (Nat.le_of_eq (Heap.size_push _ _)) ?_
  have ne : s.heap.objs.size ≠ s.heap.objs.size + 1 := Nat.ne_of_lt (Nat.lt_succ_self _)
  refine ⟨by rw [upd_ne ne, upd_same], Nat.zero_le _, ne, e2, fun _ => none, (Heap.Ns1.of_empty e3).at fun o q => Heap.get?_push_of_some _ q, fun _ => True.intro, fun y hy => absurd rfl hy⟩

/-- e.f where nothing but the object is asked: through attributeBase (super) and the last hold -/
theorem attr_of {prog : Program} {w : World} {env : Env} {e : Expr} {f : Str} {pos : Pos} {s : Shared} {Q : Value → Shared → Prop} (hb : attributeBase e f env (eval e env) = eval e env)
    (h : wpAny (model prog w) A (eval e env) (fun o s₁ => wpAny (model prog w) A (getAttr o f true) Q E s₁) E s) : wpAny (model prog w) A (eval (.Attribute e f pos) env) Q E s :=
  Attribute_any_ h (by rw [arm_eval_Attribute, hb])
end

/-! ### readings and rules -/
/-- e.f, an attribute of the instance -/
def tFld (K : PySem.W.Frag) (ta : TE) (f : Str) : TE := fun σ H Q => ta σ H fun x H1 => ∃ a C dx fs v, x = .ref a ∧ H1 a = some (.ins C dx fs) ∧ Cls K C ∧ NoAttr K C f ∧ fs.lookup f = some v ∧ Q v H1
/-- e.f, a constant of the class -/
def tCon (K : PySem.W.Frag) (ta : TE) (f : Str) : TE := fun σ H Q => ta σ H fun x H1 => ∃ a C dx fs v u, x = .ref a ∧ H1 a = some (.ins C dx fs) ∧ Cls K C ∧ Con K C f v u ∧ fs.lookup f = none ∧ Q v H1
/-- e.f = value -/
def sFld (K : PySem.W.Frag) (ta tv : TE) (f : Str) : TS := fun D σ H => tv σ H fun y H1 => ta σ H1 fun x H2 => ∃ a C dx fs, x = .ref a ∧ H2 a = some (.ins C dx fs) ∧ Cls K C ∧ NoAttr K C f ∧ fs.length < 1000 ∧
  D.nx σ (upd H2 a (.ins C dx (putF f y fs)))
/-- an augmented operator on two values -/
def InOp (X : Cx) (op : Operator) (rd : V → V → Hp → VK → Prop) : Prop :=
  ∀ (pins : List (Addr × Obj)) (s : Shared) (σ : St) (H : Hp) (x y : V) (u v : Value) (Q : VK), Inv X pins σ H s → RelV x u → RelV y v → rd x y H Q → wpAny (model X.prog X.w) X.A (inplaceOp op u v) (EP X pins σ Q) X.xe s
/-- e.f op= value -/
def sFldAug (K : PySem.W.Frag) (ta tv : TE) (rd : V → V → Hp → VK → Prop) (f : Str) : TS := fun D σ H => ta σ H fun x H1 => ∃ a C dx fs v, x = .ref a ∧ H1 a = some (.ins C dx fs) ∧ Cls K C ∧ NoAttr K C f ∧ fs.lookup f = some v ∧
  tv σ H1 fun y H2 => rd v y H2 fun z H3 => ∃ dx' fs', H3 a = some (.ins C dx' fs') ∧ fs'.length < 1000 ∧ D.nx σ (upd H3 a (.ins C dx' (putF f z fs')))

section
variable {X : Cx} {o e value : Expr} {f : Str} {pos pos' tpos : Pos} {ta tv : TE}
theorem pe_fld (he : PE X e ta) (hb : attributeBase e f X.env (eval e X.env) = eval e X.env) : PE X (.Attribute e f pos) (tFld X.K ta f) := by
  intro pins s σ H Q I h
  refine attr_of hb (thn (he pins s σ H _ I h) fun u s1 ⟨x, H1, I1, rx, a, C, dx, fs, v, ex, ea, c, n, l, q⟩ => ?_)
  subst ex
  obtain rfl : u = Value.ref a := rx
  exact getattr_ok I1 ea c n l fun u' s2 I2 ru => ⟨v, H1, I2, ru, q⟩
theorem ps_fld (ha : PE X o ta) (hv : PE X value tv) (hs : swapsWith value (some (.Attribute o f pos')) pos.line X.env = pure false) : PS X (.Assign [.Attribute o f pos'] value pos) (sFld X.K ta tv f) := by
  intro pins s σ H D I h
  refine plainObj_wpAny_Assign_Attribute (thn (hv pins s σ H _ I h) fun u s1 ⟨y, H1, I1, ry, q⟩ => thn (ha pins s1 σ H1 _ I1 q) fun ov s2 ⟨x, H2, I2, rx, a, C, dx, fs, ex, ea, c, n, l, q2⟩ => ?_) hs
  subst ex
  obtain rfl : ov = Value.ref a := rx
  exact setattr_ok I2 ea c n l ry fun s3 I3 => ⟨σ, _, I3, q2⟩
def rAdd : V → V → Hp → VK → Prop := fun x y H Q => ∃ i j, x = .int i ∧ y = .int j ∧ Q (.int (i + j)) H
def rSub : V → V → Hp → VK → Prop := fun x y H Q => ∃ i j, x = .int i ∧ y = .int j ∧ Q (.int (i - j)) H
end

/-! ### isinstance -/
section
variable {X : Cx} {pins : List (Addr × Obj)} {σ : St} {H : Hp} {s : Shared} {A : Around} {E : Value → Shared → Prop} {Q : Value → Shared → Prop} {c : Value} {b : Bool}
/-- the type of a value, as the fragment's deciders take it; for an instance its class -/
inductive TyOf (K : PySem.W.Frag) (H : Hp) : V → Value → Prop where
  | non : TyOf K H .non (.type "NoneType")
  | bl (x : Bool) : TyOf K H (.bl x) (.type "bool")
  | int (i : Int) : TyOf K H (.int i) (.type "int")
  | str (x : Str) : TyOf K H (.str x) (.type "str")
  | flt (x : UInt64) : TyOf K H (.flt x) (.type "float")
  | lst {a : Addr} {xs : List V} (e : H a = some (.lst xs)) : TyOf K H (.ref a) (.type "list")
  | frz {a : Addr} {o : Obj} {xs : List V} (e : H a = some (.frz o (.lst xs))) : TyOf K H (.ref a) (.type "list")
  | tup {a : Addr} {xs : List V} (e : H a = some (.tup xs)) : TyOf K H (.ref a) (.type "tuple")
  | dK {a : Addr} {kvs : List (Key × V)} (e : H a = some (.dK kvs)) : TyOf K H (.ref a) (.type "dict")
  | dT {a : Addr} {kvs : List (List Key × V)} (e : H a = some (.dT kvs)) : TyOf K H (.ref a) (.type "dict")
  | ins {a C dx : Addr} {fs : List (Str × V)} (e : H a = some (.ins C dx fs)) (cl : Cls K C) (ha : PySem.W.findIn K (.ref C) "__class__" = some (some (.builtin "object.__class__")))
      (hn : PySem.W.specialIn K (.builtin "object.__class__") "__get__" = some (some (.builtin "getset_descriptor.__get__"))) (htk : PySem.W.takesIn K (.builtin "object.__class__") = some true)
      (hm : PySem.W.mroIn K C (.type "object") = some true) : TyOf K H (.ref a) (.ref C)
/-- isinstance(x, c) for one class c, a built-in or an own one: kitOne's answer -/
theorem isinst_ok {x : V} {u t : Value} (I : Inv X pins σ H s) (rx : RelV x u) (ty : TyOf X.K H x t) (e : PySem.W.kitOne X.K t c = some b) (h : ∀ tk, Q (.bool b) { s with toks := tk }) :
    wpAny (model X.prog X.w) A (call (.builtin "isinstance") [u, c]) Q E s := by
  cases ty with
  | non => cases (show u = Value.none from rx); exact PySem.W.kia_one PySem.W.kitx_none I.kIn True.intro e (fun z => nomatch z) h
  | bl y => cases (show u = Value.bool y from rx); exact PySem.W.kia_one PySem.W.kitx_bool I.kIn True.intro e (fun z => nomatch z) h
  | int i => obtain ⟨t, q⟩ := (show ∃ t, u = Value.int i t from rx); cases q; exact PySem.W.kia_one PySem.W.kitx_int I.kIn True.intro e (fun z => nomatch z) h
  | str y => obtain ⟨t, q⟩ := (show ∃ t, u = Value.str y t from rx); cases q; exact PySem.W.kia_one PySem.W.kitx_str I.kIn True.intro e (fun z => nomatch z) h
  | flt y => obtain ⟨t, q⟩ := (show ∃ t, u = Value.float y t from rx); cases q; exact PySem.W.kia_one PySem.W.kitx_float I.kIn True.intro e (fun z => nomatch z) h
  | @lst a xs ea =>
    cases (show u = Value.ref a from rx)
    obtain ⟨_, _, n, _, h1⟩ := (show ObjOk X.prog X.w H s.heap a (.lst xs) from I.hok a _ ea)
    exact PySem.W.kia_one PySem.W.kitx_list I.kIn ⟨_, h1, rfl⟩ e (fun z => nomatch z) h
  | @frz a ob xs ea =>
    cases (show u = Value.ref a from rx)
    obtain ⟨_, _, _, n, _, h1⟩ := (show ObjOk X.prog X.w H s.heap a (.frz ob (.lst xs)) from I.hok a _ ea)
    exact PySem.W.kia_one PySem.W.kitx_list I.kIn ⟨_, h1, rfl⟩ e (fun z => nomatch z) h
  | @tup a xs ea =>
    cases (show u = Value.ref a from rx)
    obtain ⟨_, _, _, p⟩ := (show ObjOk X.prog X.w H s.heap a (.tup xs) from I.hok a _ ea)
    obtain ⟨o, h1, h2, _⟩ := p
    exact PySem.W.kia_one PySem.W.kitx_tuple I.kIn ⟨o, h1, h2⟩ e (fun z => nomatch z) h
  | @dK a kvs ea =>
    cases (show u = Value.ref a from rx)
    obtain ⟨_, _, vs, _, p⟩ := (show ObjOk X.prog X.w H s.heap a (.dK kvs) from I.hok a _ ea)
    obtain ⟨o, es, ep, h1, h2, _⟩ := p
    exact PySem.W.kia_one PySem.W.kitx_dict I.kIn ⟨o, h1, h2.1⟩ e (fun z => nomatch z) h
  | @dT a kvs ea =>
    cases (show u = Value.ref a from rx)
    obtain ⟨_, _, xs, _, o, es, ep, h1, h2, _⟩ := (show ObjOk X.prog X.w H s.heap a (.dT kvs) from I.hok a _ ea)
    exact PySem.W.kia_one PySem.W.kitx_dict I.kIn ⟨o, h1, h2.1⟩ e (fun z => nomatch z) h
  | @ins a C dx fs ea cl ha hn htk hm =>
    cases (show u = Value.ref a from rx)
    obtain ⟨mA, O, _⟩ := ins_get I.hok ea
    obtain ⟨od, J, _⟩ := O.look
    exact PySem.W.kia_one (PySem.W.kitx_own (cl.get _) cl.hd ha hn htk hm) I.kIn J e (fun z => nomatch z) h
end
end L2

namespace L2
open PySem PySem.Spec PyProof.Rows

/-! ### room -/
structure Room (k : Nat) (A : Around) : Prop where
  hd : 30 ≤ k → A.handled = none
  dp : A.depth + 3 * k + 5 < recursionLimit
  un : A.units + 16 * k + 200 < cLine
theorem Room.mono {j k : Nat} {A : Around} (r : Room k A) (h : j ≤ k) : Room j A := ⟨fun z => r.hd (by omega), by have := r.dp; omega, by have := r.un; omega⟩
theorem Room.deeper {k : Nat} {A : Around} (r : Room (k + 1) A) (env : Env) : Room k (A.deeper env) :=
  ⟨fun z => r.hd (by omega), by have := r.dp; show A.depth + 1 + 3 * k + 5 < _; omega, by have := r.un; show A.units + 3 + 16 * k + 200 < _; omega⟩
theorem Room.in1 {k : Nat} {A : Around} (r : Room (k + 1) A) : Room k A.in1 :=
  ⟨fun z => r.hd (by omega), by have := r.dp; show A.depth + 3 * k + 5 < _; omega, by have := r.un; show A.units + 1 + 16 * k + 200 < _; omega⟩
theorem make_depth {A : Around} {C : Addr} {us : List Value} {kw : List (Str × Value)} : (A.under (.builtin "type.__call__" ⟨.ref C :: us, kw⟩)).depth = A.depth + 1 := by
  first | rfl | simp [Around.under, Code.weight, Code.isCreation, Code.isGuard, Code.isCaller, Code.frames, Code.isFrame, guardIds]
theorem make_units {A : Around} {C : Addr} {us : List Value} {kw : List (Str × Value)} : (A.under (.builtin "type.__call__" ⟨.ref C :: us, kw⟩)).units = A.units + 1 := by
  first | rfl | simp [Around.under, Code.cUnits, Code.frames, Code.isFrame]
theorem Room.make {k : Nat} {A : Around} (r : Room (k + 1) A) (C : Addr) (us : List Value) (kw : List (Str × Value)) : Room k (A.under (.builtin "type.__call__" ⟨.ref C :: us, kw⟩)) :=
  ⟨fun z => r.hd (by omega), by have := r.dp; rw [make_depth]; omega, by have := r.un; rw [make_units]; omega⟩
theorem Room.depth {k : Nat} {A : Around} (r : Room k A) : A.depth < recursionLimit := by have := r.dp; omega
theorem Room.units {k : Nat} {A : Around} (r : Room k A) : A.units + 64 < cLine := by have := r.un; omega
/-! ### argument lists and displays -/
def tNil : TA := fun _ H Q => Q [] H
def tCons (ta : TE) (tr : TA) : TA := fun σ H Q => ta σ H fun x H1 => tr σ H1 fun xs H2 => Q (x :: xs) H2
section
variable {X : Cx} {e : Expr} {es : List Expr} {te : TE} {t : TA} {pos : Pos}
theorem pa_nil : PA X [] tNil := fun _ _ _ _ H Q I h => Calls.spliced_nil ⟨[], H, I, .nil, h⟩
theorem pa_cons (ha : PE X e te) (hr : PA X es t) (hs : starEach (e :: es) X.env = (false, eval e X.env) :: starEach es X.env := by rfl) : PA X (e :: es) (tCons te t) := by
  intro pos pins s σ H Q I h
  rw [hs]
  show wpAny _ _ (spliced ((false, eval e X.env) :: backTo pos (starEach es X.env))) _ _ s
  refine Calls.spliced_cons (thn (ha pins s σ H _ I h) fun u s1 ⟨x, H1, I1, r1, q1⟩ => ?_)
  exact thn (hr pos pins s1 σ H1 _ I1 q1) fun us s2 ⟨xs, H2, I2, r2, q2⟩ => ⟨x :: xs, H2, I2, .cons r1 r2, q2⟩

/-- a tuple, a list of written items -/
def tTup (t : TA) : TE := fun σ H Q => t σ H fun xs H1 => xs.length ≤ sizeLine ∧ ∀ p, H1 p = none → Q (.ref p) (upd H1 p (.tup xs))
def tLst (t : TA) : TE := fun σ H Q => t σ H fun xs H1 => xs.length ≤ sizeLine ∧ ∀ p, H1 p = none → Q (.ref p) (upd H1 p (.lst xs))
theorem pe_tup {x1} (h : PA X es t) : PE X (.Tuple es x1 pos) (tTup t) := by
  intro pins s σ H Q I hq
  refine wpAny_Tuple_spliced (thn (h pos pins s σ H _ I hq) fun us s1 ⟨xs, H1, I1, r, z, q⟩ => ⟨by rw [← r.length]; exact z, ?_⟩)
  have hf : H1 s1.heap.objs.size = none := I1.hok.fresh (Nat.le_refl _)
  refine ⟨.ref s1.heap.objs.size, upd H1 s1.heap.objs.size (.tup xs), I1.laid (t' := s1.toks) (fun b u e => Heap.get?_push_of_some _ e) (Nat.le_refl _) ?_, rfl, q _ hf⟩
  exact ⟨z, us, r, ⟨_, Heap.get?_push_size _ rfl, rfl, _, rfl⟩⟩
theorem pe_lst (h : PA X es t) : PE X (.List es pos) (tLst t) := by
  intro pins s σ H Q I hq
  refine wpAny_List_spliced (thn (h pos pins s σ H _ I hq) fun us s1 ⟨xs, H1, I1, r, z, q⟩ => ⟨by rw [← r.length]; exact z, ?_⟩)
  have hf : H1 s1.heap.objs.size = none := I1.hok.fresh (Nat.le_refl _)
  refine ⟨.ref s1.heap.objs.size, upd H1 s1.heap.objs.size (.lst xs), I1.laid (t' := s1.toks) (fun b u e => Heap.get?_push_of_some _ e) (Nat.le_refl _) ?_, rfl, q _ hf⟩
  exact ⟨z, us, 0, r, Heap.get?_push_size _ rfl⟩
end

/-! ### what a def promises -/
/-- a def's promise: the bound arguments in the parameters' order, the heap, the wanted end, the wanted exception -/
abbrev Sp := List V → Hp → VK → XK → Prop
/-- how an exception lies behind a call (file 08 gives it): the callers' frames, abstract heap and state ahead of the call, the wish, the exception, the state -/
abbrev CXT := List Env → Hp → Shared → XK → Value → Shared → Prop

/-- the state at a call -/
structure Env0 (P : Program) (w : World) (K : PySem.W.Frag) (mg : Str → Option Value) (base : Heap) (A : Around) (outer : List Env) (s : Shared) (H : Hp) : Prop where
  frames : A.frames = some outer
  mod : Mod K mg base
  bs : ∀ b o, base.get? b = some o → s.heap.get? b = some o ∧ H b = none
  bsz : base.objs.size ≤ s.heap.objs.size
  funs : s.heap.FunFrames base outer
  frf : ∀ b ∈ frs outer, H b = none
  hok : HOk P w H s.heap
  bare : AllBare s.gens
  qt : Qt A H
/-- a call's end -/
def CE (outer : List Env) (P : Program) (w : World) (H : Hp) (s : Shared) (Q : VK) (u : Value) (s' : Shared) : Prop :=
  ∃ v H', s'.os = s.os ∧ AllBare s'.gens ∧ Un (frs outer) [] H H' s.heap s'.heap ∧ HOk P w H' s'.heap ∧ RelV v u ∧ Q v H'
def CR (CX : CXT) (outer : List Env) (P : Program) (w : World) (H : Hp) (s : Shared) (Q : VK) (E : XK) (r : Result) (s' : Shared) : Prop :=
  match r with
  | .ok (.ret u) => CE outer P w H s Q u s'
  | .ok _ => False
  | .error e => CX outer H s E e s'
structure FnOk (P : Program) (w : World) (K : PySem.W.Frag) (mg : Str → Option Value) (base : Heap) (CX : CXT) (k : Nat) (f : Addr) (fd : FuncData) (ps : List Str) (sp : Sp) : Prop where
  len : ∀ vs H Q E, sp vs H Q E → vs.length = ps.length
  run : ∀ (A : Around) (outer : List Env) (s : Shared) (H : Hp) (args : Args) (us : List Value) (vs : List V) (Q : VK) (E : XK), Room k A → Env0 P w K mg base A outer s H → BindsTo s fd args (ps.zip us) → Vals vs us → sp vs H Q E →
    codeAny (model P w) A (.call (.ref f) args) (CR CX outer P w H s Q E) s
theorem FnOk.mono {P : Program} {w : World} {K : PySem.W.Frag} {mg : Str → Option Value} {base : Heap} {CX : CXT} {j k : Nat} {f : Addr} {fd : FuncData} {ps : List Str} {sp : Sp} (F : FnOk P w K mg base CX j f fd ps sp) (h : j ≤ k) :
    FnOk P w K mg base CX k f fd ps sp := ⟨F.len, fun A outer s H args us vs Q E hr => F.run A outer s H args us vs Q E (hr.mono h)⟩
theorem Env0.make {P : Program} {w : World} {K : PySem.W.Frag} {mg : Str → Option Value} {base : Heap} {A : Around} {outer : List Env} {s : Shared} {H : Hp} (e : Env0 P w K mg base A outer s H) (C : Addr) (us : List Value) (kw : List (Str × Value)) :
    Env0 P w K mg base (A.under (.builtin "type.__call__" ⟨.ref C :: us, kw⟩)) outer s H := ⟨by first | exact e.frames | (simpa [Around.under, Code.envs, Code.isFrame, pushEnvs] using e.frames), e.mod, e.bs, e.bsz, e.funs, e.frf, e.hok, e.bare, e.qt⟩
theorem Env0.in1 {P : Program} {w : World} {K : PySem.W.Frag} {mg : Str → Option Value} {base : Heap} {A : Around} {outer : List Env} {s : Shared} {H : Hp} (e : Env0 P w K mg base A outer s H) :
    Env0 P w K mg base A.in1 outer s H := ⟨e.frames, e.mod, e.bs, e.bsz, e.funs, e.frf, e.hok, e.bare, e.qt⟩

section
variable {X : Cx} {pins : List (Addr × Obj)} {σ : St} {H : Hp} {s s' : Shared}
/-- from a body: what a callee wants -/
theorem Inv.env0 (I : Inv X pins σ H s) : Env0 X.prog X.w X.K X.mg X.base X.A X.stack s H :=
  ⟨I.ok.frames, I.ok.mod, I.bs, Nat.le_trans I.ok.bsz I.sz, I.stack, I.stkFree, I.hok, I.bare, I.qt⟩
/-- behind a call -/
theorem Inv.after {Q : VK} {u : Value} (I : Inv X pins σ H s) (h : CE X.stack X.prog X.w H s Q u s') : EP X pins σ Q u s' := by
  obtain ⟨v, H', os, bare, un, hok, r, q⟩ := h
  obtain ⟨hh, g, d, t, os'⟩ := s'
  obtain rfl : os' = s.os := os
  exact ⟨v, H', I.call (h' := hh) (g' := g) (d' := d) (t' := t) (ch := []) un hok bare (fun b z => absurd z (by simp)), r, q⟩
end

/-! ### calls -/
/-- f(..): the written arguments, then the defaults dvs; E: what is wanted of an exception -/
def tCall (sp : Sp) (dvs : List V) (E : XK) (t : TA) : TE := fun σ H Q => t σ H fun vs H1 => sp (vs ++ dvs) H1 Q E
/-- o.m(..) of an instance of the class at C -/
def tMeth (C : Addr) (m : Str) (sp : Sp) (dvs : List V) (E : XK) (ta : TE) (t : TA) : TE := fun σ H Q => ta σ H fun x H1 => ∃ a dx fs, x = .ref a ∧ H1 a = some (.ins C dx fs) ∧ fs.lookup m = none ∧
  t σ H1 fun vs H2 => sp (x :: (vs ++ dvs)) H2 Q E
/-- C(..): a new instance and its dict, then __init__ -/
def tMake (C : Addr) (sp : Sp) (dvs : List V) (E : XK) (t : TA) : TE := fun σ H Q => t σ H fun vs H1 => ∀ x dx, H1 x = none → H1 dx = none → dx ≠ x →
  sp (.ref x :: (vs ++ dvs)) (upd (upd H1 dx (.own x)) x (.ins C dx [])) (fun v H2 => v = .non ∧ Q (.ref x) H2) E

/-- how the parameters are bound: us the positional arguments, kw the keywords' values by name, ds the defaults that fill up -/
def Binds (K : PySem.W.Frag) (fd : FuncData) (ps : List Str) (ds : List Value) : Prop :=
  ∀ (s : Shared) (us : List Value), K.In s.heap → (us ++ ds).length = ps.length → BindsTo s fd ⟨us, []⟩ (ps.zip (us ++ ds))
/-- every parameter is given -/
theorem Binds.all {K : PySem.W.Frag} {fd : FuncData} {ps : List Str} (h : ∀ us : List Value, us.length = ps.length → bindArgs fd ⟨us, []⟩ = pure (ps.zip us)) : Binds K fd ps [] := fun s us _ hl => by
  rw [List.append_nil] at hl ⊢
  exact .of_eq (h us hl)

/-- an exception of a callee reaches what this body wants of exceptions -/
def Passes (CX : CXT) (X : Cx) (E : XK) : Prop := ∀ (pins : List (Addr × Obj)) (σ : St) (H : Hp) (s : Shared) (e : Value) (s' : Shared), Inv X pins σ H s → CX X.stack H s E e s' → X.xe e s'

section
variable {X : Cx} {CX : CXT} {k : Nat} {f C : Addr} {fd : FuncData} {ps : List Str} {sp : Sp} {dvs : List V} {ds : List Value} {E : XK} {x m : Str} {p pos apos : Pos} {e o : Expr} {es : List Expr} {ta : TE} {t : TA}

/-- the callee runs -/
theorem run_fn {pins : List (Addr × Obj)} {σ : St} {H : Hp} {s : Shared} {Q : VK} {us : List Value} {vs : List V} (F : FnOk X.prog X.w X.K X.mg X.base CX k f fd ps sp) (hr : Room k X.A) (hb : Binds X.K fd ps ds) (hd : Vals dvs ds) (hx : Passes CX X E)
    (I : Inv X pins σ H s) (r : Vals vs us) (h : sp (vs ++ dvs) H Q E) : wpAny (model X.prog X.w) X.A (call (.ref f) us) (EP X pins σ Q) X.xe s := by
  have r2 : Vals (vs ++ dvs) (us ++ ds) := r.append hd
  have hl : (us ++ ds).length = ps.length := by rw [← r2.length]; exact F.len _ _ _ _ h
  refine wpAny_call (codeAny_mono (F.run X.A X.stack s H ⟨us, []⟩ (us ++ ds) (vs ++ dvs) Q E hr I.env0 (hb s us I.kIn hl) r2 h) fun r s' hq => ?_)
  cases r with
  | error e => exact hx pins σ H s e s' I hq
  | ok fl =>
    cases fl with
    | ret u => exact I.after hq
    | next => exact False.elim hq
    | brk => exact False.elim hq
    | cont => exact False.elim hq

theorem pe_call (F : FnOk X.prog X.w X.K X.mg X.base CX k f fd ps sp) (hr : Room k X.A) (hg : Gl X x) (hm : X.mg x = some (.ref f)) (hk : PySem.W.keepIn X.K (.ref f) = true) (hb : Binds X.K fd ps ds) (hd : Vals dvs ds) (hx : Passes CX X E)
    (ha : PA X (e :: es) t) (hdb : (x == ("__debug__" : Str)) = false := by decide) (he : starEach (e :: es) X.env = (false, eval e X.env) :: starEach es X.env := by rfl) (hpl : (backTo pos (starEach es X.env)).any (·.1) = false := by rfl) :
    PE X (.Call (.Name x p) (e :: es) [] pos) (tCall sp dvs E t) := by
  intro pins s σ H Q I h
  refine wpAny_Call_Name_kw (ld_glob I hg hm ?_ hdb)
  refine PySem.W.callWith_K (h₀ := X.base) I.ok.mod.kin hk (thn (ha pos pins s σ H _ I h) fun us s1 ⟨vs, H1, I1, r, q⟩ => ⟨I1.kIn, ?_⟩) he hpl
  exact run_fn F hr hb hd hx I1 r q
/-- o.m(e, ..) -/
theorem pe_meth {pl : Sem Bool} (he : PE X o ta) (c : Cls X.K C) (hm : Meth X.K C m f) (F : FnOk X.prog X.w X.K X.mg X.base CX k f fd ps sp) (hr : Room k X.A) (hb : Binds X.K fd ps ds) (hd : Vals dvs ds) (hx : Passes CX X E) (ha : PA X (e :: es) t)
    (hst : starEach (e :: es) X.env = (false, eval e X.env) :: starEach es X.env := by rfl) (hpl : (backTo pos (starEach es X.env)).any (·.1) = false := by rfl)
    (ht : eval (.Call (.Attribute o m apos) (e :: es) [] pos) X.env = (do
      let ov ← eval o X.env
      standAt apos.atName
      let (f, first) ← holding [ov] (getMethod ov m pl)
      callWith pos f first (backTo pos (starEach (e :: es) X.env)) (backToKw pos (keywordEach [] X.env))) := by rfl) :
    PE X (.Call (.Attribute o m apos) (e :: es) [] pos) (tMeth C m sp dvs E ta t) := by
  intro pins s σ H Q I h
  refine PySem.W.methodCall_KW (pl := pl) (thn (he pins s σ H _ I h) fun u s1 ⟨x, H1, I1, rx, a, dx, fs, ex, ea, l, q⟩ => ?_) ht
  subst ex
  obtain rfl : u = Value.ref a := rx
  refine getmeth_ok I1 ea c hm l ?_
  refine PySem.W.callWith_K (first := [.ref a]) (h₀ := X.base) I.ok.mod.kin hm.kp (thn (ha pos pins s1 σ H1 _ I1 q) fun us s2 ⟨vs, H2, I2, r, q2⟩ => ⟨I2.kIn, ?_⟩) hst hpl
  exact run_fn (us := .ref a :: us) (vs := .ref a :: vs) F hr hb hd hx I2 (.cons rfl r) q2
/-- o.m() -/
theorem pe_meth0 {pl : Sem Bool} (he : PE X o ta) (c : Cls X.K C) (hm : Meth X.K C m f) (F : FnOk X.prog X.w X.K X.mg X.base CX k f fd ps sp) (hr : Room k X.A) (hb : Binds X.K fd ps ds) (hd : Vals dvs ds) (hx : Passes CX X E)
    (ht : eval (.Call (.Attribute o m apos) [] [] pos) X.env = (do
      let ov ← eval o X.env
      standAt apos.atName
      let (f, first) ← holding [ov] (getMethod ov m pl)
      callWith pos f first (backTo pos (starEach [] X.env)) (backToKw pos (keywordEach [] X.env))) := by rfl) :
    PE X (.Call (.Attribute o m apos) [] [] pos) (tMeth C m sp dvs E ta tNil) := by
  intro pins s σ H Q I h
  refine PySem.W.methodCall_KW (pl := pl) (thn (he pins s σ H _ I h) fun u s1 ⟨x, H1, I1, rx, a, dx, fs, ex, ea, l, q⟩ => ?_) ht
  subst ex
  obtain rfl : u = Value.ref a := rx
  refine getmeth_ok I1 ea c hm l ?_
  exact PySem.W.callWith_K0 (first := [.ref a]) I1.kIn hm.kp (run_fn (us := [.ref a]) (vs := [.ref a]) F hr hb hd hx I1 (.cons rfl .nil) q)

/-- what a class must have to be made -/
structure Mk (K : PySem.W.Frag) (C f : Addr) : Prop where
  makes : PySem.W.makesIn K C = true
  init : PySem.W.findIn K (.ref C) "__init__" = some (some (.ref f))
  fn : PySem.W.isFn K (.ref f) = true
  kp : PySem.W.keepIn K (.ref C) = true

theorem run_make {pins : List (Addr × Obj)} {σ : St} {H : Hp} {s : Shared} {Q : VK} {us : List Value} {vs : List V} (M : Mk X.K C f) (F : FnOk X.prog X.w X.K X.mg X.base CX k f fd ps sp) (hr : Room (k + 1) X.A) (hb : Binds X.K fd ps ds) (hd : Vals dvs ds)
    (hx : Passes CX X E) (I : Inv X pins σ H s) (r : Vals vs us)
    (h : ∀ x dx, H x = none → H dx = none → dx ≠ x → sp (.ref x :: (vs ++ dvs)) (upd (upd H dx (.own x)) x (.ins C dx [])) (fun v H2 => v = .non ∧ Q (.ref x) H2) E) :
    wpAny (model X.prog X.w) X.A (call (.ref C) us) (EP X pins σ Q) X.xe s := by
  have hq := h (s.heap.objs.size + 1) s.heap.objs.size (I.hok.fresh (Nat.le_succ _)) (I.hok.fresh (Nat.le_refl _)) (Nat.ne_of_lt (Nat.lt_succ_self _))
  have I2 := Inv.made (C := C) I
  have r2 : Vals (V.ref (s.heap.objs.size + 1) :: (vs ++ dvs)) (Value.ref (s.heap.objs.size + 1) :: (us ++ ds)) := .cons rfl (r.append hd)
  have hl : (Value.ref (s.heap.objs.size + 1) :: us ++ ds).length = ps.length := by
    have e := r2.length
    rw [F.len _ _ _ _ hq] at e
    exact e.symm
  refine wpAny_call (make_map (f := f) I.kIn M.makes M.init (beq_iff_eq.mp M.fn) (codeAny_mono (F.run _ X.stack _ _ ⟨Value.ref (s.heap.objs.size + 1) :: us, []⟩ (Value.ref (s.heap.objs.size + 1) :: (us ++ ds)) _ _ E (hr.make C us [])
    (I2.env0.make C us []) (hb _ (Value.ref (s.heap.objs.size + 1) :: us) I2.kIn hl) r2 hq) fun r s' hq' => ?_))
  cases r with
  | error e => exact hx pins σ _ _ e s' I2 hq'
  | ok fl =>
    cases fl with
    | ret u =>
      obtain ⟨v, H', I3, rv, ev, q3⟩ := I2.after hq'
      subst ev
      exact ⟨rv, ⟨V.ref (s.heap.objs.size + 1), H', I3, rfl, q3⟩⟩
    | next => exact False.elim hq'
    | brk => exact False.elim hq'
    | cont => exact False.elim hq'
theorem pe_make (M : Mk X.K C f) (F : FnOk X.prog X.w X.K X.mg X.base CX k f fd ps sp) (hr : Room (k + 1) X.A) (hg : Gl X x) (hm : X.mg x = some (.ref C)) (hb : Binds X.K fd ps ds) (hd : Vals dvs ds) (hx : Passes CX X E)
    (ha : PA X (e :: es) t) (hdb : (x == ("__debug__" : Str)) = false := by decide) (he : starEach (e :: es) X.env = (false, eval e X.env) :: starEach es X.env := by rfl) (hpl : (backTo pos (starEach es X.env)).any (·.1) = false := by rfl) :
    PE X (.Call (.Name x p) (e :: es) [] pos) (tMake C sp dvs E t) := by
  intro pins s σ H Q I h
  refine wpAny_Call_Name_kw (ld_glob I hg hm ?_ hdb)
  refine PySem.W.callWith_K (h₀ := X.base) I.ok.mod.kin M.kp (thn (ha pos pins s σ H _ I h) fun us s1 ⟨vs, H1, I1, r, q⟩ => ⟨I1.kIn, ?_⟩) he hpl
  exact run_make M F hr hb hd hx I1 r q
theorem pe_make0 (M : Mk X.K C f) (F : FnOk X.prog X.w X.K X.mg X.base CX k f fd ps sp) (hr : Room (k + 1) X.A) (hg : Gl X x) (hm : X.mg x = some (.ref C)) (hb : Binds X.K fd ps ds) (hd : Vals dvs ds) (hx : Passes CX X E)
    (hdb : (x == ("__debug__" : Str)) = false := by decide) : PE X (.Call (.Name x p) [] [] pos) (tMake C sp dvs E tNil) := by
  intro pins s σ H Q I h
  refine wpAny_Call_Name_kw (ld_glob I hg hm ?_ hdb)
  exact PySem.W.callWith_K0 I.kIn M.kp (run_make (us := []) M F hr hb hd hx I .nil h)
end

/-! ### keywords -/
/-- the values of the keywords, from the left -/
def PK (X : Cx) (kws : List Keyword) (t : TA) : Prop :=
  ∀ (pos : Pos) (pins : List (Addr × Obj)) (s : Shared) (σ : St) (H : Hp) (Q : List V → Hp → Prop), Inv X pins σ H s → t σ H Q → wpAny (model X.prog X.w) X.A (evalAll ((backToKw pos (keywordEach kws X.env)).map (·.2))) (AP X pins σ Q) X.xe s
section
variable {X : Cx} {CX : CXT} {k : Nat} {f C : Addr} {fd : FuncData} {ps ks : List Str} {sp : Sp} {E : XK} {x m : Str} {p pos apos kpos : Pos} {e o : Expr} {es : List Expr} {kws : List Keyword} {te ta : TE} {t tk : TA} {nm : Option Str}
/-- how a call with keywords binds: g puts the positional values us and the keywords' values ws (names ks) in the parameters' order, defaults among them -/
structure KBinds (K : PySem.W.Frag) (fd : FuncData) (ps ks : List Str) (g : List Value → List Value → List Value) (gV : List V → List V → List V) : Prop where
  to : ∀ (s : Shared) (us ws : List Value), K.In s.heap → (g us ws).length = ps.length → BindsTo s fd ⟨us, ks.zip ws⟩ (ps.zip (g us ws))
  rel : ∀ {vs : List V} {us : List Value} {zs : List V} {ws : List Value}, Vals vs us → Vals zs ws → Vals (gV vs zs) (g us ws)
def tCallK (sp : Sp) (gV : List V → List V → List V) (E : XK) (t tk : TA) : TE := fun σ H Q => t σ H fun vs H1 => tk σ H1 fun zs H2 => sp (gV vs zs) H2 Q E
variable {g : List Value → List Value → List Value} {gV : List V → List V → List V}
end

/-! ### a def's body keeps its promise -/
/-- names: the parameters first -/
structure FnScope (N P : List Str) (sc : Scope) : Prop where
  kind : sc.kind = .function
  co : sc.isCoroutine = false
  gen : sc.isGenerator = false
  nd : N.Nodup
  pre : N.take P.length = P
  par : ∀ x ∈ P, sc.names.lookup x = some .local ∨ sc.names.lookup x = some .cell
  nofree : ∀ y ∈ sc.names, y.2 ≠ .free

theorem bindL_out {kindOf : Str → Option NameKind} {x : Str} : ∀ {binds : List (Str × Value)} {m : Str → Option Value}, (∀ v, (x, v) ∉ binds) → bindL kindOf binds m x = m x
  | [], _, _ => rfl
  | (n, v) :: r, m, h => by
    unfold bindL
    rw [bindL_out fun w hw => h w (List.mem_cons_of_mem _ hw)]
    split
    · have : x ≠ n := by rintro rfl; exact h v List.mem_cons_self
      simp [this]
    · rfl
theorem bindC_out {kindOf : Str → Option NameKind} {x : Str} : ∀ {binds : List (Str × Value)} {m : Str → Option Value}, (∀ v, (x, v) ∉ binds) → bindC kindOf binds m x = m x
  | [], _, _ => rfl
  | (n, v) :: r, m, h => by
    unfold bindC
    rw [bindC_out fun w hw => h w (List.mem_cons_of_mem _ hw)]
    split
    · rfl
    · have : x ≠ n := by rintro rfl; exact h v List.mem_cons_self
      simp [this]
theorem bindL_get {kindOf : Str → Option NameKind} {x : Str} {v : Value} : ∀ {P : List Str} {vs : List Value} {i : Nat} {m : Str → Option Value}, P.Nodup → P[i]? = some x → vs[i]? = some v → kindOf x = some .local →
    bindL kindOf (P.zip vs) m x = some v
  | [], _, _, _, _, h, _, _ => by simp at h
  | _ :: _, [], _, _, _, _, h, _ => by simp at h
  | p :: P, w :: vs, 0, m, nd, h1, h2, hk => by
    simp at h1 h2; subst h1; subst h2
    show bindL kindOf ((p, w) :: P.zip vs) m p = _
    unfold bindL
    rw [bindL_out fun v hv => (List.nodup_cons.mp nd).1 (List.of_mem_zip hv).1, if_pos hk]
    simp
  | p :: P, w :: vs, i + 1, m, nd, h1, h2, hk => by
    show bindL kindOf ((p, w) :: P.zip vs) m x = _
    unfold bindL
    exact bindL_get (i := i) (List.nodup_cons.mp nd).2 (by simpa using h1) (by simpa using h2) hk
theorem bindC_get {kindOf : Str → Option NameKind} {x : Str} {v : Value} : ∀ {P : List Str} {vs : List Value} {i : Nat} {m : Str → Option Value}, P.Nodup → P[i]? = some x → vs[i]? = some v → kindOf x ≠ some .local →
    bindC kindOf (P.zip vs) m x = some v
  | [], _, _, _, _, h, _, _ => by simp at h
  | _ :: _, [], _, _, _, _, h, _ => by simp at h
  | p :: P, w :: vs, 0, m, nd, h1, h2, hk => by
    simp at h1 h2; subst h1; subst h2
    show bindC kindOf ((p, w) :: P.zip vs) m p = _
    unfold bindC
    rw [bindC_out fun v hv => (List.nodup_cons.mp nd).1 (List.of_mem_zip hv).1, if_neg hk]
    simp
  | p :: P, w :: vs, i + 1, m, nd, h1, h2, hk => by
    show bindC kindOf ((p, w) :: P.zip vs) m x = _
    unfold bindC
    exact bindC_get (i := i) (List.nodup_cons.mp nd).2 (by simpa using h1) (by simpa using h2) hk

/-- the names' values at the entry -/
def start (N : List Str) (vs : List V) : St := vs.map some ++ List.replicate (N.length - vs.length) none

/-- the context of a def's body, at its entry; an exception leaves the frame, then lies as CX says -/
def cxOf (CX : CXT) (P : Program) (w : World) (K : PySem.W.Frag) (mg : Str → Option Value) (base : Heap) (N : List Str) (qual : Str) (scope : Scope) (f : Addr) (cd : Value) (A : Around) (outer : List Env) (s : Shared) (H : Hp) (E : XK) : Cx where
  prog := P
  w := w
  K := K
  mg := mg
  base := base
  A := A.deeper (envOfC qual scope s.heap.objs.size f cd)
  N := N
  s₀ := s
  H₀ := H
  env := envOfC qual scope s.heap.objs.size f cd
  outer := outer
  stack := envOfC qual scope s.heap.objs.size f cd :: outer
  ex := []
  calm := true
  fn := fun _ => true
  pn := []
  xe := fun e s' => wpAny (model P w) (A.deeper (envOfC qual scope s.heap.objs.size f cd)) (leaving (envOfC qual scope s.heap.objs.size f cd) e) (fun _ s'' => CX outer H s E e s'') (fun e' s'' => CX outer H s E e' s'') s'

theorem cell_has {sc : Scope} {n : Nat} {x : Str} (h : sc.names.lookup x = some .cell) : ∃ c, (cellsFrom n sc.names []).lookup x = some c := by
  have q := PySem.W.cellsFrom_some sc.names n [] (.inl h)
  exact Option.isSome_iff_exists.mp q

theorem inv_start {CX : CXT} {P : Program} {w : World} {K : PySem.W.Frag} {mg : Str → Option Value} {base : Heap} {N ps : List Str} {qual : Str} {scope : Scope} {f : Addr} {cd : Value} {A : Around} {outer : List Env} {s s1 : Shared} {H : Hp} {E : XK} {us : List Value} {vs : List V}
    (S : FnScope N ps scope) (e0 : Env0 P w K mg base A outer s H) (hl : vs.length = ps.length) (r : Vals vs us)
    (x : InCallC s s.heap.objs.size (bindL (envOfC qual scope s.heap.objs.size f cd).kindOf (ps.zip us) fun _ => none) (cellsFrom (s.heap.objs.size + 1) scope.names []) (bindC (envOfC qual scope s.heap.objs.size f cd).kindOf (ps.zip us) fun _ => none) s1) :
    Inv (cxOf CX P w K mg base N qual scope f cd A outer s H E) [] (start N vs) H s1 := by
  have hpl : ps.length ≤ N.length := by have := congrArg List.length S.pre; rw [List.length_take] at this; omega
  obtain ⟨h1, tk, rfl, hk⟩ := x.done
  have noA : ∀ b : Addr, b ∉ (cxOf CX P w K mg base N qual scope f cd A outer s H E).ex := fun b z => absurd (show b ∈ ([] : List Addr) from z) (by simp)
  refine ⟨⟨e0.mod, S.kind, rfl, rfl, Nat.le_refl _, fun y z c h1 h2 => ?_, fun y hy => ?_, fun y c _ h => ?_, e0.qt, Around.frames_deeper e0.frames, .inr ⟨rfl, rfl⟩, fun b z => absurd z (noA b), e0.bs, e0.bsz, fun b _ _ => noA b, fun b z => absurd z (noA b), e0.funs, e0.frf⟩,
    rfl, e0.bare, Un.kept hk, ⟨_, x.toInCall.ns, fun i y v h1 h2 h3 => ?_⟩, fun y c h => ⟨_, x.cell y c h⟩, e0.hok.fresh (Nat.le_refl _), fun y c h => ?_, fun p hp => absurd (show p ∈ ([] : List (Addr × Obj)) from hp) (by simp), e0.hok.kept hk, ?_⟩
  · exact name_of_addr x.apart (PySem.mem_of_lookup h1) (PySem.mem_of_lookup h2)
  · have hy : scope.names.lookup y = some .cell ∨ scope.names.lookup y = some .free := hy
    rcases hy with hy | hy
    · exact cell_has hy
    · exact absurd rfl (S.nofree _ (PySem.mem_of_lookup hy))
  · exact Nat.le_of_lt (x.above y c (PySem.mem_of_lookup h))
  · have hi : i < vs.length := by
      unfold start at h2
      by_cases hi : i < vs.length
      · exact hi
      · rw [List.getElem?_append_right (by simpa using hi)] at h2
        rw [List.getElem?_replicate] at h2
        split at h2 <;> cases h2
    have ha : vs[i]? = some v := by
      unfold start at h2
      rw [List.getElem?_append_left (by simpa using hi), List.getElem?_map] at h2
      cases e : vs[i]? with
      | none => rw [e] at h2; cases h2
      | some a => rw [e] at h2; cases h2; rfl
    obtain ⟨u, hu, rv⟩ := r.get ha
    have hp : ps[i]? = some y := by
      rw [← S.pre, List.getElem?_take_of_lt (by omega)]; exact h1
    have ndP : ps.Nodup := by rw [← S.pre]; exact S.nd.sublist (List.take_sublist _ _)
    refine ⟨u, rv, ?_⟩
    rcases S.par y (List.mem_of_getElem? hp) with k | k
    · exact .inl ⟨k, bindL_get ndP hp hu k⟩
    · obtain ⟨c, e⟩ := cell_has (n := s.heap.objs.size + 1) k
      refine .inr ⟨.inl k, c, e, ?_⟩
      have q := x.cell y c e
      rw [bindC_get ndP hp hu (by show scope.names.lookup y ≠ _; rw [k]; decide)] at q
      exact q
  · exact e0.hok.fresh (Nat.le_of_lt (x.above y c (PySem.mem_of_lookup h)))
  · unfold start
    show _ = N.length
    rw [List.length_append, List.length_map, List.length_replicate]
    omega

/-- THE RULE: a def (or a method) of the text, by its body. The body's reading t is chosen for each entry; it is run at the parameters' values -/
theorem fn_of {CX : CXT} {P : Program} {w : World} {K : PySem.W.Frag} {mg : Str → Option Value} {base : Heap} {k : Nat} {f : Addr} {name qual : Str} {params : Arguments} {body : List Stmt} {scope : Scope} {dV kV doc pm cdv ct oc : Value} {an od : Option Addr}
    {osl : Array (Option Value)} {N ps : List Str} {sp : Sp} (lk : K.lookup f = some ⟨oc, od, .func (PySem.W.fnOf name qual params body scope dV kV doc pm an cdv ct), osl⟩) (hcd : PySem.W.codeIn K cdv qual = true) (S : FnScope N ps scope)
    (len : ∀ vs H Q E, sp vs H Q E → vs.length = ps.length)
    (hbody : ∀ (A : Around) (outer : List Env) (s : Shared) (H : Hp) (vs : List V) (Q : VK) (E : XK), Room k (A.deeper (envOfC qual scope s.heap.objs.size f cdv)) → sp vs H Q E →
      ∃ t, PSs (cxOf CX P w K mg base N qual scope f cdv A outer s H E) body t ∧ t { nx := fun _ H' => Q .non H', rt := Q } (start N vs) H) :
    FnOk P w K mg base CX (k + 1) f (PySem.W.fnOf name qual params body scope dV kV doc pm an cdv ct) ps sp := by
  refine ⟨len, fun A outer s H args us vs Q E hr e0 hb r hsp => ?_⟩
  have hl := len _ _ _ _ hsp
  have KX : K.In s.heap := e0.mod.kin.keeps fun b o e => (e0.bs b o e).1
  have lim : s.heap.NoLimit := e0.mod.nolimit.keeps fun b o e => (e0.bs b o e).1
  have hkind : ∀ y ∈ ps.zip us, scope.names.lookup y.1 = some .local ∨ (scope.names.lookup y.1 = some .cell ∧ ((cellsFrom (s.heap.objs.size + 1) scope.names []).lookup y.1).isSome = true) := fun ⟨n, v⟩ hy => by
    rcases S.par n (List.of_mem_zip hy).1 with q | q
    · exact .inl q
    · exact .inr ⟨q, PySem.W.cellsFrom_some _ _ _ (.inl q)⟩
  refine codeAny_call_function hr.depth (KX _ _ lk) rfl S.co S.gen rfl (PySem.W.codeRec_of KX hcd) (hb _ _ _ _ ?_)
  refine wpAny_newFunctionEnv_cells S.kind hkind fun env he s1 x => ?_
  subst he
  refine ⟨lim.keeps x.toInCall.keep, codeAny_func ?_⟩
  obtain ⟨t, ht, hq⟩ := hbody A outer s H vs Q E (hr.deeper _) hsp
  have I : Inv (cxOf CX P w K mg base N qual scope f cdv A outer s H E) [] (start N vs) H s1 := inv_start S e0 hl r x
  refine wpAny_mono (ht [] s1 (start N vs) H _ I hq) (fun fl s' hs => ?_) fun e s' hs => hs
  have fin : ∀ {σ' : St} {H' : Hp} {v : V} {u : Value}, Inv (cxOf CX P w K mg base N qual scope f cdv A outer s H E) [] σ' H' s' → RelV v u → Q v H' → CE outer P w H s Q u s' :=
    fun {σ' H' v u} J rv q => ⟨v, H', J.os, J.bare, J.base, J.hok, rv, q⟩
  cases fl with
  | ret u =>
    obtain ⟨v, σ', H', J, rv, q⟩ := hs
    exact fin J rv q
  | next =>
    obtain ⟨σ', H', J, q⟩ := hs
    exact fin (v := V.non) (u := Value.none) J rfl q
  | brk =>
    obtain ⟨_, _, _, q⟩ := hs
    exact False.elim q
  | cont =>
    obtain ⟨_, _, _, q⟩ := hs
    exact False.elim q
end L2

namespace L2
open PySem PySem.Spec PyProof.Rows
section
variable {X : Cx} {x : Str} {p pos : Pos} {e : Expr} {es : List Expr} {t : TA} {id T : String} {r : List V → Hp → VK → Prop}

def tCB (r : List V → Hp → VK → Prop) (t : TA) : TE := fun σ H Q => t σ H fun vs H1 => r vs H1 Q
/-- f(e, ..), f a built-in function -/
theorem pe_callB (hc : CallR X (.builtin id) r) (hg : Gl X x) (hm : X.mg x = none) (hv : bootBuiltins x = some (.builtin id)) (ha : PA X (e :: es) t) (hn : x ≠ "__name__" := by decide) (hdb : (x == ("__debug__" : Str)) = false := by decide)
    (he : starEach (e :: es) X.env = (false, eval e X.env) :: starEach es X.env := by rfl) (hpl : (backTo pos (starEach es X.env)).any (·.1) = false := by rfl) : PE X (.Call (.Name x p) (e :: es) [] pos) (tCB r t) := by
  intro pins s σ H Q I h
  refine wpAny_Call_Name_kw (ld_blt I hg hm hv ?_ hn hdb)
  exact PyProof.Rows.callWith_builtin1 (thn (ha pos pins s σ H _ I h) fun us s1 ⟨vs, H1, I1, r1, q1⟩ => hc pins s1 σ H1 vs us Q I1 r1 q1) he hpl
/-- T(e, ..), T a built-in type -/
theorem pe_callTy (hc : CallR X (.type T) r) (hg : Gl X x) (hm : X.mg x = none) (hv : bootBuiltins x = some (.type T)) (ha : PA X (e :: es) t) (hn : x ≠ "__name__" := by decide) (hdb : (x == ("__debug__" : Str)) = false := by decide)
    (he : starEach (e :: es) X.env = (false, eval e X.env) :: starEach es X.env := by rfl) (hpl : (backTo pos (starEach es X.env)).any (·.1) = false := by rfl) : PE X (.Call (.Name x p) (e :: es) [] pos) (tCB r t) := by
  intro pins s σ H Q I h
  refine wpAny_Call_Name_kw (ld_blt I hg hm hv ?_ hn hdb)
  exact PyProof.Rows.callWith_type1 (thn (ha pos pins s σ H _ I h) fun us s1 ⟨vs, H1, I1, r1, q1⟩ => hc pins s1 σ H1 vs us Q I1 r1 q1) he hpl
end
end L2

namespace HT
open PySem PyProof.Rows

/-- t < u of tuples of ints -/
def lexLt : List Int → List Int → Bool
  | [], [] => false
  | [], _ :: _ => true
  | _ :: _, [] => false
  | x :: xs, y :: ys => if x = y then lexLt xs ys else decide (x < y)
section
open PySem.SeqAt
open PySem.AutoSeq1 (wpAny_loadPart')
open PySem.MeetsSeq PySem.MeetsSeq2 PySem.MeetsSeq3

end

section
variable {prog : Program} {w : World} {A : Around} {E : Value → Shared → Prop} {s : Shared}

/-! ### t[a:b], not the whole -/
/-- a slice's bound as a place among n (d where it is left out) -/
def sIx (n d : Nat) : Option Int → Nat
  | none => d
  | some v => if v < 0 then (v + (n : Int)).toNat else min v.toNat n
theorem sIx_nat (n d k : Nat) : sIx n d (some (k : Int)) = min k n := by
  show (if (k : Int) < 0 then ((k : Int) + (n : Int)).toNat else min (k : Int).toNat n) = min k n
  rw [if_neg (by omega), Int.toNat_natCast]
end
end HT

namespace L2
open PySem PySem.Spec PyProof.Rows

/-! ### the parts of a slice -/
abbrev TO := St → Hp → (Option Int → Hp → Prop) → Prop
/-- a slice's part (left out, or an int) -/
def PO (X : Cx) (e : Option Expr) (t : TO) : Prop :=
  ∀ (pins : List (Addr × Obj)) (s : Shared) (σ : St) (H : Hp) (Q : Option Int → Hp → Prop), Inv X pins σ H s → t σ H Q →
    wpAny (model X.prog X.w) X.A (evalPart e X.env) (fun u s' => ∃ o H', Inv X pins σ H' s' ∧ IsPart u o ∧ Q o H') X.xe s
def tNoPart : TO := fun _ H Q => Q none H
def tPart (t : TE) : TO := fun σ H Q => t σ H fun x H1 => ∃ i, x = .int i ∧ Q (some i) H1

theorem intsAre_of {ns : List Int} : ∀ {us : List Value}, Vals (ns.map V.int) us → IntsAre us ns := by
  induction ns with
  | nil => intro us r; rw [List.map_nil] at r; cases r; exact .nil
  | cons n ns ih =>
    intro us r
    rw [List.map_cons] at r
    cases r with
    | cons r1 r2 =>
      obtain ⟨t, e⟩ := r1
      subst e
      exact .cons n t (ih r2)

section
variable {X : Cx} {e : Expr} {te : TE} {lo hi : Option Expr} {tl th : TO} {pos p2 : Pos}

theorem po_none : PO X none tNoPart := by
  intro pins s σ H Q I h
  rw [evalPart_none]
  exact wpAny_pure ⟨none, H, I, .none, h⟩
theorem po_some (h : PE X e te) : PO X (some e) (tPart te) := by
  intro pins s σ H Q I hw
  rw [evalPart_some]
  refine thn (h pins s σ H _ I hw) fun u s1 ⟨x, H1, I1, r1, q1⟩ => ?_
  obtain ⟨i, rfl, q⟩ := q1
  obtain ⟨t, rfl⟩ := r1
  exact ⟨some i, H1, I1, .int i t, q⟩

/-- what a slice of a value is, by values: the slice object stands at sl -/
def SlR (X : Cx) (r : V → Option Int → Option Int → Hp → VK → Prop) : Prop :=
  ∀ (pins : List (Addr × Obj)) (s : Shared) (σ : St) (H : Hp) (x : V) (v vl vu : Value) (lo hi : Option Int) (sl : Addr) (Q : VK), Inv X pins σ H s → RelV x v → s.heap.IsSliceOf sl vl vu .none → IsPart vl lo → IsPart vu hi → r x lo hi H Q →
    ∃ T id, typeLookup (.type T) "__getitem__" = pure (some (.builtin id)) ∧ s.TypeIs v T ∧ wpAny (model X.prog X.w) X.A (getItem v (.ref sl)) (EP X pins σ Q) X.xe s
theorem SlR.or {r r' : V → Option Int → Option Int → Hp → VK → Prop} (h : SlR X r) (h' : SlR X r') : SlR X (fun x lo hi H Q => r x lo hi H Q ∨ r' x lo hi H Q) := by
  intro pins s σ H x v vl vu lo hi sl Q I rx hs pl pu q
  rcases q with q | q
  · exact h pins s σ H x v vl vu lo hi sl Q I rx hs pl pu q
  · exact h' pins s σ H x v vl vu lo hi sl Q I rx hs pl pu q
def tSl (r : V → Option Int → Option Int → Hp → VK → Prop) (te : TE) (tl th : TO) : TE := fun σ H Q => te σ H fun x H1 => tl σ H1 fun l H2 => th σ H2 fun u H3 => r x l u H3 Q
/-- a[lo:hi], any a -/
theorem pe_slice {r : V → Option Int → Option Int → Hp → VK → Prop} (hr : SlR X r) (he : PE X e te) (hl : PO X lo tl) (hu : PO X hi th) : PE X (.Subscript e (.Slice lo hi none p2) pos) (tSl r te tl th) := by
  intro pins s σ H Q I h
  refine Subscript_ (thn (he pins s σ H _ I h) fun v s1 ⟨x, H1, I1, r1, q1⟩ => ?_)
  refine wpAny_Slice (thn (hl pins s1 σ H1 _ I1 q1) fun vl s2 ⟨l, H2, I2, pl, q2⟩ => thn (hu pins s2 σ H2 _ I2 q2) fun vu s3 ⟨u, H3, I3, pu, q3⟩ => ?_)
  rw [evalPart_none]
  refine wpAny_pure ?_
  have I4 : Inv X pins σ H3 { s3 with heap := s3.heap.push { cls := .type "slice", data := .fields #[vl, vu, .none] } } := I3.kept (t' := s3.toks) fun b ob q => Heap.get?_push_of_some _ q
  obtain ⟨T, id, hT, ht, hg⟩ := hr pins { s3 with heap := s3.heap.push { cls := .type "slice", data := .fields #[vl, vu, .none] } } σ H3 x v vl vu l u s3.heap.objs.size Q I4 r1 (Heap.IsSliceOf.new ..) pl pu q3
  show wpAny (model X.prog X.w) X.A (subscriptTail e (.Slice lo hi none p2) v (.ref s3.heap.objs.size)) (EP X pins σ Q) X.xe { s3 with heap := s3.heap.push { cls := .type "slice", data := .fields #[vl, vu, .none] } }
  exact tail_any (ops := [.ref s3.heap.objs.size, v]) ht hT hg (by with_unfolding_all rfl)

/-- the items of xs[lo:hi] -/
def cutV (xs : List V) (lo hi : Option Int) : List V := (xs.drop (HT.sIx xs.length 0 lo)).take (HT.sIx xs.length xs.length hi - HT.sIx xs.length 0 lo)
theorem cutV_length (xs : List V) (lo hi : Option Int) : (cutV xs lo hi).length ≤ xs.length := by
  unfold cutV
  rw [List.length_take, List.length_drop]
  omega
/-- t[lo:hi], not the whole of it (the whole would be t itself) -/
def rSlT (K : PySem.W.Frag) : V → Option Int → Option Int → Hp → VK → Prop := fun x lo hi H Q => ∃ a xs, x = .ref a ∧ SqT K H a xs ∧
  ¬ (HT.sIx xs.length 0 lo = 0 ∧ HT.sIx xs.length xs.length hi = xs.length) ∧ ∀ p, H p = none → Q (.ref p) (upd H p (.tup (cutV xs lo hi)))
/-! ### t < u, t + u -/
def rLtT (K : PySem.W.Frag) : R2 := fun x y H Q => ∃ a b ns ms, x = .ref a ∧ y = .ref b ∧ SqT K H a (ns.map V.int) ∧ SqT K H b (ms.map V.int) ∧ Q (.bl (HT.lexLt ns ms)) H
/-- t + u, t not empty: u empty gives t itself -/
def rCatT (K : PySem.W.Frag) : R2 := fun x y H Q => ∃ a b xs ys, x = .ref a ∧ y = .ref b ∧ SqT K H a xs ∧ SqT K H b ys ∧ xs ≠ [] ∧ xs.length + ys.length ≤ sizeLine ∧
  (ys = [] → Q (.ref a) H) ∧ (ys ≠ [] → ∀ p, H p = none → Q (.ref p) (upd H p (.tup (xs ++ ys))))
end
end L2

namespace L2
open PySem PySem.Spec PyProof.Rows

/-! ### places -/
/-- the place that an index of any sign means -/
def ixN (n : Nat) (i : Int) : Option Nat := if 0 ≤ i then (if i < n then some i.toNat else none) else if -(n : Int) ≤ i then some (i + n).toNat else none
def atI {α : Type} (xs : List α) (i : Int) : Option α := (ixN xs.length i).bind fun j => xs[j]?
theorem ixN_seq {n : Nat} {i : Int} {j : Nat} (h : ixN n i = some j) : seqIndex? i n = some j ∧ j < n ∧ -(n : Int) ≤ i ∧ i < n := by
  unfold ixN at h
  by_cases h0 : 0 ≤ i
  · rw [if_pos h0] at h
    by_cases h1 : i < n
    · rw [if_pos h1] at h
      have e : i.toNat = j := Option.some.inj h
      exact ⟨by rw [seqIndex_of h0 h1, e], by omega, by omega, h1⟩
    · rw [if_neg h1] at h; cases h
  · rw [if_neg h0] at h
    by_cases h1 : -(n : Int) ≤ i
    · rw [if_pos h1] at h
      have e : (i + n).toNat = j := Option.some.inj h
      exact ⟨by rw [seqIndex_neg (by omega) h1, e], by omega, h1, by omega⟩
    · rw [if_neg h1] at h; cases h
theorem atI_get {α : Type} {xs : List α} {i : Int} {v : α} (h : atI xs i = some v) : ∃ j, seqIndex? i xs.length = some j ∧ xs[j]? = some v ∧ j < xs.length ∧ -(xs.length : Int) ≤ i ∧ i < xs.length := by
  unfold atI at h
  cases e : ixN xs.length i with
  | none => rw [e] at h; cases h
  | some j =>
    rw [e] at h
    obtain ⟨h1, h2, h3, h4⟩ := ixN_seq e
    exact ⟨j, h1, h, h2, h3, h4⟩
theorem atI_nat {α : Type} {xs : List α} {j : Nat} {v : α} (h : xs[j]? = some v) : atI xs (j : Int) = some v := by
  have hj : j < xs.length := (List.getElem?_eq_some_iff.mp h).1
  have e : ixN xs.length (j : Int) = some j := by
    unfold ixN
    rw [if_pos (by omega), if_pos (by omega)]; simp
  unfold atI; rw [e]; exact h
/-! ### what may be subscripted -/
/-- what stands as an index of a plain subscript -/
def PlainIx (b : Expr) : Prop := ∀ o i, subscripted b false o i = operate [o, i] (getItem o i)
/-- a subscript by values -/
def IxR (X : Cx) (r : R2) : Prop :=
  ∀ (value slice : Expr) (pins : List (Addr × Obj)) (s : Shared) (σ : St) (H : Hp) (x y : V) (v u : Value) (Q : VK), Inv X pins σ H s → RelV x v → RelV y u → r x y H Q →
    subscripted slice false v u = operate [v, u] (getItem v u) → wpAny (model X.prog X.w) X.A (subscriptTail value slice v u) (EP X pins σ Q) X.xe s
/-- a call of a builtin's method by values: the receiver, the arguments -/
def MtR (X : Cx) (id : String) (r : V → List V → Hp → VK → Prop) : Prop :=
  ∀ (pins : List (Addr × Obj)) (s : Shared) (σ : St) (H : Hp) (x : V) (xs : List V) (v : Value) (us : List Value) (Q : VK), Inv X pins σ H s → RelV x v → Vals xs us → r x xs H Q →
    wpAny (model X.prog X.w) X.A (call (.builtin id) (v :: us)) (EP X pins σ Q) X.xe s
section
variable {X : Cx} {a b : Expr} {ta tb : TE} {pos : Pos}
theorem IxR.or {r r' : R2} (h : IxR X r) (h' : IxR X r') : IxR X (fun x y H Q => r x y H Q ∨ r' x y H Q) := by
  intro value slice pins s σ H x y v u Q I rx ry q hs
  rcases q with q | q
  · exact h value slice pins s σ H x y v u Q I rx ry q hs
  · exact h' value slice pins s σ H x y v u Q I rx ry q hs
theorem MtR.or {id : String} {r r' : V → List V → Hp → VK → Prop} (h : MtR X id r) (h' : MtR X id r') : MtR X id (fun x xs H Q => r x xs H Q ∨ r' x xs H Q) := by
  intro pins s σ H x xs v us Q I rx rs q
  rcases q with q | q
  · exact h pins s σ H x xs v us Q I rx rs q
  · exact h' pins s σ H x xs v us Q I rx rs q
/-- a[b] -/
theorem pe_ix {r : R2} (hr : IxR X r) (ha : PE X a ta) (hb : PE X b tb) (hs : PlainIx b) : PE X (.Subscript a b pos) (tOp r ta tb) := by
  intro pins s σ H Q I h
  exact Subscript_ (binT ha hb I h fun v u s2 x y H2 I2 rx ry q => hr a b pins s2 σ H2 x y v u Q I2 rx ry q (hs _ _))

def rIxL (K : PySem.W.Frag) : R2 := fun x y H Q => ∃ p xs i v, x = .ref p ∧ y = .int i ∧ SqL K H p xs ∧ atI xs i = some v ∧ Q v H
def rIxT (K : PySem.W.Frag) : R2 := fun x y H Q => ∃ p xs i v, x = .ref p ∧ y = .int i ∧ SqT K H p xs ∧ atI xs i = some v ∧ Q v H
def rIxS : R2 := fun x y H Q => ∃ z i c, x = .str z ∧ y = .int i ∧ z.length ≤ sizeLine ∧ atI z.cps.toList i = some c ∧ Q (.str ⟨#[c]⟩) H
theorem ix_list : IxR X (rIxL X.K) := by
  intro value slice pins s σ H x y v u Q I rx ry h hs
  obtain ⟨p, xs, i, z, rfl, rfl, hq, he, q⟩ := h
  cases rx
  obtain ⟨t, rfl⟩ := ry
  obtain ⟨its, r, pl, hz⟩ := I.list hq
  obtain ⟨j, h1, h2, h3, h4, h5⟩ := atI_get he
  obtain ⟨w, ew, rw'⟩ := r.get h2
  have hl := r.length
  have hn := line63
  have fin : EP X pins σ Q w s := ⟨z, H, I, rw', q⟩
  by_cases h0 : 0 ≤ i
  · have hj : i.toNat = j := by
      rw [seqIndex_of h0 h5] at h1
      exact Option.some.inj h1
    exact item_listR pl.isList h0 (by omega) (by rw [hj]; simpa using ew) fin hs
  · have hj : (i + (its.toArray.size : Int)).toNat = j := by
      rw [seqIndex_neg (by omega) h4] at h1
      rw [List.size_toArray, ← hl]
      exact Option.some.inj h1
    exact subscriptTail_builtinR (x := w) pl.isList.typeIs slot_list_getitem.lookup
      (wpAny_getItem_list_neg (Q := fun r s' => r = w ∧ EP X pins σ Q r s') pl.isList (by omega) (by rw [List.size_toArray] <;> omega) (by omega) (by rw [hj]; simpa using ew) ⟨rfl, fin⟩) hs
theorem ix_tup : IxR X (rIxT X.K) := by
  intro value slice pins s σ H x y v u Q I rx ry h hs
  obtain ⟨p, xs, i, z, rfl, rfl, hq, he, q⟩ := h
  cases rx
  obtain ⟨t, rfl⟩ := ry
  obtain ⟨its, r, pl, hz⟩ := I.tuple hq
  obtain ⟨j, h1, h2, h3, h4, h5⟩ := atI_get he
  obtain ⟨w, ew, rw'⟩ := r.get h2
  have hl := r.length
  have hn := line63
  have fin : EP X pins σ Q w s := ⟨z, H, I, rw', q⟩
  exact subscriptTail_builtinR (x := w) pl.typeIs slot_tuple_getitem.lookup
    (getItem_tuple (j := j) (Q := fun r s' => r = w ∧ EP X pins σ Q r s') pl (by omega) (by omega) (by rw [List.size_toArray, ← hl]; exact h1) (by simpa using ew) ⟨rfl, fin⟩) hs
/-- list, tuple or str -/
def rIx (K : PySem.W.Frag) : R2 := fun x y H Q => rIxL K x y H Q ∨ rIxT K x y H Q ∨ rIxS x y H Q
/-! ### xs[i] = v, any sign -/
/-- the list's object behind a store -/
theorem mapSeq_set (its : List Value) (n j : Nat) (u : Value) : Obj.mapSeq (·.setIfInBounds j u) { cls := .type "list", data := .seq its.toArray n } = { cls := .type "list", data := .seq (its.set j u).toArray n } := by
  simp [Obj.mapSeq]
theorem Inv.lst {pins : List (Addr × Obj)} {σ : St} {H : Hp} {s : Shared} {p : Addr} {xs : List V} (I : Inv X pins σ H s) (h : H p = some (.lst xs)) :
    ∃ (its : List Value) (n : Nat), Vals xs its ∧ s.heap.get? p = some { cls := .type "list", data := .seq its.toArray n } ∧ xs.length ≤ sizeLine := by
  obtain ⟨z, its, n, r, e⟩ := I.hok p _ h
  exact ⟨its, n, r, e, z⟩
/-- the list at p is written by an update of its object -/
theorem Inv.lstUpd {pins : List (Addr × Obj)} {σ : St} {H : Hp} {s : Shared} {p : Addr} {xs ys : List V} {its its' : List Value} {n n' : Nat} {f : Obj → Obj} (I : Inv X pins σ H s) (h : H p = some (.lst xs))
    (ho : s.heap.get? p = some { cls := .type "list", data := .seq its.toArray n }) (hf : f { cls := .type "list", data := .seq its.toArray n } = { cls := .type "list", data := .seq its'.toArray n' }) (r : Vals ys its') (hz : ys.length ≤ sizeLine) (t : Nat) :
    Inv X pins σ (upd H p (.lst ys)) { s with heap := s.heap.update p f, toks := t } := by
  have e : (s.heap.update p f).get? p = some { cls := .type "list", data := .seq its'.toArray n' } := by
    rw [Heap.get?_update_self f ho (by rw [hf] <;> rfl), hf]
  refine I.write (x := p) (e := p) (by rw [h]; trivial) (.inl rfl) (fun b u hb q => (Heap.get?_update_other _ _ (Ne.symm hb)).trans q) ⟨_, e⟩ ?_
  exact ⟨hz, its', n', r, e⟩
def rSetL : V → V → V → Hp → (Hp → Prop) → Prop := fun o i v H Q => ∃ p xs k j, o = .ref p ∧ i = .int k ∧ H p = some (.lst xs) ∧ ixN xs.length k = some j ∧ Q (upd H p (.lst (xs.set j v)))
theorem set_list : PSet X rSetL := by
  intro pins s σ H o i v ov iv u Q I ro ri rv h
  obtain ⟨p, xs, k, j, rfl, rfl, hp, hj, q⟩ := h
  cases ro
  obtain ⟨t, rfl⟩ := ri
  obtain ⟨its, n, r, ho, hz⟩ := I.lst hp
  obtain ⟨h1, h2, h3, h4⟩ := ixN_seq hj
  have hl := r.length
  have hn := line63
  have I' : Inv X pins σ (upd H p (.lst (xs.set j v))) { s with heap := s.heap.update p (Obj.mapSeq (·.setIfInBounds j u)) } :=
    I.lstUpd hp ho (mapSeq_set its n j u) (r.set rv j) (by rw [List.length_set]; exact hz) s.toks
  by_cases h0 : 0 ≤ k
  · have hk : k.toNat = j := by
      rw [seqIndex_of h0 h4] at h1
      exact Option.some.inj h1
    exact PySem.W.ki_setAt ho h0 (by omega) (by rw [List.size_toArray, ← hl]; exact h4) (by rw [hk]; exact ⟨_, I', q⟩)
  · have hk : (k + (its.toArray.size : Int)).toNat = j := by
      rw [seqIndex_neg (by omega) h3] at h1
      rw [List.size_toArray, ← hl]
      exact Option.some.inj h1
    exact PySem.W.ki_setBack ho (by omega) (by rw [List.size_toArray, ← hl]; exact h3) (by omega) (by rw [hk]; exact ⟨_, I', q⟩)

/-! ### slices -/
theorem slice_bounds (lo hi : Option Int) (n : Nat) : (sliceBounds lo hi none n).1 = ((HT.sIx n 0 lo : Nat) : Int) ∧ (sliceBounds lo hi none n).2.1 = ((HT.sIx n n hi : Nat) : Int) ∧ (sliceBounds lo hi none n).2.2 = 1 := by
  refine ⟨?_, ?_, rfl⟩
  · cases lo with
    | none => simp [sliceBounds, HT.sIx]
    | some i =>
      simp only [sliceBounds, HT.sIx, Option.getD_none, show (1 : Int) > 0 by decide, if_true]
      by_cases h : i < 0
      · simp only [h, if_true] <;> omega
      · simp only [h, if_false] <;> omega
  · cases hi with
    | none => simp [sliceBounds, HT.sIx]
    | some i =>
      simp only [sliceBounds, HT.sIx, Option.getD_none, show (1 : Int) > 0 by decide, if_true]
      by_cases h : i < 0
      · simp only [h, if_true] <;> omega
      · simp only [h, if_false] <;> omega
theorem slicePick_cut (its : List Value) (lo hi : Option Int) : slicePick its.toArray lo hi none = ((its.drop (HT.sIx its.length 0 lo)).take (HT.sIx its.length its.length hi - HT.sIx its.length 0 lo)).toArray := by
  obtain ⟨h1, h2, h3⟩ := slice_bounds lo hi its.toArray.size
  unfold slicePick
  rw [h1, h2, h3]
  simp only [sliceRange_one, pick_run, List.size_toArray] <;> rfl
/-- xs[lo:hi] of a list: a new list -/
def rSlL (K : PySem.W.Frag) : V → Option Int → Option Int → Hp → VK → Prop := fun x lo hi H Q => ∃ a xs, x = .ref a ∧ SqL K H a xs ∧ ∀ p, H p = none → Q (.ref p) (upd H p (.lst (cutV xs lo hi)))
theorem sl_list : SlR X (rSlL X.K) := by
  intro pins s σ H x v vl vu lo hi sl Q I rx hs pl pu h
  obtain ⟨a, xs, rfl, hx, q⟩ := h
  cases rx
  obtain ⟨its, r, ht, hz⟩ := I.list hx
  have hlen := r.length
  refine ⟨"list", _, slot_list_getitem.lookup, ht.isList.typeIs, ?_⟩
  refine wpAny_getItem_list_slice ht.isList hs pl pu .none (by simp) ?_ (by rw [List.size_toArray] <;> omega)
  rw [slicePick_cut, ← hlen]
  refine ⟨.ref s.heap.objs.size, _, I.laid (t' := s.toks) (o := .lst (cutV xs lo hi)) (fun b ob q => Heap.get?_push_of_some _ q) (Nat.le_refl _) ?_, rfl, q _ (I.hok.fresh (Nat.le_refl _))⟩
  exact ⟨Nat.le_trans (cutV_length xs lo hi) hz, _, 0, (r.drop (HT.sIx xs.length 0 lo)).take (HT.sIx xs.length xs.length hi - HT.sIx xs.length 0 lo), Heap.get?_push_size _ rfl⟩

/-! ### in, not in: flat items -/
def flatV : V → Bool
  | .non => true
  | .bl _ => true
  | .int _ => true
  | .str _ => true
  | _ => false
/-- == of flat values -/
def eqV : V → V → Bool
  | .non, .non => true
  | .bl a, .bl b => a == b
  | .bl a, .int b => (if a then 1 else 0) == b
  | .int a, .bl b => a == (if b then 1 else 0)
  | .int a, .int b => a == b
  | .str a, .str b => a == b
  | _, _ => false
theorem eqAt_V {A : Around} {s : Shared} {y x : V} {u v : Value} (ry : RelV y u) (rx : RelV x v) (fy : flatV y = true) (fx : flatV x = true) : SeqAt.EqAt A s u v (eqV y x) := by
  cases y with
  | non =>
    cases ry
    cases x with
    | non => cases rx; exact SeqAt.EqAt.same _
    | bl b => cases rx; exact SeqAt.EqAt.none_bool b
    | int b => obtain ⟨t, rfl⟩ := rx; exact SeqAt.EqAt.none_int b t
    | str b => obtain ⟨t, rfl⟩ := rx; exact SeqAt.EqAt.none_str b t
    | _ => exact absurd (show false = true from fx) Bool.false_ne_true
  | bl a =>
    cases ry
    cases x with
    | non => cases rx; exact SeqAt.EqAt.bool_none a
    | bl b => cases rx; exact SeqAt.EqAt.bool_bool a b
    | int b => obtain ⟨t, rfl⟩ := rx; exact SeqAt.EqAt.bool_int a b t
    | str b => obtain ⟨t, rfl⟩ := rx; exact SeqAt.EqAt.bool_str a b t
    | _ => exact absurd (show false = true from fx) Bool.false_ne_true
  | int a =>
    obtain ⟨t', rfl⟩ := ry
    cases x with
    | non => cases rx; exact SeqAt.EqAt.int_none a t'
    | bl b => cases rx; exact SeqAt.EqAt.int_bool a t' b
    | int b => obtain ⟨t, rfl⟩ := rx; exact SeqAt.EqAt.int_int a t' b t
    | str b => obtain ⟨t, rfl⟩ := rx; exact SeqAt.EqAt.int_str a t' b t
    | _ => exact absurd (show false = true from fx) Bool.false_ne_true
  | str a =>
    obtain ⟨t', rfl⟩ := ry
    cases x with
    | non => cases rx; exact SeqAt.EqAt.str_none a t'
    | bl b => cases rx; exact SeqAt.EqAt.str_bool a t' b
    | int b => obtain ⟨t, rfl⟩ := rx; exact SeqAt.EqAt.str_int a t' b t
    | str b => obtain ⟨t, rfl⟩ := rx; exact SeqAt.EqAt.str_str a t' b t
    | _ => exact absurd (show false = true from fx) Bool.false_ne_true
  | _ => exact absurd (show false = true from fy) Bool.false_ne_true
/-- the items' answers, read off the values (a value's own answer does not lean on its token) -/
def eqU (x : V) (u : Value) : Bool := match u with
  | .none => eqV .non x
  | .bool b => eqV (.bl b) x
  | .int i _ => eqV (.int i) x
  | .str z _ => eqV (.str z) x
  | _ => false
theorem eqU_of {x y : V} {u : Value} (r : RelV y u) (f : flatV y = true) : eqU x u = eqV y x := by
  cases y with
  | non => cases r; rfl
  | bl b => cases r; rfl
  | int i => obtain ⟨t, rfl⟩ := r; rfl
  | str z => obtain ⟨t, rfl⟩ := r; rfl
  | _ => exact absurd (show false = true from f) Bool.false_ne_true
theorem any_eqU {x : V} : ∀ {xs : List V} {us : List Value}, Vals xs us → xs.all flatV = true → us.any (eqU x) = xs.any fun y => eqV y x
  | _, _, .nil, _ => rfl
  | y :: xs, u :: us, .cons r t, f => by
    rw [List.all_cons, Bool.and_eq_true] at f
    rw [List.any_cons, List.any_cons, eqU_of r f.1, any_eqU t f.2]
theorem mem_eqAt {A : Around} {s : Shared} {x : V} {v : Value} (rx : RelV x v) (fx : flatV x = true) : ∀ {xs : List V} {us : List Value}, Vals xs us → xs.all flatV = true → ∀ u ∈ us, SeqAt.EqAt A s u v (eqU x u)
  | _, _, .nil, _ => fun u hu => by cases hu
  | y :: xs, u :: us, .cons r t, f => fun u' hu => by
    rw [List.all_cons, Bool.and_eq_true] at f
    rcases List.mem_cons.mp hu with rfl | hu
    · rw [eqU_of r f.1]; exact eqAt_V r rx f.1 fx
    · exact mem_eqAt rx fx t f.2 u' hu
def inV (x : V) (xs : List V) : Bool := xs.any fun y => eqV y x
/-- x in a list or tuple of flat items -/
def rIn (K : PySem.W.Frag) (neg : Bool) : R2 := fun x y H Q => ∃ p xs, y = .ref p ∧ (SqL K H p xs ∨ SqT K H p xs) ∧ flatV x = true ∧ xs.all flatV = true ∧ Q (.bl (if neg then !inV x xs else inV x xs)) H
theorem op_in_seq : OpR X (compareOp .In) (rIn X.K false) := by
  intro pins s σ H x y v u Q I rx ry h
  obtain ⟨p, xs, rfl, hq, fx, fs, q⟩ := h
  cases ry
  rcases hq with hq | hq
  · obtain ⟨its, r, pl, hz⟩ := I.list hq
    refine SeqAt.in_listAt (eqU x) pl.isList (fun w hw => mem_eqAt rx fx r fs w (by simpa using hw)) ⟨.bl _, H, I, rfl, ?_⟩
    rw [show its.toArray.any (eqU x) = its.any (eqU x) by simp, any_eqU r fs]
    exact q
  · obtain ⟨its, r, pl, hz⟩ := I.tuple hq
    refine SeqAt.in_tupleAt (eqU x) pl (fun w hw => mem_eqAt rx fx r fs w (by simpa using hw)) ⟨.bl _, H, I, rfl, ?_⟩
    rw [show its.toArray.any (eqU x) = its.any (eqU x) by simp, any_eqU r fs]
    exact q
/-! ### len, list(x), tuple(x) of any list or tuple that is read -/
theorem call_len_seq : CallR X (.builtin "len") (fun xs H Q => ∃ p ys, xs = [.ref p] ∧ (SqL X.K H p ys ∨ SqT X.K H p ys) ∧ Q (.int ys.length) H) := by
  intro pins s σ H xs us Q I r h
  obtain ⟨p, ys, rfl, hq, q⟩ := h
  obtain ⟨u, rfl, rx⟩ := vals1 r
  cases rx
  have hn := line63
  rcases hq with hq | hq
  · obtain ⟨its, r', pl, hz⟩ := I.list hq
    have hlen := r'.length
    exact Calls.call_len_list pl.isList (by simp only [List.size_toArray] <;> omega) ⟨.int ys.length, H, I.tok _, ⟨s.toks + 1, by rw [List.size_toArray, hlen]⟩, q⟩
  · obtain ⟨its, r', pl, hz⟩ := I.tuple hq
    have hlen := r'.length
    exact len_tuple pl (by simp only [List.size_toArray] <;> omega) ⟨.int ys.length, H, I.tok _, ⟨s.toks + 1, by rw [List.size_toArray, hlen]⟩, q⟩
theorem call_len_str : CallR X (.builtin "len") (fun xs H Q => ∃ z, xs = [.str z] ∧ z.length ≤ sizeLine ∧ Q (.int z.length) H) := by
  intro pins s σ H xs us Q I r h
  obtain ⟨z, rfl, hz, q⟩ := h
  obtain ⟨u, rfl, t, rfl⟩ := vals1 r
  have hn := line63
  exact len_str (by omega) ⟨.int z.length, H, I.tok _, ⟨_, rfl⟩, q⟩
theorem CallR.or {f : Value} {r r' : List V → Hp → VK → Prop} (h : CallR X f r) (h' : CallR X f r') : CallR X f (fun xs H Q => r xs H Q ∨ r' xs H Q) := by
  intro pins s σ H xs us Q I rs q
  rcases q with q | q
  · exact h pins s σ H xs us Q I rs q
  · exact h' pins s σ H xs us Q I rs q
theorem call_list_of : CallR X (.type "list") (fun xs H Q => ∃ p ys, xs = [.ref p] ∧ (SqL X.K H p ys ∨ SqT X.K H p ys) ∧ ∀ l, H l = none → Q (.ref l) (upd H l (.lst ys))) := by
  intro pins s σ H xs us Q I r h
  obtain ⟨p, ys, rfl, hq, q⟩ := h
  obtain ⟨u, rfl, rx⟩ := vals1 r
  cases rx
  have fin : ∀ (its : List Value), Vals ys its → ys.length ≤ sizeLine → ∀ (h' : Heap) (c' : Nat), (∀ b o', s.heap.get? b = some o' → h'.get? b = some o') →
      h'.get? s.heap.objs.size = some { cls := .type "list", dict := none, data := .seq its.toArray c', slots := #[] } → EP X pins σ Q (.ref s.heap.objs.size) { s with heap := h' } := fun its r' hz h' c' kp e =>
    ⟨.ref s.heap.objs.size, _, I.laid (t' := s.toks) kp (Nat.le_refl _) (show ObjOk X.prog X.w _ h' _ (.lst ys) from ⟨hz, its, c', r', e⟩), rfl, q _ (I.hok.fresh (Nat.le_refl _))⟩
  rcases hq with hq | hq
  · obtain ⟨its, r', pl, hz⟩ := I.list hq
    have hlen := r'.length
    obtain ⟨o, ho, hc, n, hd⟩ := pl.isList
    exact call_list_seq p (.inl rfl) ho hc hd (fun h' c' kp e => fin its r' hz h' c' kp e) (by simp only [List.size_toArray] <;> omega)
  · obtain ⟨its, r', pl, hz⟩ := I.tuple hq
    have hlen := r'.length
    obtain ⟨o, ho, hc, n, hd⟩ := pl
    exact call_list_seq p (.inr rfl) ho hc hd (fun h' c' kp e => fin its r' hz h' c' kp e) (by simp only [List.size_toArray] <;> omega)
/-! ### the call of a builtin's method: o.m(..) -/
/-- the value is of that builtin type -/
def tyV (K : PySem.W.Frag) (T : String) (x : V) (H : Hp) : Prop := match x with
  | .str _ => T = "str"
  | .int _ => T = "int"
  | .ref p => (T = "list" ∧ ∃ xs, SqL K H p xs) ∨ (T = "tuple" ∧ ∃ o, K.lookup p = some o ∧ o.cls = .type "tuple" ∧ o.dict = none) ∨
      (T = "dict" ∧ ((∃ kvs, H p = some (.dK kvs)) ∨ ∃ kvs, H p = some (.dT kvs))) ∨ (T = "set" ∧ ∃ S n, H p = some (.set S n))
  | _ => False
theorem tyV_is {pins : List (Addr × Obj)} {σ : St} {H : Hp} {s : Shared} {T : String} {x : V} {v : Value} (I : Inv X pins σ H s) (r : RelV x v) (ty : tyV X.K T x H) :
    s.TypeIs v T ∧ ∀ a, v = .ref a → ∃ ob, s.heap.get? a = some ob ∧ ob.dict = none := by
  cases x with
  | str z =>
    obtain ⟨t, rfl⟩ := r
    cases (show T = "str" from ty)
    exact ⟨typeIs_str s z t, fun _ e => nomatch e⟩
  | int i =>
    obtain ⟨t, rfl⟩ := r
    cases (show T = "int" from ty)
    exact ⟨typeIs_int s i t, fun _ e => nomatch e⟩
  | ref p =>
    cases r
    rcases ty with ⟨rfl, xs, hq⟩ | ⟨rfl, o, hk, hc, hd⟩ | ⟨rfl, hk⟩ | ⟨rfl, S, n, hk⟩
    · obtain ⟨its, _, pl, _⟩ := I.list hq
      refine ⟨pl.isList.typeIs, fun a e => ?_⟩
      cases e
      obtain ⟨o, n, e, c, hd, _⟩ := pl
      exact ⟨o, e, hd⟩
    · refine ⟨⟨o, I.kIn p o hk, hc⟩, fun a e => ?_⟩
      cases e
      exact ⟨o, I.kIn _ o hk, hd⟩
    · have z : ∃ o, s.heap.get? p = some o ∧ o.ExactDict := by
        rcases hk with ⟨kvs, hk⟩ | ⟨kvs, hk⟩
        · obtain ⟨_, _, _, _, o, _, _, e, ex, _⟩ := I.hok p _ hk
          exact ⟨o, e, ex⟩
        · obtain ⟨_, _, _, _, o, _, _, e, ex, _⟩ := I.hok p _ hk
          exact ⟨o, e, ex⟩
      obtain ⟨o, e, ex⟩ := z
      refine ⟨⟨o, e, ex.1⟩, fun a e2 => ?_⟩
      cases e2
      exact ⟨o, e, ex.2.1⟩
    · obtain ⟨o, _, _, _, e, ex, _⟩ := I.hok p _ hk
      refine ⟨⟨o, e, ex.1⟩, fun a e2 => ?_⟩
      cases e2
      exact ⟨o, e, ex.2.1⟩
  | _ => exact False.elim ty
def tBM0 (K : PySem.W.Frag) (T : String) (r : V → List V → Hp → VK → Prop) (to : TE) : TE := fun σ H Q => to σ H fun x H1 => tyV K T x H1 ∧ r x [] H1 Q
def tBM (K : PySem.W.Frag) (T : String) (r : V → List V → Hp → VK → Prop) (to : TE) (t : TA) : TE := fun σ H Q => to σ H fun x H1 => tyV K T x H1 ∧ t σ H1 fun xs H2 => r x xs H2 Q
variable {o e : Expr} {es : List Expr} {to : TE} {t : TA} {name : Str} {apos cpos : Pos} {T id : String} {r : V → List V → Hp → VK → Prop}
theorem pe_bm0 (pa : PlainAttrs T) (slot : Slot T name id) (hty : typeOf (.builtin id) = pure (.type "method_descriptor")) (hm : MtR X id r) (ho : PE X o to)
    (hbase : attributeBase o name X.env (eval o X.env) = eval o X.env := by rfl) (hline : (apos.endLine == cpos.line) = true := by rfl) : PE X (.Call (.Attribute o name apos) [] [] cpos) (tBM0 X.K T r to) := by
  intro pins s σ H Q I h
  refine wpAny_Call_method0_late hbase hline (thn (ho pins s σ H _ I h) fun v s1 ⟨x, H1, I1, r1, ty, q1⟩ => ?_)
  obtain ⟨h1, h2⟩ := tyV_is I1 r1 ty
  exact ⟨T, id, pa, slot, hty, h1, h2, Calls.callWith_builtin rfl (PySem.evalArgs_none (hm pins s1 σ H1 x [] v [] Q I1 r1 .nil q1))⟩
theorem pe_bm (pa : PlainAttrs T) (slot : Slot T name id) (hty : typeOf (.builtin id) = pure (.type "method_descriptor")) (hm : MtR X id r) (ho : PE X o to) (ha : PA X (e :: es) t)
    (hbase : attributeBase o name X.env (eval o X.env) = eval o X.env := by rfl)
    (hfew : ((backTo cpos (starEach (e :: es) X.env)).all (fun x => !x.1) && (backToKw cpos (keywordEach [] X.env)).all (fun x => x.1.isSome)
      && decide ((e :: es).length + ([] : List Keyword).length + (if ([] : List Keyword).isEmpty then 0 else 1) < 30)) = true := by rfl)
    (hline : (apos.endLine == cpos.line) = true := by rfl) (hs : starEach (e :: es) X.env = (false, eval e X.env) :: starEach es X.env := by rfl) (hplain : (backTo cpos (starEach es X.env)).any (·.1) = false := by rfl) :
    PE X (.Call (.Attribute o name apos) (e :: es) [] cpos) (tBM X.K T r to t) := by
  intro pins s σ H Q I h
  refine wpAny_Call_method_late hbase hfew hline rfl (thn (ho pins s σ H _ I h) fun v s1 ⟨x, H1, I1, r1, ty, q1⟩ => ?_)
  obtain ⟨h1, h2⟩ := tyV_is I1 r1 ty
  refine ⟨T, id, pa, slot, hty, h1, h2, ?_⟩
  have hA := ha cpos pins s1 σ H1 _ I1 q1
  rw [hs] at hA ⊢
  refine Calls.callWith_builtin (by show (false || (backTo cpos (starEach es X.env)).any (·.1)) = false; rw [hplain] <;> rfl) (Calls.evalArgs_plain ?_)
  exact thn hA fun us s2 ⟨vs, H2, I2, r2, q2⟩ => hm pins s2 σ H2 x vs v us Q I2 r1 r2 q2
/- xs.append(e), list.index on a module's tuple .. are MtR facts of 06m -/
end
end L2

namespace L2
open PySem PySem.Spec PyProof.Rows

def MtM (X : Cx) (id : String) (r : V → List V → Hp → VK → Prop) : Prop :=
  ∀ (pins : List (Addr × Obj)) (s : Shared) (σ : St) (H : Hp) (x : V) (xs : List V) (v : Value) (us : List Value) (Q : VK), Inv X pins σ H s → RelV x v → Vals xs us → r x xs H Q →
    wpAny (model X.prog X.w) X.A (call (.builtin id) (v :: us)) (EP X pins σ Q) X.xe s

/-! ### lists of values -/
theorem Vals.one : ∀ {x : V} {us : List Value}, Vals [x] us → ∃ u, us = [u] ∧ RelV x u
  | _, _, .cons r .nil => ⟨_, rfl, r⟩
theorem Vals.two : ∀ {x y : V} {us : List Value}, Vals [x, y] us → ∃ u v, us = [u, v] ∧ RelV x u ∧ RelV y v
  | _, _, _, .cons r (.cons q .nil) => ⟨_, _, rfl, r, q⟩
theorem Vals.zero : ∀ {us : List Value}, Vals [] us → us = []
  | _, .nil => rfl
theorem Vals.dropLast {xs : List V} {us : List Value} (h : Vals xs us) : Vals xs.dropLast us.dropLast := by
  induction h with
  | nil => exact .nil
  | cons r t ih =>
    cases t with
    | nil => exact .nil
    | cons q t' => exact .cons r ih
theorem Vals.eraseIdx : ∀ {xs : List V} {us : List Value} (i : Nat), Vals xs us → Vals (xs.eraseIdx i) (us.eraseIdx i)
  | _, _, _, .nil => .nil
  | _, _, 0, .cons _ t => t
  | _, _, i + 1, .cons r t => .cons r (Vals.eraseIdx i t)
theorem Vals.reverse {xs : List V} {us : List Value} (h : Vals xs us) : Vals xs.reverse us.reverse := by
  induction h with
  | nil => exact .nil
  | cons r t ih => rw [List.reverse_cons, List.reverse_cons]; exact Vals.append ih (.cons r .nil)
theorem Vals.rep {xs : List V} {us : List Value} (h : Vals xs us) : ∀ k : Nat, Vals (List.replicate k xs).flatten (List.replicate k us).flatten
  | 0 => .nil
  | k + 1 => by
    rw [List.replicate_succ, List.replicate_succ, List.flatten_cons, List.flatten_cons]
    exact Vals.append h (Vals.rep h k)
theorem foldl_rep (its : List Value) : ∀ (k : Nat) (acc : List Value),
    List.foldl (fun x1 x2 => x1 ++ x2) acc.toArray (List.replicate k its.toArray) = (acc ++ (List.replicate k its).flatten).toArray
  | 0, acc => by simp
  | k + 1, acc => by
    have e : acc.toArray ++ its.toArray = (acc ++ its).toArray := by simp
    have e2 : (acc ++ its) ++ (List.replicate k its).flatten = acc ++ (List.replicate (k + 1) its).flatten := by
      rw [List.replicate_succ, List.flatten_cons, List.append_assoc]
    rw [← e2, ← foldl_rep its k (acc ++ its), ← e, List.replicate_succ, List.foldl_cons]

section
variable {X : Cx} {pins : List (Addr × Obj)} {σ : St} {H : Hp} {s : Shared} {l b : Addr} {xs ys zs : List V}

/-! ### the two steps: a tracked list is rewritten, a new list is laid -/
theorem Inv.lset {its its' : List Value} {n : Nat} {f : Array Value → Array Value} {t' : Nat} (I : Inv X pins σ H s) (hH : H l = some (.lst xs))
    (e : s.heap.get? l = some { cls := .type "list", data := .seq its.toArray n }) (hf : f its.toArray = its'.toArray) (hv : Vals ys its') (hz : ys.length ≤ sizeLine) :
    Inv X pins σ (upd H l (.lst ys)) { s with heap := s.heap.update l (Obj.mapSeq f), toks := t' } := by
  have q := PySem.IsL.update e f
  rw [hf] at q
  refine I.write (x := l) (e := l) (by rw [hH]; exact trivial) (.inl rfl) (fun b' u hb hu => (Heap.get?_update_other s.heap (Obj.mapSeq f) (Ne.symm hb)).trans hu) ⟨_, q⟩ ?_
  exact ⟨hz, its', _, hv, q⟩
theorem Inv.lnew {its : List Value} {t' : Nat} (I : Inv X pins σ H s) (hv : Vals ys its) (hz : ys.length ≤ sizeLine) :
    Inv X pins σ (upd H s.heap.objs.size (.lst ys)) { s with heap := s.heap.push { cls := .type "list", data := .seq its.toArray }, toks := t' } :=
  I.laid (fun _ _ q => Heap.get?_push_of_some _ q) (Nat.le_refl _) ⟨hz, its, 0, hv, Heap.get?_push_size _ rfl⟩
theorem Inv.fresh (I : Inv X pins σ H s) : H s.heap.objs.size = none := I.hok.fresh (Nat.le_refl _)
theorem Inv.lstM (I : Inv X pins σ H s) (hH : H l = some (.lst xs)) : xs.length ≤ sizeLine ∧ ∃ (its : List Value) (n : Nat), Vals xs its ∧ xs.length = its.length ∧ s.heap.get? l = some { cls := .type "list", data := .seq its.toArray n } := by
  obtain ⟨z, its, n, r, e⟩ := I.hok l _ hH
  exact ⟨z, its, n, r, r.length, e⟩

theorem notLongL {n : Nat} (h : n ≤ sizeLine) : Builtin.List.listTooLong n = false := by
  unfold Builtin.List.listTooLong
  exact decide_eq_false (by omega)
end

section
variable {X : Cx}

/-! ### methods -/
def rAppend : V → List V → Hp → VK → Prop := fun x vs H Q => ∃ l xs y, x = .ref l ∧ vs = [y] ∧ H l = some (.lst xs) ∧ xs.length < sizeLine ∧ Q .non (upd H l (.lst (xs ++ [y])))
theorem mt_append : MtM X "list.append" rAppend := by
  intro pins s σ H x vs v us Q I rx rv h
  obtain ⟨l, xs, y, rfl, rfl, hH, hz, q⟩ := h
  cases rx
  obtain ⟨u, rfl, ru⟩ := rv.one
  obtain ⟨z, its, n, r, hl, e⟩ := I.lstM hH
  refine call_meets F.slot_list_append ⟨_, e, rfl⟩ F.entry_list_append (F.args_list_append_2 _ _) (PySem.list_append l its.toArray n u (by rw [List.size_toArray]; omega)) ⟨e, ?_⟩
  refine ⟨.non, _, I.lset (its' := its ++ [u]) hH e (by simp) (r.append (.cons ru .nil)) ?_, rfl, q⟩
  rw [List.length_append, List.length_singleton]
  omega

def rExtend : V → List V → Hp → VK → Prop := fun x vs H Q => ∃ l b xs zs, x = .ref l ∧ vs = [.ref b] ∧ H l = some (.lst xs) ∧ H b = some (.lst zs) ∧ xs.length + zs.length ≤ sizeLine ∧ Q .non (upd H l (.lst (xs ++ zs)))
def rPop : V → List V → Hp → VK → Prop := fun x vs H Q => ∃ l xs y, x = .ref l ∧ vs = [] ∧ H l = some (.lst xs) ∧ xs[xs.length - 1]? = some y ∧ Q y (upd H l (.lst xs.dropLast))
def rPopAt : V → List V → Hp → VK → Prop := fun x vs H Q => ∃ l xs i k y, x = .ref l ∧ vs = [.int i] ∧ H l = some (.lst xs) ∧ -(2 ^ 63) ≤ i ∧ i < 2 ^ 63 ∧ seqIndex? i xs.length = some k ∧ xs[k]? = some y ∧ Q y (upd H l (.lst (xs.eraseIdx k)))
def rReverse : V → List V → Hp → VK → Prop := fun x vs H Q => ∃ l xs, x = .ref l ∧ vs = [] ∧ H l = some (.lst xs) ∧ Q .non (upd H l (.lst xs.reverse))
def rClear : V → List V → Hp → VK → Prop := fun x vs H Q => ∃ l xs, x = .ref l ∧ vs = [] ∧ H l = some (.lst xs) ∧ Q .non (upd H l (.lst []))
theorem mt_clear : MtM X "list.clear" rClear := by
  intro pins s σ H x vs v us Q I rx rv h
  obtain ⟨l, xs, rfl, rfl, hH, q⟩ := h
  cases rx
  have hus := rv.zero
  subst hus
  obtain ⟨z, its, n, r, hl, e⟩ := I.lstM hH
  refine call_meets F.slot_list_clear ⟨_, e, rfl⟩ F.entry_list_clear (F.args_list_clear_1 _) (AutoSeq1.list_clear_list_0 l its.toArray n (by rw [List.size_toArray]; omega)) ⟨e, ?_⟩
  exact ⟨.non, _, I.lset (its' := []) (ys := []) hH e rfl .nil (Nat.zero_le _), rfl, q⟩

/-! ### list + list, list += list, list * int -/
def rCat : R2 := fun x y H Q => ∃ l b xs zs, x = .ref l ∧ y = .ref b ∧ H l = some (.lst xs) ∧ H b = some (.lst zs) ∧ xs.length + zs.length ≤ sizeLine ∧ ∀ p, H p = none → Q (.ref p) (upd H p (.lst (xs ++ zs)))
theorem op_cat : OpR X (binaryOp .Add) rCat := by
  intro pins s σ H x y v u Q I rx ry h
  obtain ⟨l, b, xs, zs, rfl, rfl, hH, hB, hz, q⟩ := h
  cases rx
  cases ry
  obtain ⟨z, its, n, r, hl, e⟩ := I.lstM hH
  obtain ⟨z2, its2, n2, r2, hl2, e2⟩ := I.lstM hB
  refine PySem.P.add_list e e2 ?_ (by rw [List.size_toArray, List.size_toArray]; omega)
  have ea : its.toArray ++ its2.toArray = (its ++ its2).toArray := by simp
  rw [ea]
  exact ⟨.ref _, _, I.lnew (t' := s.toks) (r.append r2) (by rw [List.length_append]; omega), rfl, q _ I.fresh⟩
/-- a list times an int (a negative one is nothing) -/
def rRep : R2 := fun x y H Q => ∃ l k xs, x = .ref l ∧ y = .int k ∧ H l = some (.lst xs) ∧ -(2 ^ 63) ≤ k ∧ k < 2 ^ 63 ∧ xs.length * k.toNat ≤ sizeLine ∧
  ∀ p, H p = none → Q (.ref p) (upd H p (.lst (List.replicate k.toNat xs).flatten))
theorem len_rep {α : Type} (xs : List α) (k : Nat) : (List.replicate k xs).flatten.length = k * xs.length := by
  induction k with
  | zero => simp
  | succ k ih => rw [List.replicate_succ, List.flatten_cons, List.length_append, ih, Nat.succ_mul, Nat.add_comm]
theorem op_rep : OpR X (binaryOp .Mult) rRep := by
  intro pins s σ H x y v u Q I rx ry h
  obtain ⟨l, k, xs, rfl, rfl, hH, h1, h2, hz, q⟩ := h
  cases rx
  obtain ⟨t, rfl⟩ := ry
  obtain ⟨z, its, n, r, hl, e⟩ := I.lstM hH
  have hlen : its.toArray.size * k.toNat ≤ sizeLine := by rw [List.size_toArray, ← hl]; exact hz
  have hcap : ¬ its.toArray.size * k.toNat > (2 ^ 63 - 1) / 8 := by
    have : (sizeLine : Nat) ≤ (2 ^ 63 - 1) / 8 := by decide
    omega
  have hfit : ¬ (!Builtin.List.listFitsIndex k) = true := by
    rw [fitsIndex_both h1 h2]
    exact Bool.false_ne_true
  have hlong : ¬ Builtin.List.listTooLong (its.toArray.size * k.toNat) = true := by
    rw [notLongL hlen]
    exact Bool.false_ne_true
  have hnew : List.foldl (fun x1 x2 => x1 ++ x2) #[] (List.replicate (if its.toArray.isEmpty = true then 0 else k.toNat) its.toArray) = (List.replicate k.toNat its).flatten.toArray := by
    have f0 : ∀ m : Nat, List.foldl (fun x1 x2 => x1 ++ x2) #[] (List.replicate m its.toArray) = (List.replicate m its).flatten.toArray := fun m => by
      have := foldl_rep its m []
      rw [List.nil_append] at this
      exact this
    rw [f0]
    cases its with
    | nil => simp
    | cons a r' => rw [if_neg (by simp)]
  refine wpAny_binaryOp_repeat_ref (T := "list") (U := "int") (by decide) ⟨_, e, rfl⟩ (fun s' => typeIs_int s' k t) noFill_list_mul F.fills_int_mul F.slot_int_rmul repeat_list F.slot_int_index.lookup
    (call_meets F.slot_int_rmul (typeIs_int s k t) F.entry_int_rmul (F.args_int_rmul_2 _ _) (int___rmul___int_list k t l its.toArray n)
      ⟨e, rfl, ⟨_, e, rfl⟩, call_meets F.slot_list_mul ⟨_, e, rfl⟩ F.entry_list_mul (F.args_list_mul_2 _ _) (AutoListH.list___mul___list_int_3 l its.toArray n k t hfit hcap hlong) ⟨e, ?_⟩⟩)
  rw [hnew]
  exact ⟨.ref _, _, I.lnew (t' := s.toks) (r.rep k.toNat) (by rw [len_rep, Nat.mul_comm]; exact hz), rfl, q _ I.fresh⟩

/-! ### del xs[i] -/
end

/-! ### xs[a:b] = ys -/
section
variable {prog : Program} {w : World} {A : Around} {E : Value → Shared → Prop} {s : Shared}
set_option maxRecDepth 100000 in
end

section
variable {X : Cx}
end
end L2

namespace Att
open PySem PySem.W PySem.Calls PyProof.Rows

/-! ### the script -/
theorem ints_of_wellAll {P : Params} {h : Heap} : ∀ (ns : List Int) (vs : List Value), WellAll P h vs (ns.map WData.int) → IntsAre vs ns := by
  intro ns
  induction ns with
  | nil =>
    intro vs w
    rw [List.map_nil] at w
    cases w
    exact .nil
  | cons n ns ih =>
    intro vs w
    rw [List.map_cons] at w
    cases w with
    | cons a b =>
      cases a
      exact .cons _ _ (ih _ b)

theorem script_of {l : OpenLaw} {n : Nat} (hn : l.most = some n) {P : Params} {h : Heap} {args : List WData} {vals : List Value}
    (hpre : l.row.toRowW.claim.pre args = true) (hwl : WellAll P h vals args) :
    ∃ a vs ns, vals = [Value.ref a] ∧ args = [WData.list (ns.map WData.int)] ∧ h.get? a = some { cls := .type "list", data := .seq vs.toArray } ∧ IntsAre vs ns ∧ ns.length ≤ n := by
  have hsh : WShape.hasAll [] args [.list .int] = true := (pre_splitW hpre).1
  have hc : l.pre.holds [] { args := args } = true := (pre_splitW hpre).2
  obtain ⟨d, r, rfl, h1, h2⟩ := hasAllW_cons hsh
  obtain rfl := hasAllW_nil h2
  obtain ⟨xs, rfl, h3⟩ := hasW_list h1
  obtain ⟨ns, rfl⟩ := items_int h3
  have hlen : ns.length ≤ n := by
    unfold OpenLaw.pre at hc
    have h4 : (WTm.not (.lt (.lit (.int (n : Int))) (.len (.arg 0)))).holds [] { args := [.list (ns.map .int)] } = true := by
      have h4 := (holds_andW hc).1
      rw [hn] at h4
      exact h4
    have h5 := condW_of h4 (w_not (w_lt w_lit (w_len_list (w_arg rfl))))
    rw [List.length_map] at h5
    refine Nat.le_of_not_lt fun q => ?_
    have q' : (n : Int) < ((ns.length : Nat) : Int) := by omega
    first
      | (rw [decide_eq_true q'] at h5; exact absurd h5 (by decide))
      | (simp at h5; omega)
  cases hwl with
  | cons w1 w2 =>
    cases w2
    cases w1 with
    | list ho hall => exact ⟨_, _, ns, rfl, rfl, ho, ints_of_wellAll ns _ hall, hlen⟩

theorem post_true (l : OpenLaw) (args : List WData) : l.row.toRowW.claim.post args (.bool true) args = true :=
  postW_of (r := l.row.toRowW) (X := (true == true))
    (show WShape.has [] (.bool true) .bool = true by first | rfl | decide | simp [WShape.has, WShape.arms, WShape.armsAll])
    (show (WTm.eq .res (.lit (.bool true))).value [] { args := args, res := some (.bool true), after := args } = some (.bool (true == true)) from w_eq_bool (w_res rfl) w_lit) rfl

/-! ### the attachment: holds_open's last premise (the goal 'hc' behind k_head) from a wpAny of the law's body -/
/-- the same from a codeAny of the CALL (for a layer whose function contracts speak of calls) -/
theorem attach_call {l : OpenLaw} {n : Nat} {q : Program} {loose : List Str} {XP : (Str → Option Value) → Heap → Prop} {YP : World → Heap → Prop} {d : DefRec}
    (hn : l.most = some n) (hdf : d.params.defaults = [])
    (call : ∀ (w : World) (s₀ s₁ : Shared) (mg mb : Str → Option Value) (fa : Addr) (o : Obj) (pm cd doc : Value) (a : Addr) (vs : List Value) (ns : List Int),
      Ground q loose [] XP w s₀ mg mb s₁.heap → YP w s₁.heap →
      s₁.heap.get? fa = some o → o.data = .func (docDef d.name d.params d.body d.scope pm cd doc) → s₁.heap.CodeRec cd d.name → mg d.name = some (.ref fa) →
      s₁.heap.get? a = some { cls := .type "list", data := .seq vs.toArray } → IntsAre vs ns → ns.length ≤ n → s₁.gens = #[] →
      codeAny (model l.prog w) callerA (.call (.ref fa) ⟨[.ref a], []⟩) (fun r s' => r = .ok (.ret (.bool true)) ∧ OldK s₁.heap s'.heap ∧ s'.os = s₁.os ∧ AllBare s'.gens) s₁) :
    WalkO q loose XP YP l.row.toRowW d [] (fun f vs => PySem.call f vs) := by
  intro w s₀ s₁ mg mb G Y fa o pm cd doc dV kV ho hd hcd hD hmg hg args vals as hpre hlay hrd hwl hlo
  obtain rfl : dV = .none := Dflts.none hD hdf
  obtain rfl : kV = .none := Dflts.noKw hD
  obtain ⟨a, vs, ns, rfl, rfl, hobj, hints, hlen⟩ := script_of hn hpre hwl
  refine enter_call (codeAny_mono (call w s₀ s₁ mg mb fa o pm cd doc a vs ns G Y ho (fd_plain hd) hcd hmg hobj hints hlen hg) fun r s' hq => ?_)
  obtain ⟨rfl, h2, h3, h4⟩ := hq
  exact ⟨.inl ⟨.bool true, .bool true, [], rfl, fun _ => rfl, .bool true, post_true l _, fun _ => ⟨List.Pairwise.nil, fun _ hm => (nomatch hm)⟩⟩, h2, h3, h4⟩

/-! ### rules over ANY heap (no ledger) from facts about the written part K: the library's own take a ledger (News) for what they write -/
section
variable {prog : Program} {w : World} {A : Around} {E : Value → Shared → Prop} {s : Shared} {K : Frag}

/-! the whole heap as the ledger: makes every rule that writes through a ledger a rule over any heap -/
def noObjs (h : Heap) : Heap := { h with objs := #[] }
def ledger (h : Heap) (L d : Addr) : List (Addr × Obj) := (List.range h.objs.size).filterMap fun a => if a = L ∨ a = d then none else (h.get? a).map fun o => (a, o)
end
end Att

namespace L2
open PySem PySem.Spec PyProof.Rows

theorem vals_ints : ∀ {vs : List Value} {ns : List Int}, IntsAre vs ns → Vals (ns.map V.int) vs
  | _, _, .nil => .nil
  | _, _, .cons n t h => .cons ⟨t, rfl⟩ (vals_ints h)

/-- nothing is tracked but the script, known to the object (or it is an object of the module) -/
def Only (H : Hp) : Prop := ∀ b, H b = none ∨ ∃ o xs, H b = some (.frz o (.lst xs))

/-- THE HEAD: the law's promise, at the heap behind the top. F, the promise of the law's def, may use that base is part of the heap (so K.In base, base.Ns mainGlobals mg stand in Mod) -/
theorem law_call {P : Program} {w : World} {K : PySem.W.Frag} {mg mb : Str → Option Value} {CX : CXT} {k : Nat} {fa a : Addr} {fd : FuncData} {x : Str} {sp : Sp} {s₁ : Shared} {vs : List Value} {ns : List Int}
    (KX : K.In s₁.heap) (hns : s₁.heap.Ns mainGlobals mg) (hb : s₁.heap.Ns builtinsNs mb) (hbb : ∀ x : Str, x ≠ "__name__" → mb x = bootBuiltins x) (hlim : s₁.heap.NoLimit) (hg : s₁.gens = #[])
    (ha : s₁.heap.get? a = some { cls := .type "list", data := .seq vs.toArray }) (hi : IntsAre vs ns) (hl : ns.length ≤ sizeLine) (hr : Room k callerA)
    (F : ∀ base : Heap, K.In base → base.Ns mainGlobals mg → FnOk P w K mg base CX k fa fd [x] sp) (hbind : ∀ (s : Shared) (u : Value), BindsTo s fd ⟨[u], []⟩ [(x, u)])
    (hsp : ∀ H : Hp, Only H → SqL K H a (ns.map V.int) → sp [.ref a] H (fun v _ => v = .bl true) fun _ _ _ => False)
    (hCX : ∀ H e s', CX [] H s₁ (fun _ _ _ => False) e s' → False) :
    codeAny (model P w) callerA (.call (.ref fa) ⟨[.ref a], []⟩) (fun r s' => r = .ok (.ret (.bool true)) ∧ OldK s₁.heap s'.heap ∧ s'.os = s₁.os ∧ AllBare s'.gens) s₁ := by
  have rv := vals_ints hi
  have lenV := hi.length
  -- from an abstract heap in which nothing but the script may be tracked
  have core : ∀ H : Hp, Only H → SqL K H a (ns.map V.int) → HOk P w H s₁.heap → (∀ b, H b ≠ none → b = a) → (H a ≠ none → K.lookup a = none) →
      codeAny (model P w) callerA (.call (.ref fa) ⟨[.ref a], []⟩) (fun r s' => r = .ok (.ret (.bool true)) ∧ OldK s₁.heap s'.heap ∧ s'.os = s₁.os ∧ AllBare s'.gens) s₁ := by
    intro H hO hS hok hA hK
    have base_of : ∀ {b : Addr} {o : Obj}, s₁.heap.get? b = some o → H b = none → (hidT s₁.heap H).get? b = some o := fun e n => hidT_get e n
    have noA : ∀ {b : Addr} {o : Obj} {es : Array DictEntry} {ep : Nat}, s₁.heap.get? b = some o → o.data = .dict es ep → H b = none := fun {b o es ep} e d => by
      cases q : H b with
      | none => rfl
      | some u =>
        have e' : b = a := hA b (by rw [q]; simp)
        subst e'
        rw [ha] at e; cases e
        have d' : Data.seq vs.toArray _ = Data.dict es ep := d
        cases d'
    have nsK : ∀ {b : Addr} {m : Str → Option Value}, s₁.heap.Ns b m → (hidT s₁.heap H).Ns b m := fun {b m} ⟨o, es, ep, e, d, r⟩ => ⟨o, es, ep, base_of e (noA e d), d, r⟩
    have hKb : K.In (hidT s₁.heap H) := fun b o e => base_of (KX b o e) (by
      cases q : H b with
      | none => rfl
      | some u =>
        have e' : b = a := hA b (by rw [q]; simp)
        subst e'
        rw [hK (by rw [q]; simp)] at e; cases e)
    have hM : Mod K mg (hidT s₁.heap H) := ⟨hKb, nsK hns, ⟨mb, nsK hb, hbb⟩, let ⟨mc, h1, h2⟩ := hlim; ⟨mc, nsK h1, h2⟩⟩
    have e0 : Env0 P w K mg (hidT s₁.heap H) callerA [] s₁ H := ⟨rfl, hM, fun b o e => of_hidT e, Nat.le_of_eq (hidT_size _ _), trivial, fun b hb => absurd (show b ∈ ([] : List Addr) from hb) (by simp), hok, .of_eq hg, .inl rfl⟩
    refine codeAny_mono ((F _ hKb (nsK hns)).run callerA [] s₁ H ⟨[.ref a], []⟩ [.ref a] [.ref a] _ _ hr e0 (hbind s₁ (.ref a)) (.cons rfl .nil) (hsp H hO hS)) fun r s' h => ?_
    cases r with
    | error e => exact (hCX H e s' h).elim
    | ok fl =>
      cases fl with
      | next => exact False.elim h
      | brk => exact False.elim h
      | cont => exact False.elim h
      | ret u =>
        obtain ⟨v, H', os, bare, un, hok', r', q⟩ := h
        have q' : v = .bl true := q
        subst q'
        obtain rfl : u = Value.bool true := r'
        refine ⟨rfl, OldK.of_keep fun b o e => ?_, os, bare⟩
        cases q : H b with
        | none => exact un.keep b o e q (by intro z; exact absurd (show b ∈ ([] : List Addr) from z) (by simp)) (by simp)
        | some u =>
          rcases hO b with z | ⟨ob, xs, z⟩
          · rw [q] at z; cases z
          · have z2 := un.frzs b ob _ z
            obtain ⟨e1, _⟩ := hok b _ z
            obtain ⟨e2, _⟩ := hok' b _ z2
            rw [e] at e1; cases e1
            exact e2
  cases hk : K.lookup a with
  | some o =>
    -- the script is one of the module's own objects
    have e := KX a o hk
    rw [ha] at e
    cases e
    refine core (fun _ => none) (fun _ => .inl rfl) (.inr ⟨_, vs.toArray, _, hk, rfl, rfl, rfl, by rw [List.size_toArray, lenV]; exact hl, by simpa using rv⟩) (fun b u z => by have z' : (none : Option HO) = some u := z; cases z') (fun b z => absurd rfl z) fun z => absurd rfl z
  | none =>
    refine core (fun b => if b = a then some (.frz { cls := .type "list", data := .seq vs.toArray } (.lst (ns.map V.int))) else none) (fun b => ?_) (.inl (.inr ⟨{ cls := .type "list", data := .seq vs.toArray }, if_pos rfl⟩)) (fun b u z => ?_) (fun b z => ?_) fun _ => hk
    · by_cases hb : b = a
      · exact .inr ⟨_, _, if_pos hb⟩
      · exact .inl (if_neg hb)
    · by_cases hb : b = a
      · have z' := (if_pos hb).symm.trans z
        cases z'
        subst hb
        exact ⟨ha, by rw [List.length_map]; exact hl, vs, _, rv, ha⟩
      · have z' := (if_neg hb).symm.trans z
        cases z'
    · by_cases hb : b = a
      · exact hb
      · exact absurd (if_neg hb) z
end L2

namespace L2
open PySem PySem.Spec PyProof.Rows

abbrev KOf {K : PySem.W.Frag} {h : Heap} (_ : K.In h) : PySem.W.Frag := K

/-- the goal that k_head leaves (case hc), from the law's promise. F gives the function object fd (K's own) once, then the promise over every base -/
theorem walk_of {l : PySem.W.OpenLaw} {n k : Nat} {q : Program} {loose : List Str} {XP : (Str → Option Value) → Heap → Prop} {YP : World → Heap → Prop} {d : DefRec} {K : Params → PySem.W.Frag} {CX : World → CXT} {sp : World → Sp} {x : Str}
    (hn : l.most = some n) (hn2 : n ≤ sizeLine) (hdf : d.params.defaults = []) (hr : Room k callerA)
    (hY : ∀ (w : World) (h : Heap), YP w h → (K w.params).In h)
    (F : ∀ (w : World) (mg : Str → Option Value) (fa : Addr) (h : Heap), (K w.params).In h → h.Ns mainGlobals mg → mg d.name = some (.ref fa) →
      ∃ fd : FuncData, (∀ (s : Shared) (u : Value), BindsTo s fd ⟨[u], []⟩ [(x, u)]) ∧
        ∀ base : Heap, (K w.params).In base → base.Ns mainGlobals mg → FnOk l.prog w (K w.params) mg base (CX w) k fa fd [x] (sp w))
    (hsp : ∀ (w : World) (H : Hp) (a : Addr) (ns : List Int), ns.length ≤ n → Only H → SqL (K w.params) H a (ns.map V.int) → sp w [.ref a] H (fun v _ => v = .bl true) fun _ _ _ => False)
    (hCX : ∀ (w : World) (H : Hp) (s : Shared) (e : Value) (s' : Shared), CX w [] H s (fun _ _ _ => False) e s' → False) :
    PySem.W.WalkO q loose XP YP l.row.toRowW d [] (fun f vs => PySem.call f vs) := by
  refine Att.attach_call hn hdf fun w s₀ s₁ mg mb fa o pm cd doc a vs ns G Y ho hd hcd hmg hobj hints hlen hg => ?_
  have KX := hY w _ Y
  obtain ⟨fd, hb, hF⟩ := F w mg fa _ KX G.T.g hmg
  exact law_call KX G.T.g G.T.b G.T.builtins G.T.nolimit hg hobj hints (Nat.le_trans hlen hn2) hr hF hb (fun H hO hS => hsp w H a ns hlen hO hS) fun H e s' => hCX w H s₁ e s'
end L2

/- THE LAST THEOREM (shape; LID, My.* are yours):
   My.Adr: a structure of the addresses that your layer names (classes, functions); My.Txt K t: a structure (Prop) of the equations over K;
   My.txt_mk : {K} {implicit addresses ..} (e1 : nsIn K mainGlobals "law" = some (some (.ref f))) (e2 : K.lookup f = some ⟨oc, od, .func (fnOf "law" "law" params body scope dV kV doc pm an cdv ct), sl⟩) (e3 : codeIn K cdv "law" = true) .. : ∃ t, My.Txt K t

set_option maxRecDepth 100000 in
set_option maxHeartbeats 0 in
theorem PySem.Challenge.cw_LID_holds : PySem.Challenge.rw_LID.Holds := by
  w_on; o_law; k_head; (case hw => w_witness2)
  k_fill
  refine L2.walk_of (l := PySem.Challenge.rw_LID) (n := 63) (k := 40) (x := "script") (CX := fun w => ..) (sp := fun _ => My.sp_law) rfl (by decide) rfl ⟨rfl, by decide, by decide⟩ (fun w h Y => PySem.W.kIn_of Y) ?F ?S ?C
  case F =>
    intro w mg fa h KX G hmg
    have T : ∃ t, My.Txt (L2.KOf KX) t := by
      dsimp only [L2.KOf]                          -- K must stand as «<heap const> w.params» for k_is
      refine' My.txt_mk ?e1 ?e2 ?e3 ..
      (case e1 => PySem.W.k_is)                    -- in the order: a name -> its address -> its object -> its parts
      (case e2 => PySem.W.k_is)
      ..
    obtain ⟨t, T⟩ := T
    have e0 := hmg.symm.trans (PySem.W.mg_of KX G T.law)
    cases e0                                       -- fa is the law's own address
    exact ⟨_, fun s u => .of_eq rfl, fun base kb nb => My.law_fn T kb nb⟩     -- if «.of_eq rfl» comes too early: refine' ⟨_, ?b, fun base kb nb => My.law_fn T kb nb⟩; exact fun s u => .of_eq rfl
  case S => exact fun w H a ns hl hO hS => ..
  case C => exact ..
(the tactic k_is has no namespace: write k_is) -/

/-! SHORT WORDS over the layer: a def of the text, its body, what a loop and a test want. -/
namespace L2
open PySem PySem.Spec PyProof.Rows

/-! ### the text by places -/
/-- the j-th statement of a class's body -/
def inClass (s : Stmt) (j : Nat) : Stmt := match s with
  | .ClassDef _ _ _ body _ _ _ _ _ _ _ => body.getD j (.Pass ⟨0, 0, 0, 0⟩)
  | _ => .Pass ⟨0, 0, 0, 0⟩
def defArgs (s : Stmt) : Arguments := match s with
  | .FunctionDef _ a _ _ _ _ _ _ _ _ => a
  | _ => { posonlyargs := [], args := [], vararg := none, kwonlyargs := [], kw_defaults := [], kwarg := none, defaults := [] }
def defBody (s : Stmt) : List Stmt := match s with
  | .FunctionDef _ _ b _ _ _ _ _ _ _ => b
  | _ => []
def defScope (s : Stmt) : Scope := match s with
  | .FunctionDef _ _ _ _ _ _ sc _ _ _ => sc
  | _ => { kind := .function, names := [], isGenerator := false, isCoroutine := false }

/-! ### no exception leaves a def -/
abbrev CX0 : CXT := fun _ _ _ _ _ _ => False
abbrev E0 : XK := fun _ _ _ => False
theorem pass0 {X : Cx} : Passes CX0 X E0 := fun _ _ _ _ _ _ _ h => h.elim

/-! ### a def (or method) of the text as it stands behind the top -/
structure Fun (K : PySem.W.Frag) (x qual : Str) (st : Stmt) (f : Addr) (fd : FuncData) : Prop where
  ex : ∃ (oc : Value) (od : Option Addr) (kV doc pm : Value) (an : Option Addr) (cdv ct : Value) (osl : Array (Option Value)),
    fd = PySem.W.fnOf x qual (defArgs st) (defBody st) (defScope st) .none kV doc pm an cdv ct ∧ K.lookup f = some ⟨oc, od, .func fd, osl⟩ ∧ PySem.W.codeIn K cdv qual = true
  kp : PySem.W.keepIn K (.ref f) = true
section
variable {P : Program} {w : World} {K : PySem.W.Frag} {mg : Str → Option Value} {base : Heap}
/-- THE RULE for a def: its body as a term of rules, and the reading of that term -/
theorem Fun.ok {x qual : Str} {st : Stmt} {f : Addr} {fd : FuncData} {N ps : List Str} {k : Nat} {sp : Sp} (F : Fun K x qual st f fd) (S : FnScope N ps (defScope st)) (len : ∀ vs H Q E, sp vs H Q E → vs.length = ps.length)
    (hbody : ∀ (cdv : Value) (A : Around) (outer : List Env) (s : Shared) (H : Hp) (vs : List V) (Q : VK) (E : XK), Room k (A.deeper (envOfC qual (defScope st) s.heap.objs.size f cdv)) → sp vs H Q E →
      ∃ t, PSs (cxOf CX0 P w K mg base N qual (defScope st) f cdv A outer s H E).nox (defBody st) t ∧ t { nx := fun _ H' => Q .non H', rt := Q } (start N vs) H) : FnOk P w K mg base CX0 (k + 1) f fd ps sp := by
  obtain ⟨oc, od, kV, doc, pm, an, cdv, ct, osl, rfl, lk, hcd⟩ := F.ex
  refine fn_of lk hcd S len fun A outer s H vs Q E hr hsp => ?_
  obtain ⟨t, h, q⟩ := hbody cdv A outer s H vs Q E hr hsp
  exact ⟨t, h.nox, q⟩
/-- how its arguments bind (no defaults): h is «fun _ _ _ _ _ _ us hl => match us, hl with | [_, _], _ => rfl», one _ a parameter -/
theorem Fun.binds {x qual : Str} {st : Stmt} {f : Addr} {fd : FuncData} {ps : List Str} (F : Fun K x qual st f fd)
    (h : ∀ (kV doc pm : Value) (an : Option Addr) (cdv ct : Value) (us : List Value), us.length = ps.length → bindArgs (PySem.W.fnOf x qual (defArgs st) (defBody st) (defScope st) .none kV doc pm an cdv ct) ⟨us, []⟩ = pure (ps.zip us)) : Binds K fd ps [] := by
  obtain ⟨oc, od, kV, doc, pm, an, cdv, ct, osl, rfl, lk, hcd⟩ := F.ex
  exact .all (h kV doc pm an cdv ct)
theorem fun_mk {x qual : Str} {st : Stmt} {f : Addr} {oc : Value} {od an : Option Addr} {osl : Array (Option Value)} {kV doc pm cdv ct : Value} (l : K.lookup f = some ⟨oc, od, .func (PySem.W.fnOf x qual (defArgs st) (defBody st) (defScope st) .none kV doc pm an cdv ct), osl⟩)
    (c : PySem.W.codeIn K cdv qual = true) (k : PySem.W.keepIn K (.ref f) = true) : Fun K x qual st f (PySem.W.fnOf x qual (defArgs st) (defBody st) (defScope st) .none kV doc pm an cdv ct) := ⟨⟨oc, od, kV, doc, pm, an, cdv, ct, osl, rfl, l, c⟩, k⟩
end
theorem small1000 {n : Nat} (h : n ≤ 1000) : n < sizeLine := Nat.lt_of_le_of_lt h (by decide)

/-! ### expressions in short: the name that stands in the i-th slot -/
section
variable {X : Cx}
theorem pv (i : Nat) {x : Str} {pos : Pos} (hN : X.N[i]? = some x := by rfl) (hv : Vis X.env.scope x := by first | exact Or.inl rfl | exact Or.inr (Or.inl rfl) | exact Or.inr (Or.inr rfl)) (hd : (x == ("__debug__" : Str)) = false := by decide)
    (hcd : (x == ("__classdict__" : Str)) = false := by decide) : PE X (.Name x pos) (tVar i) := pe_var hN hv hd hcd
end

/-! ### tests -/
theorem iteF {A B : Prop} (h : B) : if false = true then A else B := by
  rw [if_neg Bool.false_ne_true]
  exact h
theorem iteT {A B : Prop} (h : A) : if true = true then A else B := by
  rw [if_pos rfl]
  exact h
theorem ite2 {c A B : Prop} [Decidable c] (h1 : c → A) (h2 : ¬ c → B) : if c then A else B := by
  by_cases h : c
  · rw [if_pos h]
    exact h1 h
  · rw [if_neg h]
    exact h2 h
/-! ### heaps -/
/-- all that was tracked is as it was -/
def Same (H H' : Hp) : Prop := ∀ b o, H b = some o → H' b = some o
theorem Same.refl (H : Hp) : Same H H := fun _ _ h => h
theorem Same.trans {H H1 H2 : Hp} (a : Same H H1) (b : Same H1 H2) : Same H H2 := fun c o h => b c o (a c o h)
theorem Same.free {H H' : Hp} (e : Same H H') {l : Addr} (h : H' l = Option.none) : H l = Option.none := by
  cases q : H l with
  | none => rfl
  | some o =>
    rw [e l o q] at h
    cases h
theorem Same.seq {K : PySem.W.Frag} {H H' : Hp} {a : Addr} {xs : List V} (e : Same H H') (h : SqL K H a xs) : SqL K H' a xs := by
  rcases h with (h | ⟨o, h⟩) | h
  · exact .inl (.inl (e _ _ h))
  · exact .inl (.inr ⟨o, e _ _ h⟩)
  · exact .inr h

end L2

set_option Elab.async false
set_option linter.all false
set_option maxRecDepth 100000
set_option maxHeartbeats 4000000
namespace L2
open PySem PySem.Spec PyProof.Rows

/-! ## my own rules: comprehensions, enumerate, sum, is not True, isinstance -/
/-- where a comprehension's element is reckoned: its names stand in a dict of their own -/
def cxComp (X : Cx) (N : List Str) (scope : Scope) (fp : List Addr) (s : Shared) (H : Hp) : Cx where
  prog := X.prog
  w := X.w
  K := X.K
  mg := X.mg
  base := X.base
  A := X.A
  N := N
  s₀ := s
  H₀ := H
  env := compEnv scope s.heap.objs.size X.env
  outer := X.stack
  stack := X.stack
  ex := fp
  fn := fun _ => true
  calm := X.calm
  pn := []
  xe := fun _ _ => False
section
variable {X : Cx} {pins : List (Addr × Obj)} {σ : St} {H : Hp} {s : Shared} {N : List Str} {scope : Scope} {fp : List Addr}
theorem comp_nocell {x : Str} {c : Addr} (e : (cxComp X N scope fp s H).env.cells.lookup x = some c) : False :=
  nomatch (show (none : Option Addr) = some c from e)
theorem inv_comp {h' : Heap} {t' : Nat} {m : Str → Option Value} (I : Inv X pins σ H s) (hkind : scope.kind = .function) (hfree : ∀ x ∈ scope.names, x.2 ≠ .free) (hcell : ∀ x ∈ scope.names, x.2 ≠ .cell)
    (hf : ∀ b ∈ fp, FpOk X pins H b) (hlt : ∀ b ∈ fp, b < s.heap.objs.size) (hn : h'.Ns s.heap.objs.size m) (hk : ∀ b o, s.heap.get? b = some o → h'.get? b = some o) :
    Inv (cxComp X N scope fp s H) [] (List.replicate N.length none) H { s with heap := h', toks := t' } := by
  refine ⟨⟨I.ok.mod, hkind, I.ok.glob, I.ok.blt, Nat.le_refl _, fun x y c e => (comp_nocell e).elim, fun x hx => ?_, fun x c _ e => (comp_nocell e).elim, I.qt, I.ok.frames, .inl rfl,
    fun b hb => ⟨Nat.ne_of_lt (hlt b hb), fun x c e => (comp_nocell e).elim⟩, I.bs, Nat.le_trans I.ok.bsz I.sz, fun b o e hb => ?_, fun b hb hs => ?_, I.stack, I.stkFree⟩,
    rfl, I.bare, Un.kept hk, ⟨m, hn, fun i x v h1 h2 => ?_⟩, fun x c e => (comp_nocell e).elim, I.hok.fresh (Nat.le_refl _), fun x c e => (comp_nocell e).elim, fun p hp => ?_, I.hok.kept hk, List.length_replicate⟩
  · have hx : scope.names.lookup x = some .cell ∨ scope.names.lookup x = some .free := hx
    rcases hx with hx | hx
    · exact absurd rfl (hcell _ (PySem.mem_of_lookup hx))
    · exact absurd rfl (hfree _ (PySem.mem_of_lookup hx))
  · rcases (hf b hb).2.2.2.1 with z | z
    · exact I.ok.noex b o e z
    · exact absurd (Nat.lt_of_lt_of_le (Heap.lt_size e) (Nat.le_trans I.ok.bsz z)) (Nat.lt_irrefl _)
  · rcases List.mem_cons.mp (I.stkSub b hs) with z | z
    · exact (hf b hb).2.1 z
    · exact (hf b hb).2.2.1 z
  · rw [List.getElem?_replicate] at h2
    split at h2 <;> cases h2
  · exact absurd (show p ∈ ([] : List (Addr × Obj)) from hp) (by simp)
/-- the comprehension is through: the def's own state again -/
theorem comp_back {pins' : List (Addr × Obj)} {σ' : St} {H' : Hp} {s' : Shared} (I : Inv X pins σ H s) (hf : ∀ b ∈ fp, FpOk X pins H b) (I' : Inv (cxComp X N scope fp s H) pins' σ' H' s') : Inv X pins σ H' s' :=
  I.call' (ch := fp) I'.os I'.base I'.hok I'.bare fun b hb => ⟨(hf b hb).2.2.2.1, (hf b hb).2.1, (hf b hb).2.2.2.2.1, (hf b hb).2.2.2.2.2⟩
end

section
variable {prog : Program} {w : World} {A : Around} {R : Result → Shared → Prop} {s : Shared}
/-- the loop of a comprehension, whatever its target -/
theorem comp_loop {elt target iter : Expr} {scope : Scope} {pos : Pos} {it acc : Value} {env : Env} (J : Nat → Shared → Prop)
    (turn : ∀ n z, J n z → wpAny (model prog w) A (pyNext it) (fun r z1 => match r with
      | none => R (.ok .next) z1
      | some v => wpAny (model prog w) A (letOwnedTupleGo target it v) (fun _ z2 => wpAny (model prog w) A (assign target env v) (fun _ z3 => wpAny (model prog w) A (eval elt env) (fun x z4 =>
          wpAny (model prog w) A (call (.builtin "list.append") [acc, x]) (fun _ z5 => ∃ m, m < n ∧ J m z5)
            (notedBy (model prog w) A env fun e s' => R (.error e) s') z4) (notedBy (model prog w) A env fun e s' => R (.error e) s') z3)
            (notedBy (model prog w) A env fun e s' => R (.error e) s') z2) (notedBy (model prog w) A env fun e s' => R (.error e) s') z1) (notedBy (model prog w) A env fun e s' => R (.error e) s') z)
    (n : Nat) (h : J n s) : codeAny (model prog w) A (.compLoop (.ListComp elt [⟨target, iter, [], 0⟩] scope pos) 0 it acc env) R s := by
  refine codeAny_loop rfl J (fun k z hz => ?_) n h
  show wpAny _ _ ((compTurn (.ListComp elt [⟨target, iter, [], 0⟩] scope pos) 0 it acc env).onRaise (fun q => do noteFrame q env; theTreesLotGoes q)) _ _ z
  refine wpAny_noted ?_
  rw [compTurn_list1]
  refine wpAny_bind (wpAny_standAt (wpAny_bind (wpAny_mono (turn k z hz) (fun r z1 g1 => ?_) fun _ _ q => q)))
  cases r with
  | none => exact wpAny_pure g1
  | some v =>
    refine wpAny_bind (wpAny_mono g1 (fun _ z2 g2 => wpAny_bind (wpAny_mono g2 (fun _ z3 g3 => ?_) fun _ _ q => q)) fun _ _ q => q)
    exact wpAny_bind (wpAny_bind (wpAny_mono g3 (fun x z4 g4 => wpAny_bind (wpAny_mono g4 (fun _ z5 g5 => wpAny_pure (wpAny_pure ⟨rfl, g5⟩)) fun _ _ q => q)) fun _ _ q => q))
end

/-- [elt for target in iter]: W by the turn, a measure, the list so far, the comprehension's names, the heap; l: where the list stands -/
def tComp (n : Nat) (wi : TI) (g : TG) (te : TE) : TE := fun σ H Q => wi σ H fun J H1 => ∀ l, H1 l = none → ∃ W : Nat → Nat → List V → St → Hp → Prop,
  (∃ m, W 0 m [] (List.replicate n none) (upd H1 l (.lst []))) ∧ ∀ i m ys σ' H', W i m ys σ' H' →
    (J.stop i H' ∧ Q (.ref l) H') ∨ (J.go i H' ∧ ∀ x H2, J.yld i H' x H2 → g x σ' H2 fun σ3 H3 => te σ3 H3 fun y H4 =>
      H4 l = some (.lst ys) ∧ ys.length < sizeLine ∧ ∃ m', m' < m ∧ W (i + 1) m' (ys ++ [y]) σ3 (upd H4 l (.lst (ys ++ [y]))))
section
variable {X : Cx} {N : List Str} {scope : Scope} {elt target iter : Expr} {pos : Pos} {wi : TI} {g : TG} {te : TE}
/-- name = [elt for target in iter] -/
def tSetC (i : Nat) (t : TE) : TS := fun D σ H => t σ H fun v H1 => D.nx (σ.set i (some v)) H1
end
/-! ### sum, is not True, isinstance -/
section
variable {X : Cx}
theorem call_sum (hc : X.A.handled = none) : CallR X (.builtin "sum") (fun xs H Q => ∃ (p : Addr) (ns : List Int), xs = [.ref p] ∧ SqL X.K H p (ns.map V.int) ∧ Q (.int ns.sum) H) := by
  intro pins s σ H xs us Q I r h
  obtain ⟨p, ns, rfl, hq, q⟩ := h
  obtain ⟨u, rfl, rx⟩ := vals1 r
  cases rx
  obtain ⟨its, rv, pl, hz⟩ := I.list hq
  have hi := intsAre_of rv
  obtain ⟨ys, hx⟩ := hi.allInts.items
  have hl : s.heap.IsList p (intItems ys) := hx ▸ pl.isList
  refine sum_intListG hc hl fun h' tk t' hk => ?_
  have e1 : ns = ys.toList.map (·.1) := by
    rw [← nums_intItems, ← hx]
    exact (show numsOf its.toArray.toList = ns from hi.numsOf).symm
  have e2 : preSum (numAt ys) ys.size = ns.sum := by
    rw [preSum_eq, List.take_of_length_le (by simp), e1]
  rw [e2]
  exact ⟨.int ns.sum, H, I.kept (t' := tk) hk, ⟨_, rfl⟩, q⟩
theorem call_isi : CallR X (.builtin "isinstance") (fun xs H Q => ∃ x c t b, xs = [x, .ty c] ∧ TyOf X.K H x t ∧ PySem.W.kitOne X.K t (.type c) = some b ∧ Q (.bl b) H) := by
  intro pins s σ H xs us Q I r h
  obtain ⟨x, c, t, b, rfl, ty, e, q⟩ := h
  obtain ⟨u, v, rfl, ru, rv⟩ := vals2 r
  cases rv
  exact isinst_ok I ru ty e fun tk => ⟨.bl b, H, I.tok tk, rfl, q⟩
end
end L2

set_option Elab.async false
set_option linter.all false
set_option maxRecDepth 100000
set_option maxHeartbeats 4000000
namespace L2
open PySem PySem.Spec PyProof.Rows
/-! ## more rules of my own: comprehensions that capture names, defs with defaults, small dicts, sets, lists compared -/
def cxCompC (X : Cx) (N : List Str) (scope : Scope) (cl : List (Str × Addr)) (fp : List Addr) (s : Shared) (H : Hp) : Cx where
  prog := X.prog
  w := X.w
  K := X.K
  mg := X.mg
  base := X.base
  A := X.A
  N := N
  s₀ := s
  H₀ := H
  env := compEnvC scope cl s.heap.objs.size X.env
  outer := X.stack
  stack := X.stack
  ex := fp
  fn := fun _ => false
  calm := X.calm
  pn := []
  xe := fun _ _ => False
/-- the captured names' values, by their slots in the def's own frame -/
def cap (js : List (Option Nat)) (σ : St) : St := js.map fun o => match o with
  | none => none
  | some j => (σ[j]?).getD none
/-- what is asked of the captured names -/
structure Caps (X : Cx) (N : List Str) (scope : Scope) (cl : List (Str × Addr)) (js : List (Option Nat)) : Prop where
  kind : scope.kind = .function
  nocell : ∀ x ∈ scope.names, x.2 ≠ .cell
  names : ∀ x ∈ scope.names, x.2 = .local → scope.names.lookup x.1 = some .local
  clos : closureFor scope X.env = pure cl
  sub : ∀ x c, cl.lookup x = some c → X.env.cells.lookup x = some c
  has : ∀ x, ((relabel scope X.env).names.lookup x = some .cell ∨ (relabel scope X.env).names.lookup x = some .free) → ∃ c, cl.lookup x = some c
  len : js.length = N.length
  slot : ∀ (i : Nat) (x : Str) (j : Nat), N[i]? = some x → js[i]? = some (some j) → X.N[j]? = some x ∧ X.env.scope.names.lookup x = some .cell ∧ (relabel scope X.env).names.lookup x = some .cell ∧ ∀ c, X.env.cells.lookup x = some c → cl.lookup x = some c
section
variable {X : Cx} {pins : List (Addr × Obj)} {σ : St} {H : Hp} {s : Shared} {N : List Str} {scope : Scope} {cl : List (Str × Addr)} {js : List (Option Nat)} {fp : List Addr}
theorem inv_compC {h' : Heap} {t' : Nat} {m : Str → Option Value} (I : Inv X pins σ H s) (C : Caps X N scope cl js)
    (hf : ∀ b ∈ fp, FpOk X pins H b) (hlt : ∀ b ∈ fp, b < s.heap.objs.size) (hn : h'.Ns s.heap.objs.size m) (hk : ∀ b o, s.heap.get? b = some o → h'.get? b = some o) :
    Inv (cxCompC X N scope cl fp s H) [] (cap js σ) H { s with heap := h', toks := t' } := by
  have sub : ∀ {x : Str} {c : Addr}, (cxCompC X N scope cl fp s H).env.cells.lookup x = some c → X.env.cells.lookup x = some c := fun {x c} e => C.sub x c e
  refine ⟨⟨I.ok.mod, C.kind, I.ok.glob, I.ok.blt, Nat.le_refl _, fun x y c e1 e2 => I.ok.inj x y c (sub e1) (sub e2), fun x hx => C.has x hx, fun x c e _ => (by cases e), I.qt, I.ok.frames, .inl rfl,
    fun b hb => ⟨Nat.ne_of_lt (hlt b hb), fun x c e => (hf b hb).2.2.2.2.1 x c (sub e)⟩, I.bs, Nat.le_trans I.ok.bsz I.sz, fun b o e hb => ?_, fun b hb hs => ?_, I.stack, I.stkFree⟩,
    rfl, I.bare, Un.kept hk, ⟨m, hn, fun i x v h1 h2 h3 => ?_⟩, fun x c e => ?_, I.hok.fresh (Nat.le_refl _), fun x c e => I.freeC x c (sub e), fun p hp => ?_, I.hok.kept hk, by unfold cap; rw [List.length_map]; exact C.len⟩
  · rcases (hf b hb).2.2.2.1 with z | z
    · exact I.ok.noex b o e z
    · exact absurd (Nat.lt_of_lt_of_le (Heap.lt_size e) (Nat.le_trans I.ok.bsz z)) (Nat.lt_irrefl _)
  · rcases List.mem_cons.mp (I.stkSub b hs) with z | z
    · exact (hf b hb).2.1 z
    · exact (hf b hb).2.2.1 z
  · unfold cap at h2
    rw [List.getElem?_map] at h2
    cases ej : js[i]? with
    | none => rw [ej] at h2; cases h2
    | some o =>
      rw [ej] at h2
      cases o with
      | none => cases h2
      | some j =>
        have h2' : (σ[j]?).getD none = some v := Option.some.inj h2
        obtain ⟨hj1, hk1, hk2, hc⟩ := C.slot i x j h1 ej
        have hj2 : σ[j]? = some (some v) := by
          cases e : σ[j]? with
          | none => rw [e] at h2'; cases h2'
          | some w' => rw [e] at h2'; exact congrArg some h2'
        obtain ⟨mo, hno, hl⟩ := I.loc
        obtain ⟨u, r, l⟩ := hl j x v hj1 hj2 (.inr (.inl hk1))
        refine ⟨u, r, ?_⟩
        rcases l with ⟨q, _⟩ | ⟨_, c, ec, o, ho, hd⟩
        · have q' : X.env.scope.names.lookup x = some .local := q
          rw [hk1] at q'; cases q'
        · exact .inr ⟨.inl hk2, c, hc c ec, o, hk c o ho, hd⟩
  · obtain ⟨v, o, ho, hd⟩ := I.cell x c (sub e)
    exact ⟨v, o, hk c o ho, hd⟩
  · exact absurd (show p ∈ ([] : List (Addr × Obj)) from hp) (by simp)
theorem compC_back {pins' : List (Addr × Obj)} {σ' : St} {H' : Hp} {s' : Shared} (I : Inv X pins σ H s) (hf : ∀ b ∈ fp, FpOk X pins H b) (I' : Inv (cxCompC X N scope cl fp s H) pins' σ' H' s') : Inv X pins σ H' s' :=
  I.call' (ch := fp) I'.os I'.base I'.hok I'.bare fun b hb => ⟨(hf b hb).2.2.2.1, (hf b hb).2.1, (hf b hb).2.2.2.2.1, (hf b hb).2.2.2.2.2⟩
end
def tCompC (js : List (Option Nat)) (wi : TI) (g : TG) (te : TE) : TE := fun σ H Q => wi σ H fun J H1 => ∀ l, H1 l = none → ∃ W : Nat → Nat → List V → St → Hp → Prop,
  (∃ m, W 0 m [] (cap js σ) (upd H1 l (.lst []))) ∧ ∀ i m ys σ' H', W i m ys σ' H' →
    (J.stop i H' ∧ Q (.ref l) H') ∨ (J.go i H' ∧ ∀ x H2, J.yld i H' x H2 → g x σ' H2 fun σ3 H3 => te σ3 H3 fun y H4 =>
      H4 l = some (.lst ys) ∧ ys.length < sizeLine ∧ ∃ m', m' < m ∧ W (i + 1) m' (ys ++ [y]) σ3 (upd H4 l (.lst (ys ++ [y]))))
section
variable {X : Cx} {N : List Str} {scope : Scope} {cl : List (Str × Addr)} {js : List (Option Nat)} {elt target iter : Expr} {pos : Pos} {wi : TI} {g : TG} {te : TE}
theorem compC_core {pins : List (Addr × Obj)} {σ : St} {H : Hp} {s : Shared} {Q : VK} {RR : Value → Addr → Result → Shared → Prop}
    (hc : X.calm = true) (Cp : Caps X N scope cl js)
    (hi : PI X target iter wi) (hg : ∀ fp s H, PG (cxCompC X N scope cl fp s H) target g) (he : ∀ fp s H, PE (cxCompC X N scope cl fp s H) elt te)
    (I : Inv X pins σ H s) (h : tCompC js wi g te σ H Q)
    (hR : ∀ (l C : Addr) (H' : Hp) (s' : Shared), Inv X pins σ H' s' → FpOk X pins H' C → (∃ m, s'.heap.Ns C m) → Q (.ref l) H' → RR (.ref l) C (.ok .next) s') :
    wpAny (model X.prog X.w) X.A (eval iter X.env) (fun x s₁ => wpAny (model X.prog X.w) X.A (pyIter x) (fun it s₂ => wpAny (model X.prog X.w) X.A (newList []) (fun acc s₃ =>
      wpAny (model X.prog X.w) X.A (newFunctionEnv scope X.env.globals cl [] X.env.qual none .none (some X.env)) (fun cenv s₄ =>
        codeAny (model X.prog X.w) X.A (.compStart (.ListComp elt [⟨target, iter, [], 0⟩] scope pos) 0 it acc { cenv with scope := relabel scope X.env }) (RR acc cenv.locals) s₄) X.xe s₃) X.xe s₂) X.xe s₁) X.xe s := by
  refine thn (hi pins s σ H _ I h) fun v s1 h1 => thn h1 fun itv s2 h2 => ?_
  obtain ⟨it, fp, tn, J, H2, e, I2, T, st2, f2, hw⟩ := h2
  subst e
  have hl2 : H2 s2.heap.objs.size = none := I2.hok.fresh (Nat.le_refl _)
  obtain ⟨W, ⟨m0, w0⟩, turn⟩ := hw s2.heap.objs.size hl2
  have lt2 : ∀ b ∈ fp, b < s2.heap.objs.size := fun b hb => let ⟨o, e, _⟩ := T.obj _ _ st2 b hb; Heap.lt_size e
  refine wpAny_newList ?_
  have I3 : Inv X pins σ (upd H2 s2.heap.objs.size (.lst [])) { s2 with heap := s2.heap.push { cls := .type "list", data := .seq ([] : List Value).toArray } } :=
    I2.laid (t' := s2.toks) (fun b u e => Heap.get?_push_of_some _ e) (Nat.le_refl _) ⟨Nat.zero_le _, [], 0, .nil, Heap.get?_push_size _ rfl⟩
  have st3 : tn 0 (s2.heap.push { cls := .type "list", data := .seq ([] : List Value).toArray }) := T.keep _ _ _ st2 fun b hb o e => Heap.get?_push_of_some _ e
  have lt3 : ∀ b ∈ fp, b < (s2.heap.push { cls := .type "list", data := .seq ([] : List Value).toArray }).objs.size := fun b hb => by rw [Heap.size_push]; exact Nat.lt_succ_of_lt (lt2 b hb)
  have f3 : ∀ b ∈ fp, FpOk X pins (upd H2 s2.heap.objs.size (.lst [])) b := fun b hb => ⟨by rw [upd_ne (Nat.ne_of_lt (lt2 b hb))]; exact (f2 b hb).1, (f2 b hb).2⟩
  generalize s2.heap.objs.size = l at *
  generalize upd H2 l (.lst []) = H3 at *
  have hs3 : ∃ s3 : Shared, s3 = { s2 with heap := s2.heap.push { cls := .type "list", data := .seq ([] : List Value).toArray } } := ⟨_, rfl⟩
  obtain ⟨s3, e3⟩ := hs3
  rw [← e3] at I3
  rw [← e3]
  have st3 : tn 0 s3.heap := by rw [e3]; exact st3
  have lt3 : ∀ b ∈ fp, b < s3.heap.objs.size := by rw [e3]; exact lt3
  clear e3
  refine wpAny_newFunctionEnv Cp.nocell (by intro y hy; simp at hy) (fun h4 hns hsb => ?_) Cp.kind
  have kp : ∀ b o, s3.heap.get? b = some o → h4.get? b = some o := fun b o e => hsb.extBut b o (Nat.ne_of_lt (Heap.lt_size e)) (Heap.get?_push_of_some _ e)
  have I4 := inv_compC (N := N) (t' := s3.toks + ([] : List (Str × Value)).length) I3 Cp f3 lt3 hns kp
  have st4 : tn 0 h4 := T.keep _ _ _ st3 fun b hb o e => kp b o e
  have stat : ∀ {H' : Hp}, (∀ b ∈ fp, H' b = none) → ∀ b ∈ fp, FpOk (cxCompC X N scope cl fp s3 H3) [] H' b := fun hn b hb =>
    ⟨hn b hb, (I4.ok.exf b hb).1, I4.ok.exfs b hb, .inl hb, (I4.ok.exf b hb).2, fun p hp => absurd (show p ∈ ([] : List (Addr × Obj)) from hp) (by simp)⟩
  have loop : codeAny (model X.prog X.w) X.A (.compLoop (.ListComp elt [⟨target, iter, [], 0⟩] scope pos) 0 (.ref it) (.ref l) (compEnvC scope cl s3.heap.objs.size X.env)) (RR (.ref l) s3.heap.objs.size)
      { s3 with heap := h4, toks := s3.toks + ([] : List (Str × Value)).length } := by
    refine comp_loop (fun n s' => ∃ i ys σ' H', Inv (cxCompC X N scope cl fp s3 H3) [] σ' H' s' ∧ tn i s'.heap ∧ (∀ b ∈ fp, H' b = none) ∧ W i n ys σ' H') ?_ m0 ⟨0, [], _, _, I4, st4, fun b hb => (f3 b hb).1, w0⟩
    rintro n s5 ⟨i, ys, σ5, H5, I5, st5, fr5, w5⟩
    rcases turn i n ys σ5 H5 w5 with ⟨stop, q⟩ | ⟨go, step⟩
    · refine thn (T.done (cxCompC X N scope cl fp s3 H3) rfl rfl rfl hc i [] s5 σ5 H5 _ I5 (stat fr5) st5 stop) fun r s6 ⟨hr, I6⟩ => ?_
      subst hr
      exact hR _ _ _ _ (compC_back I3 f3 I6) (I3.fpOk (Nat.le_refl _) I6.free) (let ⟨m, hn, _⟩ := I6.loc; ⟨m, hn⟩) q
    · refine thn (T.item (cxCompC X N scope cl fp s3 H3) rfl rfl rfl hc i [] s5 σ5 H5 _ I5 (stat fr5) st5 go) fun r s6 ⟨u, hr, h6⟩ => ?_
      subst hr
      refine thn h6 fun _ s7 ⟨x, H7, I7, r7, y7, st7, fr7⟩ => ?_
      have I7' := I7.pinned (stat fr7) (T.obj _ _ st7)
      refine wpAny_mono (hg fp s3 H3 _ s7 σ5 H7 x u _ I7' r7 (step x H7 y7)) (fun _ s8 ⟨σ8, H8, I8, q8⟩ => ?_) (fun _ _ z => False.elim z)
      refine wpAny_mono (he fp s3 H3 _ s8 σ8 H8 _ I8 q8) (fun v s9 ⟨y, H9, I9, r9, hl9, hz9, m', hm', w9⟩ => ?_) (fun _ _ z => False.elim z)
      refine wpAny_mono (mt_append (X := cxCompC X N scope cl fp s3 H3) _ s9 σ8 H9 (.ref l) [y] (.ref l) [v] (fun z Hz => Hz = upd H9 l (.lst (ys ++ [y]))) I9 rfl (.cons r9 .nil) ⟨l, ys, y, rfl, rfl, hl9, hz9, rfl⟩)
        (fun _ s10 ⟨z, Hz, I10, _, eH⟩ => ?_) (fun _ _ z => False.elim z)
      subst eH
      refine ⟨m', hm', i + 1, ys ++ [y], σ8, _, I10.unpinned, T.keep _ _ _ st7 fun b hb o e => (I10.pin (b, o) (List.mem_append_right _ (List.mem_append_right _ (mem_pinsAt hb e)))).1, fun b hb => ?_, w9⟩
      obtain ⟨o, e, d⟩ := T.obj _ _ st7 b hb
      exact (I10.pin (b, o) (List.mem_append_right _ (List.mem_append_right _ (mem_pinsAt hb e)))).2.1
  exact codeAny_compStart_list loop (T.self X.A 0 _ _ _ st4 loop)
end
/-- over a range -/
theorem compC_rng {lo : Int} {l : Addr} {k : Nat} {σ0 : St} {g : TG} {te : TE} {R : Hp → Prop} {H1 : Hp} (Pv : Nat → List V → St → Hp → Prop) (h0 : Pv 0 [] σ0 (upd H1 l (.lst [])))
    (hs : ∀ i ys σ H, i < k → Pv i ys σ H → g (.int (lo + (i : Nat))) σ H fun σ3 H3 => te σ3 H3 fun y H4 => H4 l = some (.lst ys) ∧ ys.length < sizeLine ∧ Pv (i + 1) (ys ++ [y]) σ3 (upd H4 l (.lst (ys ++ [y]))))
    (hd : ∀ ys σ H, Pv k ys σ H → R H) (mg : ∀ x σ H (A B : St → Hp → Prop), (∀ σ' H', A σ' H' → B σ' H') → g x σ H A → g x σ H B) (mt : ∀ σ H (A B : VK), (∀ v H', A v H' → B v H') → te σ H A → te σ H B) :
    ∃ W : Nat → Nat → List V → St → Hp → Prop, (∃ m, W 0 m [] σ0 (upd H1 l (.lst []))) ∧ ∀ i m ys σ' H', W i m ys σ' H' →
      ((Itr lo k).stop i H' ∧ R H') ∨ ((Itr lo k).go i H' ∧ ∀ x H2, (Itr lo k).yld i H' x H2 → g x σ' H2 fun σ3 H3 => te σ3 H3 fun y H4 =>
        H4 l = some (.lst ys) ∧ ys.length < sizeLine ∧ ∃ m', m' < m ∧ W (i + 1) m' (ys ++ [y]) σ3 (upd H4 l (.lst (ys ++ [y])))) := by
  refine ⟨fun i m ys σ H => m = k - i ∧ i ≤ k ∧ Pv i ys σ H, ⟨k, by simp, Nat.zero_le _, h0⟩, ?_⟩
  rintro i m ys σ H ⟨rfl, hi, p⟩
  by_cases hlt : i < k
  · refine .inr ⟨hlt, fun x H' y => ?_⟩
    obtain ⟨e, y⟩ := y
    subst e y
    exact mg _ _ _ _ _ (fun σ3 H3 z => mt _ _ _ _ (fun y H4 ⟨z1, z2, z4⟩ => ⟨z1, z2, k - (i + 1), by omega, rfl, hlt, z4⟩) z) (hs i ys σ _ hlt p)
  · have e : i = k := by omega
    subst e
    exact .inl ⟨Nat.le_refl _, hd ys σ H p⟩

/-! ### defs with defaults -/
structure FunD (K : PySem.W.Frag) (x qual : Str) (st : Stmt) (dV : Value) (f : Addr) (fd : FuncData) : Prop where
  ex : ∃ (oc : Value) (od : Option Addr) (kV doc pm : Value) (an : Option Addr) (cdv ct : Value) (osl : Array (Option Value)),
    fd = PySem.W.fnOf x qual (defArgs st) (defBody st) (defScope st) dV kV doc pm an cdv ct ∧ K.lookup f = some ⟨oc, od, .func fd, osl⟩ ∧ PySem.W.codeIn K cdv qual = true
  kp : PySem.W.keepIn K (.ref f) = true
theorem FunD.ok {P : Program} {w : World} {K : PySem.W.Frag} {mg : Str → Option Value} {base : Heap} {x qual : Str} {st : Stmt} {dV : Value} {f : Addr} {fd : FuncData} {N ps : List Str} {k : Nat} {sp : Sp} (F : FunD K x qual st dV f fd) (S : FnScope N ps (defScope st)) (len : ∀ vs H Q E, sp vs H Q E → vs.length = ps.length)
    (hb : ∀ (cdv : Value) (A : Around) (outer : List Env) (s : Shared) (H : Hp) (vs : List V) (Q : VK) (E : XK), Room k (A.deeper (envOfC qual (defScope st) s.heap.objs.size f cdv)) → sp vs H Q E →
      ∃ t, PSs (cxOf CX0 P w K mg base N qual (defScope st) f cdv A outer s H E).nox (defBody st) t ∧ t { nx := fun _ H' => Q .non H', rt := Q } (start N vs) H) : FnOk P w K mg base CX0 (k + 1) f fd ps sp := by
  obtain ⟨oc, od, kV, doc, pm, an, cdv, ct, osl, rfl, lk, hcd⟩ := F.ex
  refine fn_of lk hcd S len fun A outer s H vs Q E hr hsp => ?_
  obtain ⟨t, h, q⟩ := hb cdv A outer s H vs Q E hr hsp
  exact ⟨t, h.nox, q⟩

/-! ### a dict of the two keys 8 and 16 -/
def Map2 (P : Program) (w : World) (h : Heap) (d : Addr) (a b : Int) : Prop := ∃ t t' : Tok, h.MapOf (intKind P w) d (valueAt [((8 : Int), Value.int a t), (16, .int b t')])
/-- .. of the text's top -/
def TabK (K : PySem.W.Frag) (d : Addr) (a b : Int) : Prop := (d == sysModules) = false ∧ ∃ (t1 t2 t3 t4 : Tok) (ep : Nat), K.lookup d = some ⟨.type "dict", none, .dict #[⟨8, .int 8 t1, .int a t2⟩, ⟨16, .int 16 t3, .int b t4⟩] ep, #[]⟩
theorem TabK.map {K : PySem.W.Frag} {d : Addr} {a b : Int} {h : Heap} (P : Program) (w : World) (T : TabK K d a b) (X : K.In h) : Map2 P w h d a b := by
  obtain ⟨_, t1, t2, t3, t4, ep, e⟩ := T
  refine ⟨t2, t4, _, _, ep, X _ _ e, ⟨rfl, rfl, rfl⟩, rfl, ?_, ?_⟩
  · intro en hen
    have hen' : en = ⟨8, .int 8 t1, .int a t2⟩ ∨ en = ⟨16, .int 16 t3, .int b t4⟩ := by simpa using hen
    rcases hen' with rfl | rfl
    · exact ⟨8, intKind_is P w 8 t1, by show (8 : Int) = hashInt 8; decide +kernel⟩
    · exact ⟨16, intKind_is P w 16 t3, by show (16 : Int) = hashInt 16; decide +kernel⟩
  · intro k
    show findBy Value.isInt _ k = _
    unfold findBy valueAt
    by_cases h8 : k = 8
    · subst h8; simp [Value.isInt]
    · by_cases h16 : k = 16
      · subst h16; simp [Value.isInt]
      · have e1 : ¬ (8 : Int) = k := fun z => h8 z.symm
        have e2 : ¬ (16 : Int) = k := fun z => h16 z.symm
        simp [Value.isInt, e1, e2]
def DicO (P : Program) (w : World) (d : Addr) (a b : Int) : HO := .ext fun h => Map2 P w h d a b
/-- a dict of the keys 8 and 16 that is read -/
def Sq2 (X : Cx) (H : Hp) (d : Addr) (a b : Int) : Prop := TabK X.K d a b ∨ H d = some (DicO X.prog X.w d a b)
section
variable {X : Cx} {pins : List (Addr × Obj)} {σ : St} {H : Hp} {s : Shared}
def rIx2 (X : Cx) : R2 := fun x y H Q => ∃ d i a b, x = .ref d ∧ y = .int i ∧ Sq2 X H d a b ∧ ((i = 8 ∧ Q (.int a) H) ∨ (i = 16 ∧ Q (.int b) H))
/-! ### lists of ints compared; sets -/
/-- {8: e1, 16: e2} -/
def tDict2 (P : Program) (w : World) (t1 t2 : TE) : TE := fun σ H Q => t1 σ H fun x H1 => t2 σ H1 fun y H2 => ∃ u v, x = .int u ∧ y = .int v ∧ ∀ d, H2 d = none → Q (.ref d) (upd H2 d (DicO P w d u v))
end
end L2

set_option Elab.async false
set_option linter.all false
set_option maxRecDepth 100000
namespace QQ
open PySem
section
variable {M : Model} {A : Around} {E : Value → Shared → Prop}
variable {nm q nm' q' : Str} {C N D N' : Addr} {bs bm bs' bm' : List Value} {hdct hdct' : Bool} {sn sn' : List Str} {sub sub' : List Value} {ab ab' : Bool} {col col' : Option Bool} {dd dd' : Option Addr} {k0 k1 k2 k3 k5 j0 j1 j2 j3 j5 : Option Value} {newId newId' : String}
/-- an own class at except, of which the error's own class is one -/
theorem exc_matches {h : Heap} {g : Array GenState} {d : Drawn} {t : Nat} {os : OsState} {e : Addr} {oe : Obj} {Q : Bool → Shared → Prop}
    (hC : h.get? C = some (excClassObj nm q C N bs bm hdct sn sub ab col dd k0 k1 k2 k3 k5 newId)) (hD : h.get? D = some (excClassObj nm' q' D N' bs' bm' hdct' sn' sub' ab' col' dd' j0 j1 j2 j3 j5 newId'))
    (he : h.get? e = some oe) (hcls : oe.cls = .ref C) (hbase : bm'.contains (.type "BaseException") = true) (hm : (Value.ref C :: bm).contains (.ref D) = true) (ne : C ≠ D)
    (hq : Q true ⟨h, g, d, t, os⟩) : wpAny M A (excMatches (.ref e) (.ref D)) Q E ⟨h, g, d, t, os⟩ := by
  have hcB : (Value.ref D :: bm').contains (.type "BaseException") = true := by rw [List.contains_cons, hbase, Bool.or_true]
  have f := tc_notTuple
  unfold excMatches
  repeat (first | (with_reducible refine wpAny_loadPart_at he ?_; rw [hcls]) | with_reducible refine wpAny_loadPart_at hD ?_ | (with_reducible refine wpAny_isSubtype_exc hD ?_; rw [hcB]) | (with_reducible refine wpAny_isSubtype_exc hC ?_; rw [hm]) | wp_step)
  exact hq
end
end QQ

set_option Elab.async false
set_option linter.all false
set_option maxRecDepth 100000
set_option maxHeartbeats 4000000
namespace L2
open PySem PySem.Spec PyProof.Rows QQ
/-! ## errors: how one lies behind a call, how it passes a def, raise, try -/
theorem ObjOk.there {P : Program} {w : World} {H : Hp} {h : Heap} {a : Addr} {o : HO} (x : ObjOk P w H h a o) : ∃ ob, h.get? a = some ob := by
  cases o with
  | lst xs => obtain ⟨_, _, _, _, e⟩ := x; exact ⟨_, e⟩
  | tup xs => obtain ⟨_, _, _, ob, e, _⟩ := x; exact ⟨_, e⟩
  | dK kvs => obtain ⟨_, _, _, _, o, _, _, e, _⟩ := x; exact ⟨_, e⟩
  | dT kvs => obtain ⟨_, _, _, _, o, _, _, e, _⟩ := x; exact ⟨_, e⟩
  | set S n => obtain ⟨o, _, _, _, e, _⟩ := x; exact ⟨_, e⟩
  | ins C dx fs => obtain ⟨_, _, _, e, _⟩ := x; exact ⟨_, e⟩
  | own y => exact x
  | xd fs => obtain ⟨_, ⟨_, _, _, e, _⟩, _⟩ := x; exact ⟨_, e⟩
  | rng lo hi => obtain ⟨_, _, _, e⟩ := x; exact ⟨_, e⟩
  | frz ob u => obtain ⟨e, _⟩ := x; exact ⟨_, e⟩
  | tbl ps => exact ⟨_, show h.get? a = some _ from x⟩
  | met f y => exact ⟨_, show h.get? a = some _ from x⟩
  | ext φ => obtain ⟨_, e, _⟩ := x; exact e
theorem HOk.gone {P : Program} {w : World} {H : Hp} {h : Heap} {a : Addr} (x : HOk P w H h) (e : h.get? a = none) : H a = none := by
  cases q : H a with
  | none => rfl
  | some u =>
    obtain ⟨ob, r⟩ := (x a u q).there
    rw [e] at r; cases r
/-- how an error lies behind a call -/
def CXE (P : Program) (w : World) : CXT := fun outer H s E e s' => ∃ ea cls fp H', e = .ref ea ∧ s'.os = s.os ∧ AllBare s'.gens ∧ Un (frs outer) [] H H' s.heap s'.heap ∧ HOk P w H' s'.heap ∧
  Fly s'.heap ea cls fp ∧ (∀ b ∈ fp, s.heap.get? b = none ∧ H' b = none) ∧ E cls none H'
/-- what is new since the entry -/
structure New (X : Cx) (pins : List (Addr × Obj)) (H : Hp) (b : Addr) : Prop where
  s0 : X.s₀.heap.get? b = none
  h : H b = none
  loc : b ≠ X.env.locals
  cel : ∀ x c, X.env.cells.lookup x = some c → c ≠ b
  pin : ∀ p ∈ X.pn ++ pins, p.1 ≠ b
section
variable {X : Cx} {pins : List (Addr × Obj)} {σ : St} {H H' : Hp} {s : Shared}
theorem Inv.new (I : Inv X pins σ H s) {b : Addr} (e : s.heap.get? b = none) (n : H' b = none) (hx : b ∉ X.ex) : New X pins H' b := by
  refine ⟨?_, n, fun z => ?_, fun x c ec z => ?_, fun p hp z => ?_⟩
  · cases q : X.s₀.heap.get? b with
    | none => rfl
    | some o =>
      obtain ⟨o', r⟩ := I.base.there b o q hx
      rw [e] at r; cases r
  · obtain ⟨m, ⟨o, _, _, ho, _⟩, _⟩ := I.loc
    rw [← z, e] at ho; cases ho
  · obtain ⟨v, o, ho, _⟩ := I.cell x c ec
    rw [z, e] at ho; cases ho
  · have := (I.pin p hp).1
    rw [z, e] at this; cases this
theorem New.ch {b : Addr} (n : New X pins H b) : (b ∈ X.ex ∨ X.s₀.heap.get? b = none) ∧ b ≠ X.env.locals ∧ (∀ x c, X.env.cells.lookup x = some c → c ≠ b) ∧ ∀ p ∈ X.pn ++ pins, p.1 ≠ b := ⟨.inr n.s0, n.loc, n.cel, n.pin⟩
/-- new records have changed, of the frames that run the slots -/
theorem Inv.landed {h' : Heap} {fp : List Addr} (I : Inv X pins σ H s) (hn : ∀ b ∈ fp, New X pins H b) (k : ∀ b o, s.heap.get? b = some o → b ∉ fp → b ∉ X.stack.filterMap (·.frame) → h'.get? b = some o)
    (sl : ∀ b o, s.heap.get? b = some o → b ∉ fp → ∃ z, h'.get? b = some { o with slots := z }) (th : ∀ b o, s.heap.get? b = some o → ∃ o', h'.get? b = some o') : Inv X pins σ H { s with heap := h' } := by
  have nf : ∀ b, b ∉ X.fs → b ≠ X.env.locals → b ∉ X.stack.filterMap (·.frame) := fun b h1 h2 z => by
    rcases List.mem_cons.mp (I.stkSub b z) with q | q
    · exact h2 q
    · exact h1 q
  have tr : ∀ b u, H b = some u → ∀ o, s.heap.get? b = some o → h'.get? b = some o := fun b u e o g => by
    refine k b o g (fun z => ?_) fun z => ?_
    · rw [(hn b z).h] at e; cases e
    · rw [I.stkFree b z] at e; cases e
  refine I.step0 (g' := s.gens) (d' := s.drawn) (t' := s.toks) (ch := fp) (fun b hb => (hn b hb).ch) (fun b o h1 h2 h3 g _ => k b o g h3 (nf b h2 h1)) (fun b o _ _ h3 g _ => sl b o g h3) (fun _ _ _ _ n => n) (fun b o _ g => th b o g)
    (fun _ _ e => e) (fun _ _ _ e => e) (fun b ps e => ⟨#[], by rw [e]; simp⟩) (fun m hm => ?_) (fun a o e => ?_) I.bare
  · obtain ⟨o, es, ep, ho, r⟩ := hm
    obtain ⟨z, q⟩ := sl _ o ho fun y => (hn _ y).loc rfl
    exact ⟨_, es, ep, q, r⟩
  · refine (I.hok a o e).stay (fun c v hc q => ?_) (fun _ q => q) fun _ _ q => q
    rcases hc with z | z
    · subst z; exact tr c _ e v q
    · exact tr c _ z v q
/-- the state behind a call that ended in an error -/
theorem Inv.thrown {E : XK} {e : Value} {s' : Shared} (I : Inv X pins σ H s) (hx : CXE X.prog X.w X.stack H s E e s') (hX : X.ex = []) : ∃ ea cls fp H', e = .ref ea ∧ Inv X pins σ H' s' ∧ Fly s'.heap ea cls fp ∧ (∀ b ∈ fp, New X pins H' b) ∧ E cls none H' := by
  obtain ⟨ea, cls, fp, H', rfl, os, bare, un, hok, F, fr, q⟩ := hx
  exact ⟨ea, cls, fp, H', rfl, I.call' (ch := []) os un hok bare (fun b z => absurd z (by simp)), F, fun b hb => I.new (fr b hb).1 (fr b hb).2 (by rw [hX]; simp), q⟩
end
/-- out of a def -/
theorem passE {P : Program} {w : World} {K : PySem.W.Frag} {mg : Str → Option Value} {base : Heap} {N : List Str} {qual : Str} {scope : Scope} {f : Addr} {cd : Value} {A : Around} {outer : List Env} {s₀ : Shared} {H₀ : Hp} {E : XK} :
    Passes (CXE P w) (cxOf (CXE P w) P w K mg base N qual scope f cd A outer s₀ H₀ E) E := by
  intro pins σ H s e s' I hx
  obtain ⟨ea, cls, fp, H', rfl, I', F, fr, q⟩ := I.thrown hx rfl
  show wpAny (model P w) _ (leaving _ (.ref ea)) _ _ _
  unfold leaving
  refine wpAny_bind (land I'.ok.frames I'.stack rfl F fun h' T F' hT f3 f4 f5 => ?_)
  have J := I'.landed fr f3 f4 f5
  refine ⟨ea, cls, [ea, T], H', rfl, J.os, J.bare, J.base, J.hok, F', fun b hb => ?_, q⟩
  rcases List.mem_cons.mp hb with hb | hb
  · subst hb
    have z := fr b F.here
    exact ⟨z.s0, z.h⟩
  · rw [List.mem_singleton] at hb
    subst hb
    refine ⟨?_, I'.hok.fresh hT⟩
    cases z : s₀.heap.get? b with
    | none => rfl
    | some o =>
      obtain ⟨o', r⟩ := I'.base.there b o z (by simp [cxOf])
      exact absurd (Nat.lt_of_lt_of_le (Heap.lt_size r) hT) (Nat.lt_irrefl _)
/-- THE RULE for a def that may raise -/
theorem Fun.okE {P : Program} {w : World} {K : PySem.W.Frag} {mg : Str → Option Value} {base : Heap} {x qual : Str} {st : Stmt} {f : Addr} {fd : FuncData} {N ps : List Str} {k : Nat} {sp : Sp} (F : Fun K x qual st f fd) (S : FnScope N ps (defScope st)) (len : ∀ vs H Q E, sp vs H Q E → vs.length = ps.length)
    (hb : ∀ (cdv : Value) (A : Around) (outer : List Env) (s : Shared) (H : Hp) (vs : List V) (Q : VK) (E : XK), Room k (A.deeper (envOfC qual (defScope st) s.heap.objs.size f cdv)) → sp vs H Q E →
      ∃ t, PSs (cxOf (CXE P w) P w K mg base N qual (defScope st) f cdv A outer s H E) (defBody st) t ∧ t { nx := fun _ H' => Q .non H', rt := Q } (start N vs) H) : FnOk P w K mg base (CXE P w) (k + 1) f fd ps sp := by
  obtain ⟨oc, od, kV, doc, pm, an, cdv, ct, osl, rfl, lk, hcd⟩ := F.ex
  exact fn_of lk hcd S len fun A outer s H vs Q E hr hsp => hb cdv A outer s H vs Q E hr hsp
theorem FunD.okE {P : Program} {w : World} {K : PySem.W.Frag} {mg : Str → Option Value} {base : Heap} {x qual : Str} {st : Stmt} {dV : Value} {f : Addr} {fd : FuncData} {N ps : List Str} {k : Nat} {sp : Sp} (F : FunD K x qual st dV f fd) (S : FnScope N ps (defScope st)) (len : ∀ vs H Q E, sp vs H Q E → vs.length = ps.length)
    (hb : ∀ (cdv : Value) (A : Around) (outer : List Env) (s : Shared) (H : Hp) (vs : List V) (Q : VK) (E : XK), Room k (A.deeper (envOfC qual (defScope st) s.heap.objs.size f cdv)) → sp vs H Q E →
      ∃ t, PSs (cxOf (CXE P w) P w K mg base N qual (defScope st) f cdv A outer s H E) (defBody st) t ∧ t { nx := fun _ H' => Q .non H', rt := Q } (start N vs) H) : FnOk P w K mg base (CXE P w) (k + 1) f fd ps sp := by
  obtain ⟨oc, od, kV, doc, pm, an, cdv, ct, osl, rfl, lk, hcd⟩ := F.ex
  exact fn_of lk hcd S len fun A outer s H vs Q E hr hsp => hb cdv A outer s H vs Q E hr hsp

/-! ### an own error class, by the text -/
abbrev bmV : List Value := [.type "ValueError", .type "Exception", .type "BaseException", .type "object"]
/-- the class at C is an error class of the text's own, under ValueError -/
def ExC (K : PySem.W.Frag) (C : Addr) : Prop := PySem.W.excIn K C bmV "ValueError.__new__" = true
theorem exC_obj {K : PySem.W.Frag} {C : Addr} (c : ExC K C) : ∃ bm N nm q bs hdct sn sub ab col dd k0 k1 k2 k3 k5, K.lookup C = some (excClassObj nm q C N bs bm hdct sn sub ab col dd k0 k1 k2 k3 k5 "ValueError.__new__") ∧
    PySem.W.clsIn K C = some ⟨nm, bs, .ref C :: bm, N, q, hdct, sn, sub, ab, col, false⟩ ∧ ∀ h : Heap, K.In h → (∃ mN, h.Ns N mN ∧ mN "__init__" = none) ∧ OwnTail h bmV bm := by
  unfold ExC PySem.W.excIn at c
  split at c
  · rename_i dd cd sl hl
    split at c
    · rename_i C1 bm k0 k1 k2 k3 n k5 hm hs
      simp only [Bool.and_eq_true, beq_iff_eq, Bool.not_eq_true'] at c
      obtain ⟨⟨⟨⟨⟨e1, e2⟩, hdel⟩, ht⟩, hok⟩, hni⟩ := c
      subst e1 e2
      obtain ⟨nm, bs, mro, ns, qn, hd, sn, sub, ab, col, del⟩ := cd
      dsimp only at hm hdel hok hni
      subst hm hdel
      have hsl : sl = #[k0, k1, k2, k3, some (.builtin "ValueError.__new__"), k5] := by
        obtain ⟨l⟩ := sl
        simp only at hs
        rw [hs]
      subst hsl
      refine ⟨bm, ns, nm, qn, bs, hd, sn, sub, ab, col, dd, k0, k1, k2, k3, k5, hl, by unfold PySem.W.clsIn; rw [hl], fun h X => ⟨⟨_, .of_isNs (PySem.W.isNs_of_in X hok), PySem.W.nsMap_none_of_in X hok hni⟩, PySem.W.tail_of_in X ht⟩⟩
    · cases c
  · cases c
/-! ### raise -/
def tRaise (C : Addr) (E : XK) (te : TE) : TS := fun _ σ H => te σ H fun _ H1 => E (.ref C) none H1
theorem ps_raise {X : Cx} {E : XK} {x : Str} {C : Addr} {e : Expr} {te : TE} {np cpos pos : Pos} (hx : Passes (CXE X.prog X.w) X E) (hh : X.A.handled = none) (hg : Gl X x) (hm : X.mg x = some (.ref C)) (c : ExC X.K C) (he : PE X e te)
    (hst : starEach [e] X.env = (false, eval e X.env) :: starEach [] X.env := by rfl) (hd : (x == ("__debug__" : Str)) = false := by decide) : PS X (.Raise (some (.Call (.Name x np) [e] [] cpos)) none pos) (tRaise C E te) := by
  intro pins s σ H D I h
  obtain ⟨bm, N, nm, q, bs, hdct, sn, sub, ab, col, dd, k0, k1, k2, k3, k5, hl, _, hf⟩ := exC_obj c
  obtain ⟨⟨mN, hN, hni⟩, T⟩ := hf X.base I.mod.kin
  refine wpAny_Raise_call_subT (C := C) (nm := nm) (q := q) (N := N) (bs := bs) (bm := bm) (hdct := hdct) (sn := sn) (sub := sub) (ab := ab) (col := col) (dd := dd) (k0 := k0) (k1 := k1) (k2 := k2) (k3 := k3) (k5 := k5)
    PySem.F.excBase_ValueError (mN := mN) (T.hasType (by decide +kernel)) hh (by rw [hst]; rfl) hni (ld_glob I hg hm ⟨rfl, ?_⟩ hd)
  rw [hst]
  refine Calls.evalArgs_plain (Calls.spliced_cons (thn (he pins s σ H _ I h) fun u s1 ⟨y, H1, I1, r1, q1⟩ => Calls.spliced_nil ?_))
  refine ⟨rfl, by show 1 ≤ sizeLine; decide, I1.kIn C _ hl, hN.keeps I1.bk, T.keeps I1.bk, fun h' ea md => ?_⟩
  exact hx pins σ H1 s1 _ _ I1 ⟨ea, _, [ea], H1, rfl, rfl, I1.bare, Un.kept md.keeps, I1.hok.kept md.keeps, Fly.made md, fun b hb => by
    rw [List.mem_singleton] at hb
    subst hb
    exact ⟨md.new, I1.hok.gone md.new⟩, q1⟩
end L2

set_option Elab.async false
set_option linter.all false
set_option maxRecDepth 100000
set_option maxHeartbeats 4000000
namespace L2
open PySem PySem.Spec PyProof.Rows QQ
/-! ## try .. except C as e -/
/-- the body of a try: the names are σ0 where an error may come -/
def cxTry (X : Cx) (pn : List (Addr × Obj)) (σ0 : St) (E : XK) : Cx := { X with
  pn := pn
  xe := fun e s' => ∃ ea cls fp H', e = .ref ea ∧ Inv { X with pn := pn } [] σ0 H' s' ∧ Fly s'.heap ea cls fp ∧ (∀ b ∈ fp, New { X with pn := pn } [] H' b) ∧ E cls none H' }
/-- the suite of the except: the error is in hand -/
def cxHand (X : Cx) (e : Addr) (o : Obj) : Cx := { X with
  A := X.A.mark (some (.ref e))
  H₀ := upd X.H₀ e (.frz o (.own e))
  xe := fun _ _ => False }
def PassesAt (CX : CXT) (X : Cx) (E : XK) (σ0 : St) : Prop := ∀ (pins : List (Addr × Obj)) (H : Hp) (s : Shared) (e : Value) (s' : Shared), Inv X pins σ0 H s → CX X.stack H s E e s' → X.xe e s'
section
variable {X : Cx} {pins pn : List (Addr × Obj)} {σ σ0 : St} {H : Hp} {s : Shared} {E : XK} {W : Value → Shared → Prop}
theorem Cx.Ok.repn (ok : X.Ok) (pn : List (Addr × Obj)) (W : Value → Shared → Prop) : Cx.Ok { X with pn := pn, xe := W } :=
  ⟨ok.mod, ok.kind, ok.glob, ok.blt, ok.above, ok.inj, ok.has, ok.cab, ok.hd, ok.frames, ok.stk, ok.exf, ok.bs, ok.bsz, ok.noex, ok.exfs, ok.funs, ok.frf⟩
theorem Cx.Ok.unpn (ok : Cx.Ok { X with pn := pn, xe := W }) : X.Ok :=
  ⟨ok.mod, ok.kind, ok.glob, ok.blt, ok.above, ok.inj, ok.has, ok.cab, ok.hd, ok.frames, ok.stk, ok.exf, ok.bs, ok.bsz, ok.noex, ok.exfs, ok.funs, ok.frf⟩
theorem Inv.lift (I : Inv X pins σ H s) (W : Value → Shared → Prop) : Inv { X with pn := X.pn ++ pins, xe := W } [] σ H s :=
  ⟨I.ok.repn _ W, I.os, I.bare, I.base, I.loc, I.cell, I.free, I.freeC, fun p hp => I.pin p (by simpa using hp), I.hok, I.len⟩
theorem Inv.unlift {pins' : List (Addr × Obj)} (I : Inv { X with pn := X.pn ++ pins, xe := W } pins' σ H s) : Inv X pins σ H s :=
  ⟨I.ok.unpn, I.os, I.bare, I.base, I.loc, I.cell, I.free, I.freeC, fun p hp => I.pin p (List.mem_append_left _ hp), I.hok, I.len⟩
theorem Inv.repn {W' : Value → Shared → Prop} (I : Inv { X with pn := pn, xe := W } pins σ H s) : Inv { X with pn := pn, xe := W' } [] σ H s :=
  ⟨I.ok.unpn.repn _ W', I.os, I.bare, I.base, I.loc, I.cell, I.free, I.freeC, fun p hp => I.pin p (by simp at hp; exact List.mem_append_left _ hp), I.hok, I.len⟩
theorem SP.unlift {D : Ends} {f : Flow} {s' : Shared} (h : SP { X with pn := X.pn ++ pins, xe := W } [] D f s') : SP X pins D f s' := by
  cases f with
  | next => obtain ⟨σ', H', I, q⟩ := h; exact ⟨σ', H', I.unlift, q⟩
  | brk => obtain ⟨σ', H', I, q⟩ := h; exact ⟨σ', H', I.unlift, q⟩
  | cont => obtain ⟨σ', H', I, q⟩ := h; exact ⟨σ', H', I.unlift, q⟩
  | ret u => obtain ⟨v, σ', H', I, r, q⟩ := h; exact ⟨v, σ', H', I.unlift, r, q⟩
theorem passT (hX : X.ex = []) : PassesAt (CXE X.prog X.w) (cxTry X pn σ0 E) E σ0 := by
  intro pins H s e s' I hx
  obtain ⟨ea, cls, fp, H', rfl, I', F, fr, q⟩ := I.thrown hx hX
  exact ⟨ea, cls, fp, H', rfl, I'.repn, F, fun b hb => let n := fr b hb; ⟨n.s0, n.h, n.loc, n.cel, fun p hp => n.pin p (by simp at hp; exact List.mem_append_left _ hp)⟩, q⟩
end
/-! ### calls in the body of a try -/
section
variable {X : Cx} {CX : CXT} {k : Nat} {f C : Addr} {fd : FuncData} {ps : List Str} {sp : Sp} {dvs : List V} {ds : List Value} {E : XK} {x m : Str} {p pos apos : Pos} {e o : Expr} {es : List Expr} {ta : TE} {t : TA} {σ0 : St}
def tAt (σ0 : St) (t : TE) : TE := fun σ H Q => σ = σ0 ∧ t σ H Q
theorem run_fnX {pins : List (Addr × Obj)} {H : Hp} {s : Shared} {Q : VK} {us : List Value} {vs : List V} (F : FnOk X.prog X.w X.K X.mg X.base CX k f fd ps sp) (hr : Room k X.A) (hb : Binds X.K fd ps ds) (hd : Vals dvs ds) (hx : PassesAt CX X E σ0)
    (I : Inv X pins σ0 H s) (r : Vals vs us) (h : sp (vs ++ dvs) H Q E) : wpAny (model X.prog X.w) X.A (call (.ref f) us) (EP X pins σ0 Q) X.xe s := by
  have r2 : Vals (vs ++ dvs) (us ++ ds) := r.append hd
  have hl : (us ++ ds).length = ps.length := by rw [← r2.length]; exact F.len _ _ _ _ h
  refine wpAny_call (codeAny_mono (F.run X.A X.stack s H ⟨us, []⟩ (us ++ ds) (vs ++ dvs) Q E hr I.env0 (hb s us I.kIn hl) r2 h) fun r s' hq => ?_)
  cases r with
  | error e => exact hx pins H s e s' I hq
  | ok fl =>
    cases fl with
    | ret u => exact I.after hq
    | next => exact False.elim hq
    | brk => exact False.elim hq
    | cont => exact False.elim hq
theorem pe_methX {pl : Sem Bool} (he : PE X o ta) (c : Cls X.K C) (hm : Meth X.K C m f) (F : FnOk X.prog X.w X.K X.mg X.base CX k f fd ps sp) (hr : Room k X.A) (hb : Binds X.K fd ps ds) (hd : Vals dvs ds) (hx : PassesAt CX X E σ0) (ha : PA X (e :: es) t)
    (hst : starEach (e :: es) X.env = (false, eval e X.env) :: starEach es X.env := by rfl) (hpl : (backTo pos (starEach es X.env)).any (·.1) = false := by rfl)
    (ht : eval (.Call (.Attribute o m apos) (e :: es) [] pos) X.env = (do
      let ov ← eval o X.env
      standAt apos.atName
      let (f, first) ← holding [ov] (getMethod ov m pl)
      callWith pos f first (backTo pos (starEach (e :: es) X.env)) (backToKw pos (keywordEach [] X.env))) := by rfl) :
    PE X (.Call (.Attribute o m apos) (e :: es) [] pos) (tAt σ0 (tMeth C m sp dvs E ta t)) := by
  intro pins s σ H Q I h
  obtain ⟨rfl, h⟩ := h
  refine PySem.W.methodCall_KW (pl := pl) (thn (he pins s σ H _ I h) fun u s1 ⟨x, H1, I1, rx, a, dx, fs, ex, ea, l, q⟩ => ?_) ht
  subst ex
  obtain rfl : u = Value.ref a := rx
  refine getmeth_ok I1 ea c hm l ?_
  refine PySem.W.callWith_K (first := [.ref a]) (h₀ := X.base) I.ok.mod.kin hm.kp (thn (ha pos pins s1 σ H1 _ I1 q) fun us s2 ⟨vs, H2, I2, r, q2⟩ => ⟨I2.kIn, ?_⟩) hst hpl
  exact run_fnX (us := .ref a :: us) (vs := .ref a :: vs) F hr hb hd hx I2 (.cons rfl r) q2
end
/-! ### the suite of the except -/
section
variable {X : Cx} {pins : List (Addr × Obj)} {σ : St} {H : Hp} {s : Shared}
/-- the error is known from here on -/
theorem Inv.hand {e : Addr} {cls : Value} {vs : Array Value} (I : Inv X pins σ H s) (n : New X pins H e) (g : s.heap.get? e = some (exO cls vs)) (h2 : vs[2]? = some Value.none) :
    Inv (cxHand X e (exO cls vs)) pins σ (upd H e (.frz (exO cls vs) (.own e))) s := by
  have neF : ∀ b ∈ X.fs, b ≠ e := fun b hb z => by
    obtain ⟨_, o, ho, _⟩ := I.ok.funs.mem hb
    rw [z, n.s0] at ho; cases ho
  have ne0 : ∀ b o, X.s₀.heap.get? b = some o → b ≠ e := fun b o q z => by rw [z, n.s0] at q; cases q
  have neB : ∀ b o, X.base.get? b = some o → b ≠ e := fun b o q => ne0 b o (I.ok.bs b o q).1
  have h0 : X.H₀ e = none ∨ True := .inr trivial
  refine ⟨⟨I.ok.mod, I.ok.kind, I.ok.glob, I.ok.blt, I.ok.above, I.ok.inj, I.ok.has, I.ok.cab, .inr ⟨e, _, vs, rfl, upd_same, rfl, h2⟩, I.ok.frames, I.ok.stk, I.ok.exf, fun b o q => ⟨(I.ok.bs b o q).1, ?_⟩, I.ok.bsz, I.ok.noex, I.ok.exfs, I.ok.funs, fun b hb => ?_⟩,
    I.os, I.bare, ⟨fun b o q z hb hx => ?_, fun b o q z hb hx => ?_, fun b o q z hx => ?_, I.base.there, fun b xs q => ?_, fun b o u q => ?_, fun b ps q => ?_⟩, I.loc, I.cell, ?_, fun x c ec => ?_, fun p hp => ?_, fun a o q => ?_, I.len⟩
  · show upd X.H₀ e _ b = none
    rw [upd_ne (neB b o q)]; exact (I.ok.bs b o q).2
  · show upd X.H₀ e _ b = none
    rw [upd_ne (neF b hb)]; exact I.ok.frf b hb
  · have z' : upd X.H₀ e (.frz (exO cls vs) (.own e)) b = none := z
    rw [upd_ne (ne0 b o q)] at z'
    exact I.base.keep b o q z' hb hx
  · have z' : upd X.H₀ e (.frz (exO cls vs) (.own e)) b = none := z
    rw [upd_ne (ne0 b o q)] at z'
    exact I.base.slot b o q z' hb hx
  · have z' : upd X.H₀ e (.frz (exO cls vs) (.own e)) b = none := z
    rw [upd_ne (ne0 b o q)] at z' ⊢
    exact I.base.free b o q z' hx
  · have q' : upd X.H₀ e (.frz (exO cls vs) (.own e)) b = some (.tup xs) := q
    by_cases hb : b = e
    · rw [hb, upd_same] at q'; cases q'
    · rw [upd_ne hb] at q' ⊢; exact I.base.tups b xs q'
  · have q' : upd X.H₀ e (.frz (exO cls vs) (.own e)) b = some (.frz o u) := q
    by_cases hb : b = e
    · rw [hb] at q' ⊢
      rw [upd_same] at q' ⊢; exact q'
    · rw [upd_ne hb] at q' ⊢; exact I.base.frzs b o u q'
  · have q' : upd X.H₀ e (.frz (exO cls vs) (.own e)) b = some (.tbl ps) := q
    by_cases hb : b = e
    · rw [hb, upd_same] at q'; cases q'
    · rw [upd_ne hb] at q' ⊢; exact I.base.tbls b ps q'
  · show upd H e _ X.env.locals = none
    rw [upd_ne (Ne.symm n.loc)]; exact I.free
  · rw [upd_ne (n.cel x c ec)]; exact I.freeC x c ec
  · obtain ⟨a1, a2, a3⟩ := I.pin p hp
    exact ⟨a1, by rw [upd_ne (n.pin p hp)]; exact a2, a3⟩
  · by_cases ha : a = e
    · subst ha
      rw [upd_same] at q
      cases q
      exact ⟨g, _, g⟩
    · rw [upd_ne ha] at q
      have nt : ∀ b u, H b = some u → b ≠ e := fun b u r z => by rw [z, n.h] at r; cases r
      exact (I.hok a o q).stay (fun b u _ r => r) (fun b r => by rw [upd_ne (nt b _ r)]; exact r) fun b xs r => by rw [upd_ne (nt b _ r)]; exact r
/-- out of the suite -/
theorem Inv.unhand {e : Addr} {o : Obj} {σ1 : St} {H1 : Hp} {s1 : Shared} (I0 : Inv X pins σ H s) (n : New X pins H e) (I : Inv (cxHand X e o) pins σ1 H1 s1) : Inv X pins σ1 H1 s1 := by
  have ne0 : ∀ b u, X.s₀.heap.get? b = some u → b ≠ e := fun b u q z => by rw [z, n.s0] at q; cases q
  have tr : ∀ b, b ≠ e → (cxHand X e o).H₀ b = X.H₀ b := fun b hb => upd_ne hb
  refine ⟨I0.ok, I.os, I.bare, ⟨fun b u q z hb hx => I.base.keep b u q ((tr b (ne0 b u q)).trans z) hb hx, fun b u q z hb hx => I.base.slot b u q ((tr b (ne0 b u q)).trans z) hb hx, fun b u q z hx => I.base.free b u q ((tr b (ne0 b u q)).trans z) hx, I.base.there, fun b xs q => ?_, fun b u v q => ?_, fun b ps q => ?_⟩, I.loc, I.cell, I.free, I.freeC, I.pin, I.hok, I.len⟩
  · refine I.base.tups b xs ((tr b fun z => ?_).trans q)
    have := I0.base.tups b xs q
    rw [z, n.h] at this; cases this
  · refine I.base.frzs b u v ((tr b fun z => ?_).trans q)
    have := I0.base.frzs b u v q
    rw [z, n.h] at this; cases this
  · refine I.base.tbls b ps ((tr b fun z => ?_).trans q)
    obtain ⟨m, this⟩ := I0.base.tbls b ps q
    rw [z, n.h] at this; cases this
/-- the error's name goes behind the suite -/
theorem Inv.nameGoes {M : Model} {A : Around} {E : Value → Shared → Prop} {Q : Unit → Shared → Prop} {i : Nat} {y : Str} {pos : Pos} (I : Inv X pins σ H s) (hN : X.N.Nodup) (hi : X.N[i]? = some y) (hl : X.env.scope.names.lookup y = some .local)
    (h : ∀ s', Inv X pins (σ.set i none) H s' → Q () s') : wpAny M A (do bindName X.env y .none; unbindBehindTheSuite X.env y pos) Q E s := by
  have hiσ : i < σ.length := by rw [I.len]; exact (List.getElem?_eq_some_iff.mp hi).1
  have hcls : (X.env.scope.kind == .class || (X.env.scope.kind == .module && X.env.locals != X.env.globals)) = false := by rw [I.ok.kind]; rfl
  have hk : X.env.kindOf y = some .local := hl
  refine wpAny_bind (wpAny_bindName (store_ok (v := .non) I hN hi (.inl hl) rfl (fun s1 I1 => ?_) (.inr hl)))
  unfold unbindBehindTheSuite
  refine wpAny_onRaise ?_
  unfold unbindName
  refine wpAny_bind (wpAny_point (wpAny_bind ?_))
  unfold deleteName
  simp only [hk, hcls]
  rw [if_neg (by decide)]
  obtain ⟨m, hn, hm⟩ := id I1.loc
  obtain ⟨u, ru, lk⟩ := hm i y .non hi (by rw [List.getElem?_set_self hiσ]) (.inl hl)
  have hmy : m y = some u := by
    rcases lk with ⟨_, q⟩ | ⟨q, _⟩
    · exact q
    · rw [hk] at q
      rcases q with q | q <;> cases q
  refine wpAny_bind (wpAny_nsDel_keeps hn fun h2 v hn2 hs2 => ?_)
  rw [hmy]
  simp only [if_true, Option.isSome_some, Bool.not_true, Bool.false_eq_true, if_false]
  refine wpAny_pure (wpAny_point (h _ ?_))
  obtain ⟨oL, _, _, hoL, _⟩ := id hn
  have ne0 : ∀ b o, X.s₀.heap.get? b = some o → b ≠ X.env.locals := fun b o e => Nat.ne_of_lt (Nat.lt_of_lt_of_le (Heap.lt_size e) I1.ok.above)
  refine ⟨I1.ok, I1.os, I1.bare, ⟨fun b o e n hb hx => (hs2.2 b (ne0 b o e)).trans (I1.base.keep b o e n hb hx), fun b o e n hb hx => ?_, I1.base.free, fun b o e hx => ?_, I1.base.tups, I1.base.frzs, I1.base.tbls⟩, ⟨_, hn2, fun j z v' e1 e2 e3 => ?_⟩, fun z c e => ?_, I1.free, I1.freeC, fun p hp => ?_, fun b ob e => ?_, by simpa using I.len⟩
  · obtain ⟨sl, e1⟩ := I1.base.slot b o e n hb hx
    exact ⟨sl, (hs2.2 b (ne0 b o e)).trans e1⟩
  · obtain ⟨o', e1⟩ := I1.base.there b o e hx
    exact ⟨o', (hs2.2 b (ne0 b o e)).trans e1⟩
  · have hj : j ≠ i := fun q => by rw [q, List.getElem?_set_self hiσ] at e2; cases e2
    rw [List.getElem?_set_ne (Ne.symm hj)] at e2
    obtain ⟨u', r', q⟩ := hm j z v' e1 (by rw [List.getElem?_set_ne (Ne.symm hj)]; exact e2) e3
    refine ⟨u', r', ?_⟩
    rcases q with ⟨kk, e⟩ | ⟨kk, c, e, zz⟩
    · refine .inl ⟨kk, ?_⟩
      have : z ≠ y := fun q => hj (nodup_ix hN e1 (q ▸ hi))
      simp [this, e]
    · exact .inr ⟨kk, c, e, zz.sameBut hs2 (I1.cne z c e)⟩
  · obtain ⟨w', q⟩ := I1.cell z c e
    exact ⟨w', q.sameBut hs2 (I1.cne z c e)⟩
  · obtain ⟨e, n, ne, nf, d⟩ := I1.pin p hp
    exact ⟨(hs2.2 p.1 ne).trans e, n, ne, nf, d⟩
  · refine (I1.hok b ob e).stay (fun c w' hc q => (hs2.2 c fun z => ?_).trans q) (fun _ q => q) fun _ _ q => q
    rcases hc with hc | hc
    · rw [← hc, z, I1.free] at e; cases e
    · rw [z, I1.free] at hc; cases hc
end
/-! ### the rule -/
/-- what is wanted behind the suite: the error's name is gone -/
def Dx (i : Nat) (D : Ends) : Ends := ⟨fun σ H => D.nx (σ.set i none) H, D.rt, fun σ H => D.bk (σ.set i none) H, fun σ H => D.ct (σ.set i none) H⟩
/-- try: body; except D as e: suite. An error of the class C, one of D's, is caught -/
def tTry (K : PySem.W.Frag) (D0 : Addr) (i : Nat) (tb : St → XK → TS) (th : TS) : TS := fun D σ H =>
  tb σ (fun cls _ H' => ∃ C, cls = .ref C ∧ ExC K C ∧ C ≠ D0 ∧ PySem.W.mroIn K C (.ref D0) = some true ∧
    ∀ e vs, H' e = none → th (Dx i D) (σ.set i (some (.ref e))) (upd H' e (.frz (exO (.ref C) vs) (.own e)))) D σ H
theorem ps_try {X : Cx} {x y : Str} {i : Nat} {D0 : Addr} {b₀ : Stmt} {body suite : List Stmt} {tb : St → XK → TS} {th : TS} {np hpos pos : Pos} (hN : X.N.Nodup) (hi : X.N[i]? = some y) (hl : X.env.scope.names.lookup y = some .local)
    (hg : Gl X x) (hm : X.mg x = some (.ref D0)) (hD : ExC X.K D0) (hst : X.stack = X.env :: X.outer) (hfr : X.env.frame = some X.env.locals) (hX : X.ex = [])
    (hb : ∀ pn σ0 E, PSs (cxTry X pn σ0 E) body (tb σ0 E)) (hh : ∀ e o, PSs (cxHand X e o) (b₀ :: suite) th) (hd : (x == ("__debug__" : Str)) = false := by decide) :
    PS X (.Try body [.ExceptHandler (some (.Name x np)) (some y) (b₀ :: suite) hpos] [] [] pos) (tTry X.K D0 i tb th) := by
  intro pins s σ H D I h
  refine wpAny_Try_except (wpAny_mono (hb (X.pn ++ pins) σ _ [] s σ H D (I.lift _) h) (fun f s1 q => ?_) fun e s1 q => ?_)
  · have q' : SP X pins D f s1 := SP.unlift q
    cases f with
    | next => exact wpAny_execs_nil q'
    | brk => exact q'
    | cont => exact q'
    | ret u => exact q'
  · obtain ⟨ea, cls, fp, H', rfl, I1, F, fr, C, rfl, cC, hne, hmro, q⟩ := q
    have I1 : Inv X pins σ H' s1 := Inv.unlift (W := X.xe) I1
    have fr : ∀ b ∈ fp, New X pins H' b := fun b hb => let n := fr b hb; ⟨n.s0, n.h, n.loc, n.cel, fun p hp => n.pin p (by simpa using hp)⟩
    have hf : X.A.frames = some (X.env :: X.outer) := hst ▸ I1.ok.frames
    refine land hf (hst ▸ I1.stack) hfr F fun h' T F' hT f3 f4 f5 => ?_
    have I2 := I1.landed fr (by rw [hst]; exact f3) f4 f5
    have nE : New X pins H' ea := fr ea F.here
    have nT : New X pins H' T := I1.new (by
      cases z : s1.heap.get? T with
      | none => rfl
      | some o => exact absurd (Nat.lt_of_lt_of_le (Heap.lt_size z) hT) (Nat.lt_irrefl _)) (I1.hok.fresh hT) (by rw [hX]; simp)
    obtain ⟨vs, ge, z2, ⟨_, r⟩ | ⟨T', oT, ts, _, neT, _, _, _, r⟩⟩ := id F'
    · cases r
    · cases r
      have q := q ea vs nE.h
      have I3 := I2.hand nE ge z2
      generalize hH3 : upd H' ea (.frz (exO (.ref C) vs) (.own ea)) = H3 at *
      have neq : (cxHand X ea (exO (.ref C) vs)).A = X.A.mark (some (.ref ea)) := rfl
      refine wpAny_handleBy_cons (codeAny_handlers_test (ld_glob (X := cxHand X ea (exO (.ref C) vs)) I3 hg hm ?_ hd)) (by intro q; cases q)
      obtain ⟨bm, N, nm, qn, bs, hdct, sn, sub, ab, col, dd, k0, k1, k2, k3, k5, hlC, hcC, _⟩ := exC_obj cC
      obtain ⟨bm', N', nm', qn', bs', hdct', sn', sub', ab', col', dd', j0, j1, j2, j3, j5, hlD, _, hfD⟩ := exC_obj hD
      have hmem : (Value.ref C :: bm).contains (.ref D0) = true := by
        unfold PySem.W.mroIn at hmro
        rw [hcC] at hmro
        simpa using hmro
      have T' := (hfD _ I2.kIn).2
      obtain ⟨hh1, gg, dr, tk, os1⟩ := s1
      refine exc_matches (I2.kIn C _ hlC) (I2.kIn D0 _ hlD) ge rfl (T'.hasType (by decide +kernel)) hmem hne (codeAny_handlers_suite_as ?_)
      refine land_again F' fun h4 F4 k4 => ?_
      have nT3 : New (cxHand X ea (exO (.ref C) vs)) pins H3 T := ⟨nT.s0, by rw [← hH3, upd_ne neT]; exact nT.h, nT.loc, nT.cel, nT.pin⟩
      have I4 := I3.landed (h' := h4) (fp := [T]) (fun b hb => by rw [List.mem_singleton] at hb; rw [hb]; exact nT3) (fun b o g hb _ => k4 b o g fun z => hb (by simp [z])) (fun b o g hb => ⟨o.slots, k4 b o g fun z => hb (by simp [z])⟩) (fun b o g => by
        by_cases hb : b = T
        · obtain ⟨o', us, g', _⟩ := F4.rec T (by simp)
          exact ⟨o', by rw [hb]; exact g'⟩
        · exact ⟨o, k4 b o g hb⟩)
      refine store_ok (X := cxHand X ea (exO (.ref C) vs)) (v := .ref ea) I4 hN hi (.inl hl) rfl (fun s5 I5 => ?_) (.inr hl)
      refine wpAny_mono (hh ea (exO (.ref C) vs) pins s5 _ H3 (Dx i D) I5 q) (fun f s6 q6 => ?_) fun _ _ z => False.elim z
      cases f with
      | next =>
        obtain ⟨σ6, H6, I6, q7⟩ := q6
        exact (Inv.unhand I2 nE I6).nameGoes hN hi hl fun s' I8 => ⟨_, _, I8, q7⟩
      | brk =>
        obtain ⟨σ6, H6, I6, q7⟩ := q6
        exact (Inv.unhand I2 nE I6).nameGoes hN hi hl fun s' I8 => ⟨_, _, I8, q7⟩
      | cont =>
        obtain ⟨σ6, H6, I6, q7⟩ := q6
        exact (Inv.unhand I2 nE I6).nameGoes hN hi hl fun s' I8 => ⟨_, _, I8, q7⟩
      | ret u =>
        obtain ⟨v, σ6, H6, I6, r, q7⟩ := q6
        exact (Inv.unhand I2 nE I6).nameGoes hN hi hl fun s' I8 => ⟨v, _, _, I8, r, q7⟩
theorem Room.hand {j k : Nat} {A : Around} {v : Option Value} (r : Room k A) (h : j ≤ k) (h30 : j < 30) : Room j (A.mark v) :=
  ⟨fun z => absurd z (Nat.not_le.mpr h30), by have := r.dp; show A.depth + _ + 5 < _; omega, by have := r.un; show A.units + _ + 200 < _; omega⟩
/-! ### isinstance of an error in hand -/
/-- what of the text an error class must have for isinstance -/
structure ExI (K : PySem.W.Frag) (C : Addr) : Prop where
  ga : PySem.W.findIn K (.ref C) "__getattribute__" = some (some (.builtin "BaseException.__getattribute__"))
  gt : PySem.W.findIn K (.ref C) "__getattr__" = some none
  hd : PySem.W.hasDictIn K C = true
  ha : PySem.W.findIn K (.ref C) "__class__" = some (some (.builtin "object.__class__"))
  hn : PySem.W.specialIn K (.builtin "object.__class__") "__get__" = some (some (.builtin "getset_descriptor.__get__"))
  htk : PySem.W.takesIn K (.builtin "object.__class__") = some true
  hm : PySem.W.mroIn K C (.type "object") = some true
  be : PySem.W.mroIn K C (.type "BaseException") = some true
theorem ga_check {M : Model} {A : Around} {E : Value → Shared → Prop} {h : Heap} {g : Array GenState} {d : Drawn} {t : Nat} {os : OsState} {x : Addr} {nv : Value} {Q : Unit → Shared → Prop} (L : PySem.W.Looks M h (isInstance (.ref x) (.type "BaseException")) true)
    (hq : Q () ⟨h, g, d, t, os⟩) : wpAny M A (checkBuiltinCall "BaseException.__getattribute__" ⟨[.ref x, nv], []⟩) Q E ⟨h, g, d, t, os⟩ := by
  have hk : builtinKind "BaseException.__getattribute__" = some .slot := by decide +kernel
  have hsplit : splitId "BaseException.__getattribute__" = some ("BaseException", "__getattribute__") := by decide +kernel
  have ha := PySem.F.args_bexc_ga (.ref x) nv
  simp only [checkBuiltinCall, hk, hsplit]
  refine wpAny_bind (L.at ?_)
  repeat (first | exact hq | wp_step)
theorem ga_entry {prog : Program} {w : World} {A : Around} {E : Value → Shared → Prop} {h : Heap} {g : Array GenState} {d : Drawn} {t : Nat} {os : OsState} {K : PySem.W.Frag} {x C : Addr} {ox : Obj} {tk : Tok} {Q : Fin → Shared → Prop} (Y : K.In h) (I : PySem.W.InstAt h x ox C none)
    (L3 : PySem.W.Looks (model prog w) h (Builtin.ObjectAttr.find (.ref x) (.ref C) "__class__") (.bind (.builtin "getset_descriptor.__get__") (.builtin "object.__class__"))) (hm : PySem.W.mroIn K C (.type "object") = some true)
    (hq : Q (.done (.ret (.ref C))) ⟨h, g, d, t, os⟩) : wpAny (model prog w) A (Builtin.«object.__getattribute__» ⟨[.ref x, .str "__class__" tk], []⟩) Q E ⟨h, g, d, t, os⟩ := by
  have L0 := I.type (M := model prog w)
  refine wpAny_bind (wpAny_bind (wpAny_pure (wpAny_pure ?_)))
  refine wpAny_bind (wpAny_pure (wpAny_bind (L0.at (wpAny_bind (L3.at ?_)))))
  show wpAny _ _ (holding [Value.builtin "object.__class__"] (call (.builtin "getset_descriptor.__get__") [.builtin "object.__class__", .ref x, .ref C]) >>= ret) _ _ _
  exact wpAny_bind (wpAny_holding (wpAny_call (PySem.W.class_get (s := ⟨h, g, d, t, os⟩) (ox := ox) (od := none) Y I hm (wpAny_pure hq))))
theorem exc_class {prog : Program} {w : World} {A : Around} {E : Value → Shared → Prop} {s : Shared} {K : PySem.W.Frag} {x C : Addr} {ox : Obj} {Q : Option Value → Shared → Prop} (c : ExI K C) (Y : K.In s.heap) (I : PySem.W.InstAt s.heap x ox C none)
    (h : Q (some (.ref C)) { s with toks := s.toks + 1 }) : wpAny (model prog w) A (getAttr? (.ref x) "__class__") Q E s := by
  have hf : PySem.W.findObj K C none "__class__" = some (.bind (.builtin "getset_descriptor.__get__") (.builtin "object.__class__")) := by
    obtain ⟨cd, hc, _⟩ := PySem.W.any_some c.hd
    unfold PySem.W.findObj
    rw [hc, Option.bind_some, c.ha, Option.bind_some]
    simp [c.hn, c.htk]
  obtain ⟨hh, g, d, t, os⟩ := s
  have L0 := I.type (M := model prog w)
  have L1 := PySem.W.looks_findIn (M := model prog w) Y c.ga
  have L2 := PySem.W.looks_findIn (M := model prog w) Y c.gt
  have L3 := PySem.W.looks_find (M := model prog w) Y I hf
  have L4 := PySem.W.looks_mroIn (M := model prog w) Y c.be
  unfold getAttr? getAttrBy? getAttrBy
  refine wpAny_bind (wpAny_mkText (wpAny_bind (wpAny_attempt (wpAny_holding (wpAny_bind (L0.at (wpAny_bind (L1.at ?_))))))))
  show wpAny _ _ (getAttrByItsOwn _ _ _ _ _ _) _ _ _
  unfold getAttrByItsOwn
  refine wpAny_bind (show wpAny _ _ (typeLookup (.ref C) "__getattr__") _ _ _ from L2.at ?_)
  refine wpAny_bind (wpAny_attempt (wpAny_holding ?_))
  show wpAny _ _ (boundAndCalled _ _ _) _ _ _
  unfold boundAndCalled
  refine wpAny_bind (wpAny_of_eq (PySem.F.attr_ValueError.ga.bind _) ?_)
  refine wpAny_call (codeAny_call_builtin PySem.F.attr_ValueError.ga.plain PySem.F.entry_bexc_ga ?_)
  refine ga_check (L0.andThen L4) (ga_entry Y I L3 c.hm ?_)
  show wpAny _ _ (handedOut (.ref C)) _ _ _
  exact wpAny_pure (wpAny_pure h)
theorem kitx_err {K : PySem.W.Frag} {x C : Addr} {vs : Array Value} (c : ExI K C) : PySem.W.KitX K (.ref x) (.ref C) (fun h => PySem.W.InstAt h x (exO (.ref C) vs) C none) where
  ty := fun _ _ _ I => I.type
  it := fun M h Y _ => by
    obtain ⟨cd, hc, _⟩ := PySem.W.any_some c.hd
    unfold PySem.W.clsIn at hc
    split at hc
    · rename_i ho
      intro A' Q' E' s' k q
      unfold isType loadHead
      exact wpAny_bind (wpAny_loadPart (k _ _ (Y _ _ ho)) (wpAny_pure q))
    · cases hc
  ne := fun h tp dd its n sl Y htp => by
    obtain ⟨cd, hc, _⟩ := PySem.W.any_some c.hd
    refine Bool.eq_false_iff.mpr fun q => ?_
    have e : C = tp := Value.ref.inj (beq_iff_eq.mp q)
    subst e
    unfold PySem.W.clsIn at hc
    split at hc
    · rename_i ho
      have z := (Y _ _ ho).symm.trans htp
      cases z
    · cases hc
  ca := fun Y I k => exc_class c Y I k
section
variable {X : Cx}
/-- the class, own or built-in, as a value -/
def clsV : Value → V
  | .ref a => .ref a
  | .type n => .ty n
  | _ => .non
theorem call_isiE : CallR X (.builtin "isinstance") (fun xs H Q => ∃ a C vs c b, xs = [.ref a, clsV c] ∧ (∃ n, c = .ref n ∨ ∃ t, c = .type t) ∧ H a = some (.frz (exO (.ref C) vs) (.own a)) ∧ ExI X.K C ∧ PySem.W.kitOne X.K (.ref C) c = some b ∧ Q (.bl b) H) := by
  intro pins s σ H xs us Q I r h
  obtain ⟨a, C, vs, c, b, rfl, hc, hf, ci, e, q⟩ := h
  obtain ⟨u, v, rfl, ru, rv⟩ := vals2 r
  cases ru
  have ev : v = c := by
    obtain ⟨n, hc | ⟨t, hc⟩⟩ := hc
    · subst hc; exact rv
    · subst hc; exact rv
  subst ev
  obtain ⟨g, _⟩ := I.hok a _ hf
  exact PySem.W.kia_one (kitx_err (vs := vs) ci) I.kIn ⟨g, rfl, rfl, trivial⟩ e (fun z => nomatch z) fun tk => ⟨.bl b, H, I.tok tk, rfl, q⟩
end
end L2

set_option Elab.async false
set_option linter.all false
set_option maxRecDepth 100000
set_option maxHeartbeats 4000000
namespace L2
open PySem PySem.Spec PyProof.Rows QQ
/-! ## comprehensions with a test -/
section
variable {prog : Program} {w : World} {A : Around} {R : Result → Shared → Prop} {s : Shared}
theorem compI_loop {elt cnd target iter : Expr} {scope : Scope} {pos : Pos} {it acc : Value} {env : Env} (J : Nat → Shared → Prop)
    (turn : ∀ n z, J n z → wpAny (model prog w) A (pyNext it) (fun r z1 => match r with
      | none => R (.ok .next) z1
      | some v => wpAny (model prog w) A (letOwnedTupleGo target it v) (fun _ z2 => wpAny (model prog w) A (assign target env v) (fun _ z3 => wpAny (model prog w) A (isTrue cnd env (eval cnd env)) (fun b z6 => if b = true then wpAny (model prog w) A (eval elt env) (fun x z4 =>
          wpAny (model prog w) A (call (.builtin "list.append") [acc, x]) (fun _ z5 => ∃ m, m < n ∧ J m z5)
            (notedBy (model prog w) A env fun e s' => R (.error e) s') z4) (notedBy (model prog w) A env fun e s' => R (.error e) s') z6 else ∃ m, m < n ∧ J m z6) (notedBy (model prog w) A env fun e s' => R (.error e) s') z3)
            (notedBy (model prog w) A env fun e s' => R (.error e) s') z2) (notedBy (model prog w) A env fun e s' => R (.error e) s') z1) (notedBy (model prog w) A env fun e s' => R (.error e) s') z)
    (n : Nat) (h : J n s) : codeAny (model prog w) A (.compLoop (.ListComp elt [⟨target, iter, [cnd], 0⟩] scope pos) 0 it acc env) R s := by
  refine codeAny_loop rfl J (fun k z hz => ?_) n h
  show wpAny _ _ ((compTurn (.ListComp elt [⟨target, iter, [cnd], 0⟩] scope pos) 0 it acc env).onRaise (fun q => do noteFrame q env; theTreesLotGoes q)) _ _ z
  refine wpAny_noted ?_
  rw [compTurn_list]
  refine wpAny_bind (wpAny_standAt (wpAny_bind (wpAny_mono (turn k z hz) (fun r z1 g1 => ?_) fun _ _ q => q)))
  cases r with
  | none => exact wpAny_pure g1
  | some v =>
    refine wpAny_bind (wpAny_mono g1 (fun _ z2 g2 => wpAny_bind (wpAny_mono g2 (fun _ z3 g3 => ?_) fun _ _ q => q)) fun _ _ q => q)
    refine wpAny_bind (wpAny_tests_one (wpAny_mono g3 (fun b z6 g6 => ?_) fun _ _ q => q))
    cases b with
    | false => exact wpAny_pure ⟨rfl, g6⟩
    | true => exact wpAny_bind (wpAny_bind (wpAny_mono g6 (fun x z4 g4 => wpAny_bind (wpAny_mono g4 (fun _ z5 g5 => wpAny_pure (wpAny_pure ⟨rfl, g5⟩)) fun _ _ q => q)) fun _ _ q => q))
end
/-- [elt for target in iter if cnd] -/
def tCompI (n : Nat) (wi : TI) (g : TG) (tt : TT) (te : TE) : TE := fun σ H Q => wi σ H fun J H1 => ∀ l, H1 l = none → ∃ W : Nat → Nat → List V → St → Hp → Prop,
  (∃ m, W 0 m [] (List.replicate n none) (upd H1 l (.lst []))) ∧ ∀ i m ys σ' H', W i m ys σ' H' →
    (J.stop i H' ∧ Q (.ref l) H') ∨ (J.go i H' ∧ ∀ x H2, J.yld i H' x H2 → g x σ' H2 fun σ3 H3 => tt σ3 H3 fun c H5 => if c = true then te σ3 H5 fun y H4 =>
      H4 l = some (.lst ys) ∧ ys.length < sizeLine ∧ ∃ m', m' < m ∧ W (i + 1) m' (ys ++ [y]) σ3 (upd H4 l (.lst (ys ++ [y]))) else ∃ m', m' < m ∧ W (i + 1) m' ys σ3 H5)
section
variable {X : Cx} {N : List Str} {scope : Scope} {elt cnd target iter : Expr} {pos : Pos} {wi : TI} {g : TG} {tt : TT} {te : TE}
theorem compI_core {pins : List (Addr × Obj)} {σ : St} {H : Hp} {s : Shared} {Q : VK} {RR : Value → Env → Result → Shared → Prop}
    (hc : X.calm = true) (hkind : scope.kind = .function) (hfree : ∀ x ∈ scope.names, x.2 ≠ .free) (hcell : ∀ x ∈ scope.names, x.2 ≠ .cell)
    (hi : PI X target iter wi) (hg : ∀ fp s H, PG (cxComp X N scope fp s H) target g) (ht : ∀ fp s H, PT (cxComp X N scope fp s H) cnd tt) (he : ∀ fp s H, PE (cxComp X N scope fp s H) elt te)
    (I : Inv X pins σ H s) (h : tCompI N.length wi g tt te σ H Q)
    (hR : ∀ (l C : Addr) (H' : Hp) (s' : Shared), Inv X pins σ H' s' → FpOk X pins H' C → (∃ m, s'.heap.Ns C m) → Q (.ref l) H' → RR (.ref l) (compEnv scope C X.env) (.ok .next) s') :
    wpAny (model X.prog X.w) X.A (eval iter X.env) (fun x s₁ => wpAny (model X.prog X.w) X.A (pyIter x) (fun it s₂ => wpAny (model X.prog X.w) X.A (newList []) (fun acc s₃ =>
      wpAny (model X.prog X.w) X.A (newFunctionEnv scope X.env.globals [] [] X.env.qual none .none (some X.env)) (fun cenv s₄ =>
        codeAny (model X.prog X.w) X.A (.compStart (.ListComp elt [⟨target, iter, [cnd], 0⟩] scope pos) 0 it acc { cenv with scope := scope }) (RR acc { cenv with scope := scope }) s₄) X.xe s₃) X.xe s₂) X.xe s₁) X.xe s := by
  refine thn (hi pins s σ H _ I h) fun v s1 h1 => thn h1 fun itv s2 h2 => ?_
  obtain ⟨it, fp, tn, J, H2, e, I2, T, st2, f2, hw⟩ := h2
  subst e
  have hl2 : H2 s2.heap.objs.size = none := I2.hok.fresh (Nat.le_refl _)
  obtain ⟨W, ⟨m0, w0⟩, turn⟩ := hw s2.heap.objs.size hl2
  have lt2 : ∀ b ∈ fp, b < s2.heap.objs.size := fun b hb => let ⟨o, e, _⟩ := T.obj _ _ st2 b hb; Heap.lt_size e
  refine wpAny_newList ?_
  have I3 : Inv X pins σ (upd H2 s2.heap.objs.size (.lst [])) { s2 with heap := s2.heap.push { cls := .type "list", data := .seq ([] : List Value).toArray } } :=
    I2.laid (t' := s2.toks) (fun b u e => Heap.get?_push_of_some _ e) (Nat.le_refl _) ⟨Nat.zero_le _, [], 0, .nil, Heap.get?_push_size _ rfl⟩
  have st3 : tn 0 (s2.heap.push { cls := .type "list", data := .seq ([] : List Value).toArray }) := T.keep _ _ _ st2 fun b hb o e => Heap.get?_push_of_some _ e
  have lt3 : ∀ b ∈ fp, b < (s2.heap.push { cls := .type "list", data := .seq ([] : List Value).toArray }).objs.size := fun b hb => by rw [Heap.size_push]; exact Nat.lt_succ_of_lt (lt2 b hb)
  have f3 : ∀ b ∈ fp, FpOk X pins (upd H2 s2.heap.objs.size (.lst [])) b := fun b hb => ⟨by rw [upd_ne (Nat.ne_of_lt (lt2 b hb))]; exact (f2 b hb).1, (f2 b hb).2⟩
  generalize s2.heap.objs.size = l at *
  generalize upd H2 l (.lst []) = H3 at *
  have hs3 : ∃ s3 : Shared, s3 = { s2 with heap := s2.heap.push { cls := .type "list", data := .seq ([] : List Value).toArray } } := ⟨_, rfl⟩
  obtain ⟨s3, e3⟩ := hs3
  rw [← e3] at I3
  rw [← e3]
  have st3 : tn 0 s3.heap := by rw [e3]; exact st3
  have lt3 : ∀ b ∈ fp, b < s3.heap.objs.size := by rw [e3]; exact lt3
  clear e3
  refine wpAny_newFunctionEnv hcell (by intro y hy; simp at hy) (fun h4 hns hsb => ?_) hkind
  have kp : ∀ b o, s3.heap.get? b = some o → h4.get? b = some o := fun b o e => hsb.extBut b o (Nat.ne_of_lt (Heap.lt_size e)) (Heap.get?_push_of_some _ e)
  have I4 := inv_comp (N := N) (t' := s3.toks + ([] : List (Str × Value)).length) I3 hkind hfree hcell f3 lt3 hns kp
  have st4 : tn 0 h4 := T.keep _ _ _ st3 fun b hb o e => kp b o e
  have stat : ∀ {H' : Hp}, (∀ b ∈ fp, H' b = none) → ∀ b ∈ fp, FpOk (cxComp X N scope fp s3 H3) [] H' b := fun hn b hb =>
    ⟨hn b hb, (I4.ok.exf b hb).1, I4.ok.exfs b hb, .inl hb, fun x c e => (comp_nocell e).elim, fun p hp => absurd (show p ∈ ([] : List (Addr × Obj)) from hp) (by simp)⟩
  have loop : codeAny (model X.prog X.w) X.A (.compLoop (.ListComp elt [⟨target, iter, [cnd], 0⟩] scope pos) 0 (.ref it) (.ref l) (compEnv scope s3.heap.objs.size X.env)) (RR (.ref l) (compEnv scope s3.heap.objs.size X.env))
      { s3 with heap := h4, toks := s3.toks + ([] : List (Str × Value)).length } := by
    refine compI_loop (fun n s' => ∃ i ys σ' H', Inv (cxComp X N scope fp s3 H3) [] σ' H' s' ∧ tn i s'.heap ∧ (∀ b ∈ fp, H' b = none) ∧ W i n ys σ' H') ?_ m0 ⟨0, [], _, _, I4, st4, fun b hb => (f3 b hb).1, w0⟩
    rintro n s5 ⟨i, ys, σ5, H5, I5, st5, fr5, w5⟩
    rcases turn i n ys σ5 H5 w5 with ⟨stop, q⟩ | ⟨go, step⟩
    · refine thn (T.done (cxComp X N scope fp s3 H3) rfl rfl rfl hc i [] s5 σ5 H5 _ I5 (stat fr5) st5 stop) fun r s6 ⟨hr, I6⟩ => ?_
      subst hr
      exact hR _ _ _ _ (comp_back I3 f3 I6) (I3.fpOk (Nat.le_refl _) I6.free) (let ⟨m, hn, _⟩ := I6.loc; ⟨m, hn⟩) q
    · refine thn (T.item (cxComp X N scope fp s3 H3) rfl rfl rfl hc i [] s5 σ5 H5 _ I5 (stat fr5) st5 go) fun r s6 ⟨u, hr, h6⟩ => ?_
      subst hr
      refine thn h6 fun _ s7 ⟨x, H7, I7, r7, y7, st7, fr7⟩ => ?_
      have I7' := I7.pinned (stat fr7) (T.obj _ _ st7)
      refine wpAny_mono (hg fp s3 H3 _ s7 σ5 H7 x u _ I7' r7 (step x H7 y7)) (fun _ s8 ⟨σ8, H8, I8, q8⟩ => ?_) (fun _ _ z => False.elim z)
      refine wpAny_mono (ht fp s3 H3 _ s8 σ8 H8 _ I8 q8) (fun bb s85 ⟨H85, I85, q85⟩ => ?_) (fun _ _ z => False.elim z)
      cases bb with
      | false =>
        rw [if_neg Bool.false_ne_true] at q85 ⊢
        obtain ⟨m', hm', w9⟩ := q85
        refine ⟨m', hm', i + 1, ys, σ8, H85, I85.unpinned, T.keep _ _ _ st7 fun b hb o e => (I85.pin (b, o) (List.mem_append_right _ (List.mem_append_right _ (mem_pinsAt hb e)))).1, fun b hb => ?_, w9⟩
        obtain ⟨o, e, d⟩ := T.obj _ _ st7 b hb
        exact (I85.pin (b, o) (List.mem_append_right _ (List.mem_append_right _ (mem_pinsAt hb e)))).2.1
      | true =>
      rw [if_pos rfl] at q85 ⊢
      refine wpAny_mono (he fp s3 H3 _ s85 σ8 H85 _ I85 q85) (fun v s9 ⟨y, H9, I9, r9, hl9, hz9, m', hm', w9⟩ => ?_) (fun _ _ z => False.elim z)
      refine wpAny_mono (mt_append (X := cxComp X N scope fp s3 H3) _ s9 σ8 H9 (.ref l) [y] (.ref l) [v] (fun z Hz => Hz = upd H9 l (.lst (ys ++ [y]))) I9 rfl (.cons r9 .nil) ⟨l, ys, y, rfl, rfl, hl9, hz9, rfl⟩)
        (fun _ s10 ⟨z, Hz, I10, _, eH⟩ => ?_) (fun _ _ z => False.elim z)
      subst eH
      refine ⟨m', hm', i + 1, ys ++ [y], σ8, _, I10.unpinned, T.keep _ _ _ st7 fun b hb o e => (I10.pin (b, o) (List.mem_append_right _ (List.mem_append_right _ (mem_pinsAt hb e)))).1, fun b hb => ?_, w9⟩
      obtain ⟨o, e, d⟩ := T.obj _ _ st7 b hb
      exact (I10.pin (b, o) (List.mem_append_right _ (List.mem_append_right _ (mem_pinsAt hb e)))).2.1
  exact codeAny_compStart_list loop (T.self X.A 0 _ _ _ st4 loop)
theorem ps_setCI {i : Nat} {y : Str} {py spos : Pos} (hN : X.N.Nodup) (hiy : X.N[i]? = some y) (hy : Loc X.env.scope y)
    (hc : X.calm = true) (hkind : scope.kind = .function) (hfree : ∀ x ∈ scope.names, x.2 ≠ .free) (hcell : ∀ x ∈ scope.names, x.2 ≠ .cell) (hnames : ∀ x ∈ scope.names, x.2 = .local → scope.names.lookup x.1 = some .local)
    (hi : PI X target iter wi) (hg : ∀ fp s H, PG (cxComp X N scope fp s H) target g) (ht : ∀ fp s H, PT (cxComp X N scope fp s H) cnd tt) (he : ∀ fp s H, PE (cxComp X N scope fp s H) elt te)
    (hsw : swapsWith (.ListComp elt [⟨target, iter, [cnd], 0⟩] scope pos) (some (.Name y py)) spos.line X.env = pure true)
    (hs : ∀ x, foldedSetIterable iter X.env x = pure x := by intro _; rfl) (hf : X.fn y = true ∨ X.env.scope.names.lookup y = some .local := by first | exact .inl rfl | exact .inr rfl | assumption) :
    PS X (.Assign [.Name y py] (.ListComp elt [⟨target, iter, [cnd], 0⟩] scope pos) spos) (tSetC i (tCompI N.length wi g tt te)) := by
  intro pins s σ H D I h
  rw [exec_Assign_Name_used _ _ _ _ hsw]
  refine wpAny_bind (wpAny_standAt (wpAny_bind ?_))
  show wpAny _ X.A (do let _ ← comprehension (.ListComp elt [⟨target, iter, [cnd], 0⟩] scope pos) scope X.env _ (newList []) false (eval iter X.env) (some (assign (.Name y py) X.env))) _ _ s
  refine wpAny_bind (wpAny_mono (wpAny_comprehension_use (Q := fun _ s' => SP X pins D .next s') rfl hs hfree hkind hnames (compI_core (RR := fun acc cenv r s' => match r with
      | .ok _ => wpAny (model X.prog X.w) X.A (assign (.Name y py) X.env acc) (fun _ s'' => ∃ m, s''.heap.Ns cenv.locals m ∧ ∀ h', Heap.SameBut cenv.locals s''.heap h' → SP X pins D .next { s'' with heap := h' }) X.xe s'
      | .error x => ∃ m, s'.heap.Ns cenv.locals m ∧ ∀ h', Heap.SameBut cenv.locals s'.heap h' → wpAny (model X.prog X.w) X.A (passOn "comprehension.variables-let-go" x cenv) (fun _ s' => SP X pins D .next s') X.xe { s' with heap := h' })
      hc hkind hfree hcell hi hg ht he I h ?_)) (fun _ s' hq => wpAny_pure (wpAny_pure hq)) fun _ _ e => e)
  rintro l C H' s' I' fC ⟨m, hn⟩ q
  refine wpAny_assign_Name (store_ok2 (v := .ref l) I' hN hiy hy (show RelV (.ref l) (.ref l) from rfl) (fun s2 I2 ⟨a, sb, ha⟩ => ?_) hf)
  have hCa : C ≠ a := by
    rcases ha with ha | ha
    · rw [ha]; exact fC.2.1
    · exact Ne.symm (fC.2.2.2.2.1 y a ha)
  exact ⟨m, hn.sameBut sb hCa, fun h' sb' => ⟨_, H', I2.turned (t' := s2.toks) (fun b o hb e => (sb'.2 b hb).trans e) fC.1 fC.2.1 fC.2.2.2.1 fC.2.2.2.2.1 fC.2.2.2.2.2, q⟩⟩
end
/-- over a list, the element a value that is kept or not -/
theorem compI_li {K : PySem.W.Frag} {a l : Addr} {xs : List V} {n : Nat} {g : TG} {tt : TT} {te : TE} {R : Hp → Prop} {H1 : Hp} (Pv : Nat → List V → Hp → Prop) (h0 : Pv 0 [] (upd H1 l (.lst []))) (hl : ∀ i ys H, i ≤ xs.length → Pv i ys H → SqL K H a xs)
    (hs : ∀ i x ys σ H, xs[i]? = some x → Pv i ys H → σ.length = n → g x σ H fun σ3 H3 => tt σ3 H3 fun c H5 => if c = true then te σ3 H5 fun y H4 => H4 l = some (.lst ys) ∧ ys.length < sizeLine ∧ σ3.length = n ∧ Pv (i + 1) (ys ++ [y]) (upd H4 l (.lst (ys ++ [y]))) else σ3.length = n ∧ Pv (i + 1) ys H5)
    (hd : ∀ ys H, Pv xs.length ys H → R H) (mg : ∀ x σ H (A B : St → Hp → Prop), (∀ σ' H', A σ' H' → B σ' H') → g x σ H A → g x σ H B) (mtt : ∀ σ H (A B : Bool → Hp → Prop), (∀ v H', A v H' → B v H') → tt σ H A → tt σ H B) (mt : ∀ σ H (A B : VK), (∀ v H', A v H' → B v H') → te σ H A → te σ H B) :
    ∃ W : Nat → Nat → List V → St → Hp → Prop, (∃ m, W 0 m [] (List.replicate n none) (upd H1 l (.lst []))) ∧ ∀ i m ys σ' H', W i m ys σ' H' →
      ((Itl K a).stop i H' ∧ R H') ∨ ((Itl K a).go i H' ∧ ∀ x H2, (Itl K a).yld i H' x H2 → g x σ' H2 fun σ3 H3 => tt σ3 H3 fun c H5 => if c = true then te σ3 H5 fun y H4 =>
        H4 l = some (.lst ys) ∧ ys.length < sizeLine ∧ ∃ m', m' < m ∧ W (i + 1) m' (ys ++ [y]) σ3 (upd H4 l (.lst (ys ++ [y]))) else ∃ m', m' < m ∧ W (i + 1) m' ys σ3 H5) := by
  refine ⟨fun i m ys σ H => m = xs.length - i ∧ i ≤ xs.length ∧ σ.length = n ∧ Pv i ys H, ⟨xs.length, by simp, Nat.zero_le _, List.length_replicate, h0⟩, ?_⟩
  rintro i m ys σ H ⟨rfl, hi, hn, p⟩
  have q := hl i ys H hi p
  by_cases hlt : i < xs.length
  · refine .inr ⟨⟨xs, xs[i], q, by simp [hlt]⟩, fun x H' y => ?_⟩
    obtain ⟨e, y⟩ := y
    subst e
    refine mg _ _ _ _ _ (fun σ3 H3 z => mtt _ _ _ _ (fun c H5 z => ?_) z) (hs i x ys σ _ (y xs q) p hn)
    cases c with
    | true =>
      rw [if_pos rfl] at z ⊢
      exact mt _ _ _ _ (fun y H4 ⟨z1, z2, z3, z4⟩ => ⟨z1, z2, xs.length - (i + 1), by omega, rfl, hlt, z3, z4⟩) z
    | false =>
      rw [if_neg Bool.false_ne_true] at z ⊢
      exact ⟨xs.length - (i + 1), by omega, rfl, hlt, z.1, z.2⟩
  · have e : i = xs.length := by omega
    subst e
    exact .inl ⟨⟨xs, q, Nat.le_refl _⟩, hd ys H p⟩
/-! ### tuples of texts compared -/
theorem eqAt_str (A : Around) (s : Shared) (a : Str) (t : Tok) (c : Str) (u : Tok) : SeqAt.EqAt A s (.str a t) (.str c u) (a == c) := by
  first | exact SeqAt.EqAt.str_str a t c u | exact (MeetsSeq.EqGives.str_str a t c u).at A s
end L2

set_option Elab.async false
set_option linter.all false
set_option maxRecDepth 100000
set_option maxHeartbeats 4000000
namespace L2
open PySem
theorem fn_of0 {CX : CXT} {P : Program} {w : World} {K : PySem.W.Frag} {mg : Str → Option Value} {base : Heap} {f : Addr} {name qual : Str} {params : Arguments} {body : List Stmt} {scope : Scope} {dV kV doc pm cdv ct oc : Value} {an od : Option Addr}
    {osl : Array (Option Value)} {N ps : List Str} {sp : Sp} (lk : K.lookup f = some ⟨oc, od, .func (PySem.W.fnOf name qual params body scope dV kV doc pm an cdv ct), osl⟩) (hcd : PySem.W.codeIn K cdv qual = true) (S : FnScope N ps scope)
    (len : ∀ vs H Q E, sp vs H Q E → vs.length = ps.length)
    (hbody : ∀ (A : Around) (outer : List Env) (s : Shared) (H : Hp) (vs : List V) (Q : VK) (E : XK), sp vs H Q E →
      ∃ t, PSs (cxOf CX P w K mg base N qual scope f cdv A outer s H E) body t ∧ t { nx := fun _ H' => Q .non H', rt := Q } (start N vs) H) :
    FnOk P w K mg base CX 0 f (PySem.W.fnOf name qual params body scope dV kV doc pm an cdv ct) ps sp := by
  refine ⟨len, fun A outer s H args us vs Q E hr e0 hb r hsp => ?_⟩
  have hl := len _ _ _ _ hsp
  have KX : K.In s.heap := e0.mod.kin.keeps fun b o e => (e0.bs b o e).1
  have lim : s.heap.NoLimit := e0.mod.nolimit.keeps fun b o e => (e0.bs b o e).1
  have hkind : ∀ y ∈ ps.zip us, scope.names.lookup y.1 = some .local ∨ (scope.names.lookup y.1 = some .cell ∧ ((cellsFrom (s.heap.objs.size + 1) scope.names []).lookup y.1).isSome = true) := fun ⟨n, v⟩ hy => by
    rcases S.par n (List.of_mem_zip hy).1 with q | q
    · exact .inl q
    · exact .inr ⟨q, PySem.W.cellsFrom_some _ _ _ (.inl q)⟩
  refine codeAny_call_function hr.depth (KX _ _ lk) rfl S.co S.gen rfl (PySem.W.codeRec_of KX hcd) (hb _ _ _ _ ?_)
  refine wpAny_newFunctionEnv_cells S.kind hkind fun env he s1 x => ?_
  subst he
  refine ⟨lim.keeps x.toInCall.keep, codeAny_func ?_⟩
  obtain ⟨t, ht, hq⟩ := hbody A outer s H vs Q E hsp
  have I : Inv (cxOf CX P w K mg base N qual scope f cdv A outer s H E) [] (start N vs) H s1 := inv_start S e0 hl r x
  refine wpAny_mono (ht [] s1 (start N vs) H _ I hq) (fun fl s' hs => ?_) fun e s' hs => hs
  have fin : ∀ {σ' : St} {H' : Hp} {v : V} {u : Value}, Inv (cxOf CX P w K mg base N qual scope f cdv A outer s H E) [] σ' H' s' → RelV v u → Q v H' → CE outer P w H s Q u s' :=
    fun {σ' H' v u} J rv q => ⟨v, H', J.os, J.bare, J.base, J.hok, rv, q⟩
  cases fl with
  | ret u =>
    obtain ⟨v, σ', H', J, rv, q⟩ := hs
    exact fin J rv q
  | next =>
    obtain ⟨σ', H', J, q⟩ := hs
    exact fin (v := V.non) (u := Value.none) J rfl q
  | brk =>
    obtain ⟨_, _, _, q⟩ := hs
    exact False.elim q
  | cont =>
    obtain ⟨_, _, _, q⟩ := hs
    exact False.elim q
theorem Fun.ok0 {P : Program} {w : World} {K : PySem.W.Frag} {mg : Str → Option Value} {base : Heap} {x qual : Str} {st : Stmt} {f : Addr} {fd : FuncData} {N ps : List Str} {sp : Sp} (F : Fun K x qual st f fd) (S : FnScope N ps (defScope st)) (len : ∀ vs H Q E, sp vs H Q E → vs.length = ps.length)
    (hbody : ∀ (cdv : Value) (A : Around) (outer : List Env) (s : Shared) (H : Hp) (vs : List V) (Q : VK) (E : XK), sp vs H Q E →
      ∃ t, PSs (cxOf CX0 P w K mg base N qual (defScope st) f cdv A outer s H E).nox (defBody st) t ∧ t { nx := fun _ H' => Q .non H', rt := Q } (start N vs) H) : FnOk P w K mg base CX0 0 f fd ps sp := by
  obtain ⟨oc, od, kV, doc, pm, an, cdv, ct, osl, rfl, lk, hcd⟩ := F.ex
  refine fn_of0 lk hcd S len fun A outer s H vs Q E hsp => ?_
  obtain ⟨t, h, q⟩ := hbody cdv A outer s H vs Q E hsp
  exact ⟨t, h.nox, q⟩
end L2

set_option Elab.async false
set_option linter.all false
set_option maxRecDepth 100000
namespace QQ
open PySem PyProof.Rows
section
variable {prog : Program} {w : World} {A : Around} {E : Value → Shared → Prop} {s : Shared}
theorem ascii_end_q {it : Addr} {x : Str} {t : Tok} {i : Nat} {Q : Option Value → Shared → Prop} (hq : Hq A s.heap)
    (hit : s.heap.IsStrIter it "str_ascii_iterator" x t i) (hx : x.cps[i]? = none)
    (hQ : ∀ h', Heap.ExtBut it s.heap h' → Q none { s with heap := h' }) : wpAny (model prog w) A (pyNext (.ref it)) Q E s := by
  obtain ⟨o, ho, hc, hd⟩ := id hit
  have hn := hq_not hq ho hd (by simp)
  unfold pyNext
  refine wpAny_bind (wpAny_attempt (wpAny_callSpecial?_slot (name := Str.ofString "__next__") hit.typeIs F.slot_str_ascii_iterator_next
    (wpAny_call_entry F.slot_str_ascii_iterator_next hit.typeIs F.entry_str_ascii_iterator_next ?_ (F.args_str_ascii_iterator_next_1 _))))
  show wpAny _ _ (field (.ref it) 0 >>= _) _ _ s
  refine wpAny_bind (wpAny_field ho hd (x := .str x t) rfl ?_)
  show wpAny _ _ (field (.ref it) 1 >>= _) _ _ s
  refine wpAny_bind (wpAny_field ho hd (x := .int i 0) rfl ?_)
  simp only [Int.toNat_natCast, hx]
  refine wpAny_bind (wpAny_rule (wpAny_bind (wpAny_setField ho hd (by simp) (wpAny_bind (wpAny_letGo ?_)))))
  have sb1 := Heap.SameBut.update (h := s.heap) it (Obj.mapFields (·.setIfInBounds 0 Value.none))
  refine stop_quiet (A := A.in1) (hq.keep fun a ea o' e => sb1.extBut a o' (fun z => hn (by rw [ea, z])) e) fun h' e k ⟨o', ge, ce⟩ => ?_
  refine wpAny_bind (wpAny_isInstance (T := "StopIteration") (b := true) ⟨_, ge, ce⟩ isSubtype_stop ?_)
  exact wpAny_pure (hQ _ fun b ob hb e1 => k b ob (sb1.extBut b ob hb e1))
theorem wide_end_q {it : Addr} {x : Str} {t : Tok} {i : Nat} {Q : Option Value → Shared → Prop} (hq : Hq A s.heap)
    (hit : s.heap.IsStrIter it "str_iterator" x t i) (hx : x.cps[i]? = none)
    (hQ : ∀ h', Heap.ExtBut it s.heap h' → Q none { s with heap := h' }) : wpAny (model prog w) A (pyNext (.ref it)) Q E s := by
  obtain ⟨o, ho, hc, hd⟩ := id hit
  have hn := hq_not hq ho hd (by simp)
  unfold pyNext
  refine wpAny_bind (wpAny_attempt (wpAny_callSpecial?_slot (name := Str.ofString "__next__") hit.typeIs F.slot_str_iterator_next
    (wpAny_call_entry F.slot_str_iterator_next hit.typeIs F.entry_str_iterator_next ?_ (F.args_str_iterator_next_1 _))))
  show wpAny _ _ (field (.ref it) 0 >>= _) _ _ s
  refine wpAny_bind (wpAny_field ho hd (x := .str x t) rfl ?_)
  show wpAny _ _ (field (.ref it) 1 >>= _) _ _ s
  refine wpAny_bind (wpAny_field ho hd (x := .int i 0) rfl ?_)
  simp only [Int.toNat_natCast, hx]
  refine wpAny_bind (wpAny_rule (wpAny_bind (wpAny_setField ho hd (by simp) (wpAny_bind (wpAny_letGo ?_)))))
  have sb1 := Heap.SameBut.update (h := s.heap) it (Obj.mapFields (·.setIfInBounds 0 Value.none))
  refine stop_quiet (A := A.in1) (hq.keep fun a ea o' e => sb1.extBut a o' (fun z => hn (by rw [ea, z])) e) fun h' e k ⟨o', ge, ce⟩ => ?_
  refine wpAny_bind (wpAny_isInstance (T := "StopIteration") (b := true) ⟨_, ge, ce⟩ isSubtype_stop ?_)
  exact wpAny_pure (hQ _ fun b ob hb e1 => k b ob (sb1.extBut b ob hb e1))
end
end QQ

namespace L2
open PySem PySem.Spec PyProof.Rows
/-! ### a text's signs, one by one -/
def Its (x : Str) : It := ⟨fun i _ => i < x.cps.size, fun i H y H' => H' = H ∧ ∃ c, x.cps[i]? = some c ∧ y = .str ⟨#[c]⟩, fun i _ => x.cps.size ≤ i⟩
theorem turn_ascii {P : Program} {w : World} {K : PySem.W.Frag} {tg : Expr} (it : Addr) (x : Str) (t : Tok) : Turn P w K tg (Its x) [it] it (fun i h => h.IsStrIter it "str_ascii_iterator" x t i) where
  mem := by simp
  obj := fun i h st b hb => by
    have e : b = it := by simpa using hb
    subst e
    obtain ⟨o, e, c, d⟩ := st
    exact ⟨o, e, fun v z => by rw [d] at z; cases z⟩
  keep := fun i h h' st k => let ⟨o, ho, r⟩ := st; ⟨o, k it (by simp) o ho, r⟩
  item := by
    intro X hP hw hK hc i pins s σ H E I hf st hg
    subst hP hw hK
    have hg' : i < x.cps.size := hg
    obtain ⟨f0, f1, f2, f3, f4, f5⟩ := hf it (by simp)
    refine wpAny_pyNext_ascii_item st (c := x.cps[i]) (by simp [hg']) fun h' st' sb => ?_
    have I1 : Inv X pins σ H { s with heap := h', toks := s.toks + 1 } := I.turned (fun b o hb e => sb.extBut b o hb e) f0 f1 f3 f4 f5
    obtain ⟨o, e, c, d⟩ := id st'
    exact ⟨_, rfl, go_of (s := { s with heap := h', toks := s.toks + 1 }) e c d (by decide) ⟨.str ⟨#[x.cps[i]]⟩, H, I1, ⟨s.toks, rfl⟩, ⟨rfl, _, by simp [hg'], rfl⟩, st', fun b hb => (hf b hb).1⟩⟩
  done := by
    intro X hP hw hK hc i pins s σ H E I hf st hg
    subst hP hw hK
    have hg' : x.cps.size ≤ i := hg
    obtain ⟨f0, f1, f2, f3, f4, f5⟩ := hf it (by simp)
    exact QQ.ascii_end_q I.hq st (by simp [hg']) fun h' eb => ⟨rfl, I.turned (t' := s.toks) (fun b o hb e => eb b o hb e) f0 f1 f3 f4 f5⟩
  self := fun _ _ _ _ _ st h => wpAny_pyIter_striter_ascii st h
theorem turn_wide {P : Program} {w : World} {K : PySem.W.Frag} {tg : Expr} (it : Addr) (x : Str) (t : Tok) : Turn P w K tg (Its x) [it] it (fun i h => h.IsStrIter it "str_iterator" x t i) where
  mem := by simp
  obj := fun i h st b hb => by
    have e : b = it := by simpa using hb
    subst e
    obtain ⟨o, e, c, d⟩ := st
    exact ⟨o, e, fun v z => by rw [d] at z; cases z⟩
  keep := fun i h h' st k => let ⟨o, ho, r⟩ := st; ⟨o, k it (by simp) o ho, r⟩
  item := by
    intro X hP hw hK hc i pins s σ H E I hf st hg
    subst hP hw hK
    have hg' : i < x.cps.size := hg
    obtain ⟨f0, f1, f2, f3, f4, f5⟩ := hf it (by simp)
    refine wpAny_pyNext_wide_item st (c := x.cps[i]) (by simp [hg']) fun h' st' sb => ?_
    have I1 : Inv X pins σ H { s with heap := h', toks := s.toks + 1 } := I.turned (fun b o hb e => sb.extBut b o hb e) f0 f1 f3 f4 f5
    obtain ⟨o, e, c, d⟩ := id st'
    exact ⟨_, rfl, go_of (s := { s with heap := h', toks := s.toks + 1 }) e c d (by decide) ⟨.str ⟨#[x.cps[i]]⟩, H, I1, ⟨s.toks, rfl⟩, ⟨rfl, _, by simp [hg'], rfl⟩, st', fun b hb => (hf b hb).1⟩⟩
  done := by
    intro X hP hw hK hc i pins s σ H E I hf st hg
    subst hP hw hK
    have hg' : x.cps.size ≤ i := hg
    obtain ⟨f0, f1, f2, f3, f4, f5⟩ := hf it (by simp)
    exact QQ.wide_end_q I.hq st (by simp [hg']) fun h' eb => ⟨rfl, I.turned (t' := s.toks) (fun b o hb e => eb b o hb e) f0 f1 f3 f4 f5⟩
  self := fun _ _ _ _ _ st h => wpAny_pyIter_striter_wide st h
section
variable {X : Cx} {tg : Expr}
def iStr (tl : TE) : TI := fun σ H R => tl σ H fun x H1 => ∃ y, x = .str y ∧ R (Its y) H1
theorem pi_str {l : Expr} {tl : TE} (hl : PE X l tl) : PI X tg l (iStr tl) := by
  intro pins s σ H R I h
  refine thn (hl pins s σ H _ I h) fun v s1 ⟨x, H1, I1, r1, q1⟩ => ?_
  obtain ⟨y, e, q⟩ := q1
  subst e
  obtain ⟨t, rfl⟩ := r1
  cases ha : y.cps.all (· < 128)
  · refine wpAny_pyIter_wide ha ?_
    refine ⟨s1.heap.objs.size, [s1.heap.objs.size], _, _, H1, rfl, I1.kept (t' := s1.toks) fun b o e => Heap.get?_push_of_some _ e, turn_wide _ y t, ⟨_, Heap.get?_push_size _ rfl, rfl, rfl⟩, fun b hb => ?_, q⟩
    have e : b = s1.heap.objs.size := by simpa using hb
    subst e
    exact I1.fpOk (Nat.le_refl _) (I1.hok.fresh (Nat.le_refl _))
  · refine wpAny_pyIter_ascii ha ?_
    refine ⟨s1.heap.objs.size, [s1.heap.objs.size], _, _, H1, rfl, I1.kept (t' := s1.toks) fun b o e => Heap.get?_push_of_some _ e, turn_ascii _ y t, ⟨_, Heap.get?_push_size _ rfl, rfl, rfl⟩, fun b hb => ?_, q⟩
    have e : b = s1.heap.objs.size := by simpa using hb
    subst e
    exact I1.fpOk (Nat.le_refl _) (I1.hok.fresh (Nat.le_refl _))
theorem for_str {y : Str} {g : TG} {tb : TS} {D : Ends} {σ : St} {H : Hp} (Pv : Nat → St → Hp → Prop) (h0 : Pv 0 σ H)
    (hs : ∀ i c σ H, y.cps[i]? = some c → Pv i σ H → g (.str ⟨#[c]⟩) σ H fun σ2 H2 => tb { D with nx := Pv (i + 1), ct := Pv (i + 1), bk := D.nx } σ2 H2) (hd : ∀ σ H, Pv y.cps.size σ H → D.nx σ H) :
    ∃ W : Nat → Nat → St → Hp → Prop, (∃ m, W 0 m σ H) ∧ ∀ i m σ H, W i m σ H →
      ((Its y).stop i H ∧ D.nx σ H) ∨ ((Its y).go i H ∧ ∃ N : St → Hp → Prop, (∀ σ' H', N σ' H' → ∃ m', m' < m ∧ W (i + 1) m' σ' H') ∧ ∀ x H', (Its y).yld i H x H' → g x σ H' fun σ2 H2 => tb { D with nx := N, ct := N, bk := D.nx } σ2 H2) := by
  refine ⟨fun i m σ H => m = y.cps.size - i ∧ i ≤ y.cps.size ∧ Pv i σ H, ⟨y.cps.size, by simp, Nat.zero_le _, h0⟩, ?_⟩
  rintro i m σ H ⟨rfl, hi, p⟩
  by_cases hlt : i < y.cps.size
  · refine .inr ⟨hlt, Pv (i + 1), fun σ' H' p' => ⟨y.cps.size - (i + 1), by omega, rfl, hlt, p'⟩, fun x H' z => ?_⟩
    obtain ⟨e, c, hc, rfl⟩ := z
    subst e
    exact hs i c σ _ hc p
  · have e : i = y.cps.size := by omega
    subst e
    exact .inl ⟨Nat.le_refl _, hd σ H p⟩

/-! ### range(a, b, c) -/
def Itr3 (lo c : Int) (n : Nat) : It := ⟨fun i _ => i < n, fun i H x H' => H' = H ∧ x = .int (lo + i * c), fun i _ => n ≤ i⟩
def iRng3 (ta : TA) : TI := fun σ H R => ta σ H fun vs H1 => ∃ (i j c : Int) (n : Nat), vs = [.int i, .int j, .int c] ∧ c ≠ 0 ∧ Builtin.Range.small i j c = true ∧ Builtin.Range.rangeSize i j c = (n : Int) ∧ Builtin.divisionGoesByPylong (j - i) c = false ∧ R (Itr3 i c n) H1
/-! ### texts of the signs 0 and 1 -/
def sgn (b : Bool) : Nat := if b then 49 else 48
def txt (bs : List Bool) : Str := ⟨(bs.map sgn).toArray⟩
theorem txt_cps (bs : List Bool) : (txt bs).cps.toList = bs.map sgn := by simp [txt]
theorem txt_length (bs : List Bool) : (txt bs).length = bs.length := by simp [txt, Str.length]
theorem txt_size (bs : List Bool) : (txt bs).cps.size = bs.length := by simp [txt]
theorem str_ext {x y : Str} (h : x.cps.toList = y.cps.toList) : x = y := by
  cases x; cases y
  simp only [Str.mk.injEq]
  exact Array.toList_inj.mp h
theorem txt_append (a b : List Bool) : txt a ++ txt b = txt (a ++ b) := by
  refine str_ext ?_
  show ((txt a).cps ++ (txt b).cps).toList = _
  rw [Array.toList_append, txt_cps, txt_cps, txt_cps, List.map_append]
theorem txt_get {bs : List Bool} {i : Nat} {c : Nat} (h : (txt bs).cps[i]? = some c) : ∃ b, bs[i]? = some b ∧ (⟨#[c]⟩ : Str) = txt [b] := by
  rw [← Array.getElem?_toList, txt_cps, List.getElem?_map] at h
  cases e : bs[i]? with
  | none => rw [e] at h; cases h
  | some b => rw [e] at h; cases h; exact ⟨b, rfl, rfl⟩
theorem txt_inj {a b : List Bool} : txt a = txt b ↔ a = b := by
  refine ⟨fun h => ?_, fun h => by rw [h]⟩
  have h1 : a.map sgn = b.map sgn := by rw [← txt_cps, ← txt_cps, h]
  refine (List.map_inj_right (f := sgn) fun x y e => ?_).mp h1
  cases x <;> cases y <;> first | rfl | exact absurd e (by decide)

/-! ### slices of texts -/
def rSlS : V → Option Int → Option Int → Hp → VK → Prop := fun x lo hi H Q => ∃ y, x = .str y ∧ y.length ≤ sizeLine ∧ Q (.str (Txt.slice y lo hi)) H
theorem part_some {v : Value} {o : Option Int} (p : IsPart v o) : ∃ l : Option (Int × Tok), l.map (·.1) = o ∧ v = partValue l := by
  cases p with
  | none => exact ⟨none, rfl, rfl⟩
  | int i t => exact ⟨some (i, t), rfl, rfl⟩
theorem sl_str : SlR X rSlS := by
  intro pins s σ H x v vl vu lo hi sl Q I rx hs pl pu h
  obtain ⟨y, rfl, hz, q⟩ := h
  obtain ⟨t, rfl⟩ := rx
  obtain ⟨l, rfl, rfl⟩ := part_some pl
  obtain ⟨u, rfl, rfl⟩ := part_some pu
  refine ⟨"str", _, F.slot_str_getitem.lookup, typeIs_str _ _ _, ?_⟩
  refine wpAny_getItem_str_slice (l := l) (u := u) (st := none) hs rfl ?_
  exact post_val_or_str ⟨Nat.le_trans (Txt.slice_le y _ _) hz, fun t' k => ⟨.str (Txt.slice y (l.map (·.1)) (u.map (·.1))), H, I.tok _, ⟨_, rfl⟩, q⟩⟩
theorem slice_both {x : Str} {a b : Nat} (hab : a ≤ b) (hb : b ≤ x.length) : (Txt.slice x (some (a : Int)) (some (b : Int))).cps.toList = (x.cps.toList.drop a).take (b - a) := by
  have h := StrLaws.sliced_plain x hab hb
  unfold Txt.slice
  split
  · rename_i e
    have e' : (Builtin.Str.strSliceIndices (some (a : Int)) (some (b : Int)) 1 x.length).length = x.length := by simpa using e
    rw [StrLaws.strSliceIndices_plain hab hb] at e'
    have e2 : b - a = x.length := by simpa using e'
    have ea : a = 0 := by omega
    subst ea
    have hx : x.cps.toList.length = x.length := by simp [Str.length]
    rw [List.drop_zero, e2, ← hx, List.take_length]
  · exact h
theorem slice_cut (x : Str) (a : Nat) : Txt.slice x (some (a : Int)) none = Txt.slice x (some (a : Int)) (some (x.length : Int)) := by
  have e : Builtin.Str.strSliceIndices (some (a : Int)) none 1 x.length = Builtin.Str.strSliceIndices (some (a : Int)) (some (x.length : Int)) 1 x.length := by
    unfold Builtin.Str.strSliceIndices
    simp only []
    congr 1
    simp
    omega
  unfold Txt.slice
  rw [e]
theorem slice_head (x : Str) (b : Nat) : Txt.slice x none (some (b : Int)) = Txt.slice x (some ((0 : Nat) : Int)) (some (b : Int)) := by
  have e : Builtin.Str.strSliceIndices none (some (b : Int)) 1 x.length = Builtin.Str.strSliceIndices (some ((0 : Nat) : Int)) (some (b : Int)) 1 x.length := by
    unfold Builtin.Str.strSliceIndices
    simp only []
    congr 1
  unfold Txt.slice
  rw [e]
theorem txt_slice {bs : List Bool} {a b : Nat} (hab : a ≤ b) (hb : b ≤ bs.length) : Txt.slice (txt bs) (some (a : Int)) (some (b : Int)) = txt ((bs.drop a).take (b - a)) := by
  refine str_ext ?_
  rw [slice_both hab (by rw [txt_length]; exact hb), txt_cps, txt_cps, List.map_take, List.map_drop]
theorem txt_sliceR {bs : List Bool} {a : Nat} (ha : a ≤ bs.length) : Txt.slice (txt bs) (some (a : Int)) none = txt (bs.drop a) := by
  rw [slice_cut, txt_length, txt_slice ha (Nat.le_refl _), ← List.length_drop, List.take_length]
theorem txt_sliceL {bs : List Bool} {b : Nat} (hb : b ≤ bs.length) : Txt.slice (txt bs) none (some (b : Int)) = txt (bs.take b) := by
  rw [slice_head, txt_slice (Nat.zero_le _) hb, List.drop_zero, Nat.sub_zero]

/-! ### '0' * n -/
def rMulS : R2 := fun x y H Q => ∃ z n, x = .str z ∧ y = .int n ∧ MulOk z n ∧ Q (.str (Txt.mul z n)) H
theorem op_mul_str : OpR X (binaryOp .Mult) rMulS := by
  intro pins s σ H x y v u Q I rx ry h
  obtain ⟨z, n, rfl, rfl, hok, q⟩ := h
  obtain ⟨t, rfl⟩ := rx
  obtain ⟨t', rfl⟩ := ry
  exact SB.mul hok fun t' k => ⟨.str (Txt.mul z n), H, I.tok _, ⟨_, rfl⟩, q⟩
end
end L2

set_option Elab.async false
set_option linter.all false
set_option maxRecDepth 100000
set_option maxHeartbeats 4000000
namespace L2
open PySem PySem.Spec PyProof.Rows QQ
/-! ### t != u: a tuple of one text or truth, and such a one -/
def rNeT1 (K : PySem.W.Frag) : R2 := fun x y H Q => ∃ (p q : Addr), x = .ref p ∧ y = .ref q ∧ ((∃ a b : Str, SqT K H p [.str a] ∧ SqT K H q [.str b] ∧ Q (.bl (!(a == b))) H) ∨ (∃ a b : Bool, SqT K H p [.bl a] ∧ SqT K H q [.bl b] ∧ Q (.bl (!(a == b))) H))
end L2

set_option Elab.async false
set_option linter.all false
set_option maxRecDepth 100000
set_option maxHeartbeats 4000000
namespace L2
open PySem PySem.Spec PyProof.Rows QQ
/-! ### {} and the value None, True, False by `is not` -/
def tDNew0 : TE := fun _ H Q => ∀ p, H p = none → Q (.ref p) (upd H p (.dK []))
section
variable {X : Cx} {pos : Pos}
end
end L2

set_option Elab.async false
set_option linter.all false
set_option maxRecDepth 100000
set_option maxHeartbeats 4000000
namespace L2
open PySem PySem.Spec PyProof.Rows QQ
/-! ### rules by the K at hand; statements one by one -/
theorem seq_g {t u : TS} {D : Ends} {σ : St} {H : Hp} (h : ∀ R : St → Hp → Prop, (∀ σ H, u D σ H → R σ H) → t { D with nx := R } σ H) : tSeq t u D σ H := h (u D) fun _ _ z => z
theorem ix_tupK {X : Cx} {K : PySem.W.Frag} (hK : X.K = K) : IxR X (rIxT K) := by
  subst hK
  exact ix_tup
def rNeL (K : PySem.W.Frag) : R2 := fun x y H Q => ∃ (p q : Addr) (ns ms : List Int), x = .ref p ∧ y = .ref q ∧ SqL K H p (ns.map V.int) ∧ SqL K H q (ms.map V.int) ∧ Q (.bl (!decide (ns = ms))) H
theorem lookup_one {a x : Str} {b c : Addr} (h : List.lookup x [(a, b)] = some c) : x = a ∧ c = b := by
  rw [List.lookup_cons] at h
  cases hx : x == a with
  | true => rw [hx] at h; exact ⟨eq_of_beq hx, (Option.some.inj h).symm⟩
  | false => rw [hx] at h; cases h
theorem none_of {H H' : Hp} (s : Same H H') {q : Addr} (h : H' q = none) : H q = none := by
  cases e : H q with
  | none => rfl
  | some o => rw [s _ _ e] at h; cases h
theorem same_new {H : Hp} {p : Addr} {o : HO} (h : H p = none) : Same H (upd H p o) := fun b u e => by
  rw [upd_ne (ne_of_none e h)]; exact e
/-! ### [elt for target in iter if cnd] as a value -/
section
variable {X : Cx} {N : List Str} {scope : Scope} {elt cnd target iter : Expr} {pos : Pos} {wi : TI} {g : TG} {tt : TT} {te : TE}
theorem pe_compI (hc : X.calm = true) (hkind : scope.kind = .function) (hfree : ∀ x ∈ scope.names, x.2 ≠ .free) (hcell : ∀ x ∈ scope.names, x.2 ≠ .cell) (hnames : ∀ x ∈ scope.names, x.2 = .local → scope.names.lookup x.1 = some .local)
    (hi : PI X target iter wi) (hg : ∀ fp s H, PG (cxComp X N scope fp s H) target g) (ht : ∀ fp s H, PT (cxComp X N scope fp s H) cnd tt) (he : ∀ fp s H, PE (cxComp X N scope fp s H) elt te)
    (hs : ∀ x, foldedSetIterable iter X.env x = pure x := by intro _; rfl) : PE X (.ListComp elt [⟨target, iter, [cnd], 0⟩] scope pos) (tCompI N.length wi g tt te) := by
  intro pins s σ H Q I h
  refine wpAny_ListComp hfree hkind hnames (compI_core (RR := fun acc cenv r s' => ∃ m, s'.heap.Ns cenv.locals m ∧ ∀ h', Heap.SameBut cenv.locals s'.heap h' →
    match r with
    | .ok _ => EP X pins σ Q acc { s' with heap := h' }
    | .error x => wpAny (model X.prog X.w) X.A (passOn "comprehension.variables-let-go" x cenv) (EP X pins σ Q) X.xe { s' with heap := h' }) hc hkind hfree hcell hi hg ht he I h ?_) hs
  rintro l C H' s' I' fC ⟨m, hn⟩ q
  exact ⟨m, hn, fun h' sb => ⟨.ref l, H', I'.turned (t' := s'.toks) (fun b o hb e => (sb.2 b hb).trans e) fC.1 fC.2.1 fC.2.2.2.1 fC.2.2.2.2.1 fC.2.2.2.2.2, rfl, q⟩⟩
end
section
variable {X : Cx}
/-! ### t[a:] of a tuple -/
def rSlF (K : PySem.W.Frag) : V → Option Int → Option Int → Hp → VK → Prop := fun x lo hi H Q => ∃ (a : Addr) (xs : List V) (n : Nat), x = .ref a ∧ lo = some (n : Int) ∧ hi = none ∧ SqT K H a xs ∧ 1 ≤ n ∧ n ≤ xs.length ∧ ∀ p, H p = none → Q (.ref p) (upd H p (.tup (xs.drop n)))
/-! ### lists of tuples of plain things compared, the same ones -/
theorem eqV_self : ∀ x : V, flatV x = true → eqV x x = true := by
  intro x h
  cases x <;> simp [flatV, eqV] at h ⊢
theorem eqAt_tup {pins : List (Addr × Obj)} {σ : St} {H : Hp} {s : Shared} (I : Inv X pins σ H s) {a b : Addr} {xs : List V} (ha : SqT X.K H a xs) (hb : SqT X.K H b xs) (fl : xs.all flatV = true) {A : Around} (hu : A.units < cLine) : SeqAt.EqAt A s (.ref a) (.ref b) true := by
  by_cases e : a = b
  · subst e; exact .same _
  · obtain ⟨its, rv, pl, hz⟩ := I.tuple ha
    obtain ⟨its2, rv2, pl2, hz2⟩ := I.tuple hb
    have l1 := rv.length
    have l2 := rv2.length
    refine .of_refs e ?_
    have R := SeqAt.RcAt.tuples (A := A) (e := fun _ => true) (show s.heap.IsTuple a its.toArray from pl) (show s.heap.IsTuple b its2.toArray from pl2) hu (fun j h1 h2 => ?_)
    · have e2 : ((List.range (min its.toArray.size its2.toArray.size)).all (fun _ => true) && its.toArray.size == its2.toArray.size) = true := by
        rw [List.size_toArray, List.size_toArray, ← l1, ← l2]; simp
      rw [e2] at R
      exact R
    · have j1 : j < xs.length := by simp at h1; omega
      obtain ⟨u1, e1, r1⟩ := rv.get (i := j) (x := xs[j]) (by simp [j1])
      obtain ⟨u2, e2, r2⟩ := rv2.get (i := j) (x := xs[j]) (by simp [j1])
      have g1 : its.toArray[j] = u1 := by
        obtain ⟨_, z⟩ := List.getElem?_eq_some_iff.mp e1
        simpa using z
      have g2 : its2.toArray[j] = u2 := by
        obtain ⟨_, z⟩ := List.getElem?_eq_some_iff.mp e2
        simpa using z
      have f1 : flatV xs[j] = true := List.all_eq_true.mp fl _ (List.getElem_mem j1)
      rw [g1, g2, ← eqV_self _ f1]
      exact eqAt_V r1 r2 f1 f1
/-- two lists of tuples, item by item the same -/
def SameTs (K : PySem.W.Frag) (H : Hp) (p q : Addr) : Prop := ∃ ps qs : List Addr, SqL K H p (ps.map V.ref) ∧ SqL K H q (qs.map V.ref) ∧ ps.length = qs.length ∧ ∀ (i : Nat) (a b : Addr), ps[i]? = some a → qs[i]? = some b → ∃ xs : List V, SqT K H a xs ∧ SqT K H b xs ∧ xs.all flatV = true
def rNeLT (K : PySem.W.Frag) : R2 := fun x y H Q => ∃ (p q : Addr), x = .ref p ∧ y = .ref q ∧ SameTs K H p q ∧ Q (.bl false) H
def rEqLT (K : PySem.W.Frag) : R2 := fun x y H Q => ∃ (p q : Addr), x = .ref p ∧ y = .ref q ∧ SameTs K H p q ∧ Q (.bl true) H
end
end L2

set_option Elab.async false
set_option linter.all false
set_option maxRecDepth 100000
set_option maxHeartbeats 4000000
namespace L2
open PySem PySem.Spec PyProof.Rows QQ
section
variable {X : Cx}
/-! ### try, where nothing is raised -/
/-! ### xs += ys of lists -/
def ipL : TIp := fun x y H Q => ∃ l b xs zs, x = .ref l ∧ y = .ref b ∧ H l = some (.lst xs) ∧ H b = some (.lst zs) ∧ xs.length + zs.length ≤ sizeLine ∧ Q (.ref l) (upd H l (.lst (xs ++ zs)))
end
end L2

set_option Elab.async false
set_option linter.all false
set_option maxRecDepth 100000
set_option maxHeartbeats 4000000
namespace QQ
open PySem PyProof.Rows
section
variable {prog : Program} {w : World} {A : Around} {E : Value → Shared → Prop} {s : Shared}
theorem nextOf_end_q {it l : Addr} {i : Nat} {items} {Q : Value → Shared → Prop} (hq : Hq A s.heap)
    (hit : s.heap.IsListIter it l i) (hl : s.heap.IsList l items) (hx : items[i]? = none)
    (hE : ∀ h' e, Heap.ExtBut it s.heap h' → (∃ o, h'.get? e = some o ∧ o.cls = .type "StopIteration") → E (.ref e) { s with heap := h' }) :
    wpAny (model prog w) A (Builtin.SmallTypes.nextOf (.ref it)) Q E s := by
  obtain ⟨o, ho, hc, hd⟩ := id hit
  obtain ⟨ol, hol, _, nl, hdl⟩ := hl
  have hn := hq_not hq ho hd (by simp)
  unfold Builtin.SmallTypes.nextOf
  refine wpAny_bind (wpAny_callSpecial?_slot (name := Str.ofString "__next__") hit.typeIs slot_listiter_next (wpAny_call_entry slot_listiter_next hit.typeIs entry_listiter_next ?_ (args_listiter_next _)))
  show wpAny _ _ (field (.ref it) 0 >>= _) _ _ s
  refine wpAny_bind (wpAny_field ho hd (x := .ref l) rfl ?_)
  show wpAny _ _ (if (Value.ref l == Value.none) = true then _ else _) _ _ s
  rw [if_neg (show ¬ ((Value.ref l == Value.none) = true) from Bool.false_ne_true)]
  show wpAny _ _ (field (.ref it) 1 >>= _) _ _ s
  refine wpAny_bind (wpAny_field ho hd (x := .int i 0) rfl ?_)
  show wpAny _ _ (seqItems? (.ref l) >>= _) _ _ s
  refine wpAny_bind (wpAny_seqItems hol hdl ?_)
  simp only [Int.toNat_natCast, hx]
  refine wpAny_bind (wpAny_rule (wpAny_bind (wpAny_setField ho hd (by simp) ?_)))
  have sb1 := Heap.SameBut.update (h := s.heap) it (Obj.mapFields (·.setIfInBounds 0 Value.none))
  refine stop_quiet (A := A.in1) (hq.keep fun a ea o' e => sb1.extBut a o' (fun z => hn (by rw [ea, z])) e) fun h' e k he => ?_
  exact hE _ e (fun b ob hb e1 => k b ob (sb1.extBut b ob hb e1)) he
end
end QQ
namespace L2
open PySem PySem.Spec PyProof.Rows QQ
/-! ### zip of two lists -/
def Itz (K : PySem.W.Frag) (a b : Addr) : It :=
  ⟨fun i H => ∃ xs ys x y, SqL K H a xs ∧ SqL K H b ys ∧ xs[i]? = some x ∧ ys[i]? = some y,
   fun i H v H' => ∃ p x y, H p = none ∧ v = .ref p ∧ H' = upd H p (.tup [x, y]) ∧ (∀ xs, SqL K H a xs → xs[i]? = some x) ∧ ∀ ys, SqL K H b ys → ys[i]? = some y,
   fun i H => ∃ xs ys, SqL K H a xs ∧ SqL K H b ys ∧ (xs.length ≤ i ∨ ys.length ≤ i)⟩
def iZip (K : PySem.W.Frag) (ta : TA) : TI := fun σ H R => ta σ H fun vs H1 => ∃ l1 l2 xs ys, vs = [.ref l1, .ref l2] ∧ SqL K H1 l1 xs ∧ SqL K H1 l2 ys ∧ R (Itz K l1 l2) H1
/-! ### t != u of tuples of plain things, the same ones -/
def rNeTT (K : PySem.W.Frag) : R2 := fun x y H Q => ∃ (p q : Addr) (xs : List V), x = .ref p ∧ y = .ref q ∧ SqT K H p xs ∧ SqT K H q xs ∧ xs.all flatV = true ∧ Q (.bl false) H
/-! ### lists of lists of ints compared, the same ones -/
def SameLs (K : PySem.W.Frag) (H : Hp) (p q : Addr) : Prop := ∃ ps qs : List Addr, SqL K H p (ps.map V.ref) ∧ SqL K H q (qs.map V.ref) ∧ ps.length = qs.length ∧ ∀ (i : Nat) (a b : Addr), ps[i]? = some a → qs[i]? = some b → ∃ ns : List Int, SqL K H a (ns.map V.int) ∧ SqL K H b (ns.map V.int)
def rNeLL (K : PySem.W.Frag) : R2 := fun x y H Q => ∃ (p q : Addr), x = .ref p ∧ y = .ref q ∧ SameLs K H p q ∧ Q (.bl false) H
end L2

set_option Elab.async false
set_option linter.all false
set_option maxRecDepth 100000
set_option maxHeartbeats 4000000
namespace L2
open PySem PySem.Spec PyProof.Rows QQ
/-! ### comprehensions with captured names, with a test, as values -/
def tCompCI (js : List (Option Nat)) (wi : TI) (g : TG) (tt : TT) (te : TE) : TE := fun σ H Q => wi σ H fun J H1 => ∀ l, H1 l = none → ∃ W : Nat → Nat → List V → St → Hp → Prop,
  (∃ m, W 0 m [] (cap js σ) (upd H1 l (.lst []))) ∧ ∀ i m ys σ' H', W i m ys σ' H' →
    (J.stop i H' ∧ Q (.ref l) H') ∨ (J.go i H' ∧ ∀ x H2, J.yld i H' x H2 → g x σ' H2 fun σ3 H3 => tt σ3 H3 fun c H5 => if c = true then te σ3 H5 fun y H4 =>
      H4 l = some (.lst ys) ∧ ys.length < sizeLine ∧ ∃ m', m' < m ∧ W (i + 1) m' (ys ++ [y]) σ3 (upd H4 l (.lst (ys ++ [y]))) else ∃ m', m' < m ∧ W (i + 1) m' ys σ3 H5)
section
variable {X : Cx} {N : List Str} {scope : Scope} {cl : List (Str × Addr)} {js : List (Option Nat)} {elt cnd target iter : Expr} {pos : Pos} {wi : TI} {g : TG} {tt : TT} {te : TE}
theorem compCI_core {pins : List (Addr × Obj)} {σ : St} {H : Hp} {s : Shared} {Q : VK} {RR : Value → Addr → Result → Shared → Prop}
    (hc : X.calm = true) (Cp : Caps X N scope cl js)
    (hi : PI X target iter wi) (hg : ∀ fp s H, PG (cxCompC X N scope cl fp s H) target g) (ht : ∀ fp s H, PT (cxCompC X N scope cl fp s H) cnd tt) (he : ∀ fp s H, PE (cxCompC X N scope cl fp s H) elt te)
    (I : Inv X pins σ H s) (h : tCompCI js wi g tt te σ H Q)
    (hR : ∀ (l C : Addr) (H' : Hp) (s' : Shared), Inv X pins σ H' s' → FpOk X pins H' C → (∃ m, s'.heap.Ns C m) → Q (.ref l) H' → RR (.ref l) C (.ok .next) s') :
    wpAny (model X.prog X.w) X.A (eval iter X.env) (fun x s₁ => wpAny (model X.prog X.w) X.A (pyIter x) (fun it s₂ => wpAny (model X.prog X.w) X.A (newList []) (fun acc s₃ =>
      wpAny (model X.prog X.w) X.A (newFunctionEnv scope X.env.globals cl [] X.env.qual none .none (some X.env)) (fun cenv s₄ =>
        codeAny (model X.prog X.w) X.A (.compStart (.ListComp elt [⟨target, iter, [cnd], 0⟩] scope pos) 0 it acc { cenv with scope := relabel scope X.env }) (RR acc cenv.locals) s₄) X.xe s₃) X.xe s₂) X.xe s₁) X.xe s := by
  refine thn (hi pins s σ H _ I h) fun v s1 h1 => thn h1 fun itv s2 h2 => ?_
  obtain ⟨it, fp, tn, J, H2, e, I2, T, st2, f2, hw⟩ := h2
  subst e
  have hl2 : H2 s2.heap.objs.size = none := I2.hok.fresh (Nat.le_refl _)
  obtain ⟨W, ⟨m0, w0⟩, turn⟩ := hw s2.heap.objs.size hl2
  have lt2 : ∀ b ∈ fp, b < s2.heap.objs.size := fun b hb => let ⟨o, e, _⟩ := T.obj _ _ st2 b hb; Heap.lt_size e
  refine wpAny_newList ?_
  have I3 : Inv X pins σ (upd H2 s2.heap.objs.size (.lst [])) { s2 with heap := s2.heap.push { cls := .type "list", data := .seq ([] : List Value).toArray } } :=
    I2.laid (t' := s2.toks) (fun b u e => Heap.get?_push_of_some _ e) (Nat.le_refl _) ⟨Nat.zero_le _, [], 0, .nil, Heap.get?_push_size _ rfl⟩
  have st3 : tn 0 (s2.heap.push { cls := .type "list", data := .seq ([] : List Value).toArray }) := T.keep _ _ _ st2 fun b hb o e => Heap.get?_push_of_some _ e
  have lt3 : ∀ b ∈ fp, b < (s2.heap.push { cls := .type "list", data := .seq ([] : List Value).toArray }).objs.size := fun b hb => by rw [Heap.size_push]; exact Nat.lt_succ_of_lt (lt2 b hb)
  have f3 : ∀ b ∈ fp, FpOk X pins (upd H2 s2.heap.objs.size (.lst [])) b := fun b hb => ⟨by rw [upd_ne (Nat.ne_of_lt (lt2 b hb))]; exact (f2 b hb).1, (f2 b hb).2⟩
  generalize s2.heap.objs.size = l at *
  generalize upd H2 l (.lst []) = H3 at *
  have hs3 : ∃ s3 : Shared, s3 = { s2 with heap := s2.heap.push { cls := .type "list", data := .seq ([] : List Value).toArray } } := ⟨_, rfl⟩
  obtain ⟨s3, e3⟩ := hs3
  rw [← e3] at I3
  rw [← e3]
  have st3 : tn 0 s3.heap := by rw [e3]; exact st3
  have lt3 : ∀ b ∈ fp, b < s3.heap.objs.size := by rw [e3]; exact lt3
  clear e3
  refine wpAny_newFunctionEnv Cp.nocell (by intro y hy; simp at hy) (fun h4 hns hsb => ?_) Cp.kind
  have kp : ∀ b o, s3.heap.get? b = some o → h4.get? b = some o := fun b o e => hsb.extBut b o (Nat.ne_of_lt (Heap.lt_size e)) (Heap.get?_push_of_some _ e)
  have I4 := inv_compC (N := N) (t' := s3.toks + ([] : List (Str × Value)).length) I3 Cp f3 lt3 hns kp
  have st4 : tn 0 h4 := T.keep _ _ _ st3 fun b hb o e => kp b o e
  have stat : ∀ {H' : Hp}, (∀ b ∈ fp, H' b = none) → ∀ b ∈ fp, FpOk (cxCompC X N scope cl fp s3 H3) [] H' b := fun hn b hb =>
    ⟨hn b hb, (I4.ok.exf b hb).1, I4.ok.exfs b hb, .inl hb, (I4.ok.exf b hb).2, fun p hp => absurd (show p ∈ ([] : List (Addr × Obj)) from hp) (by simp)⟩
  have loop : codeAny (model X.prog X.w) X.A (.compLoop (.ListComp elt [⟨target, iter, [cnd], 0⟩] scope pos) 0 (.ref it) (.ref l) (compEnvC scope cl s3.heap.objs.size X.env)) (RR (.ref l) s3.heap.objs.size)
      { s3 with heap := h4, toks := s3.toks + ([] : List (Str × Value)).length } := by
    refine compI_loop (fun n s' => ∃ i ys σ' H', Inv (cxCompC X N scope cl fp s3 H3) [] σ' H' s' ∧ tn i s'.heap ∧ (∀ b ∈ fp, H' b = none) ∧ W i n ys σ' H') ?_ m0 ⟨0, [], _, _, I4, st4, fun b hb => (f3 b hb).1, w0⟩
    rintro n s5 ⟨i, ys, σ5, H5, I5, st5, fr5, w5⟩
    rcases turn i n ys σ5 H5 w5 with ⟨stop, q⟩ | ⟨go, step⟩
    · refine thn (T.done (cxCompC X N scope cl fp s3 H3) rfl rfl rfl hc i [] s5 σ5 H5 _ I5 (stat fr5) st5 stop) fun r s6 ⟨hr, I6⟩ => ?_
      subst hr
      exact hR _ _ _ _ (compC_back I3 f3 I6) (I3.fpOk (Nat.le_refl _) I6.free) (let ⟨m, hn, _⟩ := I6.loc; ⟨m, hn⟩) q
    · refine thn (T.item (cxCompC X N scope cl fp s3 H3) rfl rfl rfl hc i [] s5 σ5 H5 _ I5 (stat fr5) st5 go) fun r s6 ⟨u, hr, h6⟩ => ?_
      subst hr
      refine thn h6 fun _ s7 ⟨x, H7, I7, r7, y7, st7, fr7⟩ => ?_
      have I7' := I7.pinned (stat fr7) (T.obj _ _ st7)
      refine wpAny_mono (hg fp s3 H3 _ s7 σ5 H7 x u _ I7' r7 (step x H7 y7)) (fun _ s8 ⟨σ8, H8, I8, q8⟩ => ?_) (fun _ _ z => False.elim z)
      refine wpAny_mono (ht fp s3 H3 _ s8 σ8 H8 _ I8 q8) (fun bb s85 ⟨H85, I85, q85⟩ => ?_) (fun _ _ z => False.elim z)
      cases bb with
      | false =>
        rw [if_neg Bool.false_ne_true] at q85 ⊢
        obtain ⟨m', hm', w9⟩ := q85
        refine ⟨m', hm', i + 1, ys, σ8, H85, I85.unpinned, T.keep _ _ _ st7 fun b hb o e => (I85.pin (b, o) (List.mem_append_right _ (List.mem_append_right _ (mem_pinsAt hb e)))).1, fun b hb => ?_, w9⟩
        obtain ⟨o, e, d⟩ := T.obj _ _ st7 b hb
        exact (I85.pin (b, o) (List.mem_append_right _ (List.mem_append_right _ (mem_pinsAt hb e)))).2.1
      | true =>
      rw [if_pos rfl] at q85 ⊢
      refine wpAny_mono (he fp s3 H3 _ s85 σ8 H85 _ I85 q85) (fun v s9 ⟨y, H9, I9, r9, hl9, hz9, m', hm', w9⟩ => ?_) (fun _ _ z => False.elim z)
      refine wpAny_mono (mt_append (X := cxCompC X N scope cl fp s3 H3) _ s9 σ8 H9 (.ref l) [y] (.ref l) [v] (fun z Hz => Hz = upd H9 l (.lst (ys ++ [y]))) I9 rfl (.cons r9 .nil) ⟨l, ys, y, rfl, rfl, hl9, hz9, rfl⟩)
        (fun _ s10 ⟨z, Hz, I10, _, eH⟩ => ?_) (fun _ _ z => False.elim z)
      subst eH
      refine ⟨m', hm', i + 1, ys ++ [y], σ8, _, I10.unpinned, T.keep _ _ _ st7 fun b hb o e => (I10.pin (b, o) (List.mem_append_right _ (List.mem_append_right _ (mem_pinsAt hb e)))).1, fun b hb => ?_, w9⟩
      obtain ⟨o, e, d⟩ := T.obj _ _ st7 b hb
      exact (I10.pin (b, o) (List.mem_append_right _ (List.mem_append_right _ (mem_pinsAt hb e)))).2.1
  exact codeAny_compStart_list loop (T.self X.A 0 _ _ _ st4 loop)
theorem pe_compC (hc : X.calm = true) (Cp : Caps X N scope cl js)
    (hi : PI X target iter wi) (hg : ∀ fp s H, PG (cxCompC X N scope cl fp s H) target g) (he : ∀ fp s H, PE (cxCompC X N scope cl fp s H) elt te)
    (hs : ∀ x, foldedSetIterable iter X.env x = pure x := by intro _; rfl) : PE X (.ListComp elt [⟨target, iter, [], 0⟩] scope pos) (tCompC js wi g te) := by
  intro pins s σ H Q I h
  rw [eval_ListComp]
  refine wpAny_comprehension_free (use := none) (Q := EP X pins σ Q) rfl hs Cp.clos Cp.kind Cp.names
    (compC_core (RR := fun acc C => compPost (model X.prog X.w) X.A X.xe none (EP X pins σ Q) acc C) hc Cp hi hg he I h ?_)
  rintro l C H' s' I' fC ⟨m, hn⟩ q
  exact ⟨m, hn, fun h' sb' => ⟨.ref l, H', I'.turned (t' := s'.toks) (fun b o hb e => (sb'.2 b hb).trans e) fC.1 fC.2.1 fC.2.2.2.1 fC.2.2.2.2.1 fC.2.2.2.2.2, rfl, q⟩⟩
end
/-- over a list, the captured names as they are -/
theorem compCI_li {K : PySem.W.Frag} {a l : Addr} {xs : List V} {σ0 : St} {g : TG} {tt : TT} {te : TE} {R : Hp → Prop} {H1 : Hp} (Pv : Nat → List V → St → Hp → Prop) (h0 : Pv 0 [] σ0 (upd H1 l (.lst []))) (hl : ∀ i ys σ H, i ≤ xs.length → Pv i ys σ H → SqL K H a xs)
    (hs : ∀ i x ys σ H, xs[i]? = some x → Pv i ys σ H → g x σ H fun σ3 H3 => tt σ3 H3 fun c H5 => if c = true then te σ3 H5 fun y H4 => H4 l = some (.lst ys) ∧ ys.length < sizeLine ∧ Pv (i + 1) (ys ++ [y]) σ3 (upd H4 l (.lst (ys ++ [y]))) else Pv (i + 1) ys σ3 H5)
    (hd : ∀ ys σ H, Pv xs.length ys σ H → R H) (mg : ∀ x σ H (A B : St → Hp → Prop), (∀ σ' H', A σ' H' → B σ' H') → g x σ H A → g x σ H B) (mtt : ∀ σ H (A B : Bool → Hp → Prop), (∀ v H', A v H' → B v H') → tt σ H A → tt σ H B) (mt : ∀ σ H (A B : VK), (∀ v H', A v H' → B v H') → te σ H A → te σ H B) :
    ∃ W : Nat → Nat → List V → St → Hp → Prop, (∃ m, W 0 m [] σ0 (upd H1 l (.lst []))) ∧ ∀ i m ys σ' H', W i m ys σ' H' →
      ((Itl K a).stop i H' ∧ R H') ∨ ((Itl K a).go i H' ∧ ∀ x H2, (Itl K a).yld i H' x H2 → g x σ' H2 fun σ3 H3 => tt σ3 H3 fun c H5 => if c = true then te σ3 H5 fun y H4 =>
        H4 l = some (.lst ys) ∧ ys.length < sizeLine ∧ ∃ m', m' < m ∧ W (i + 1) m' (ys ++ [y]) σ3 (upd H4 l (.lst (ys ++ [y]))) else ∃ m', m' < m ∧ W (i + 1) m' ys σ3 H5) := by
  refine ⟨fun i m ys σ H => m = xs.length - i ∧ i ≤ xs.length ∧ Pv i ys σ H, ⟨xs.length, by simp, Nat.zero_le _, h0⟩, ?_⟩
  rintro i m ys σ H ⟨rfl, hi, p⟩
  have q := hl i ys σ H hi p
  by_cases hlt : i < xs.length
  · refine .inr ⟨⟨xs, xs[i], q, by simp [hlt]⟩, fun x H' y => ?_⟩
    obtain ⟨e, y⟩ := y
    subst e
    refine mg _ _ _ _ _ (fun σ3 H3 z => mtt _ _ _ _ (fun c H5 z => ?_) z) (hs i x ys σ _ (y xs q) p)
    cases c with
    | true =>
      rw [if_pos rfl] at z ⊢
      exact mt _ _ _ _ (fun y H4 ⟨z1, z2, z4⟩ => ⟨z1, z2, xs.length - (i + 1), by omega, rfl, hlt, z4⟩) z
    | false =>
      rw [if_neg Bool.false_ne_true] at z ⊢
      exact ⟨xs.length - (i + 1), by omega, rfl, hlt, z⟩
  · have e : i = xs.length := by omega
    subst e
    exact .inl ⟨⟨xs, q, Nat.le_refl _⟩, hd ys σ H p⟩
end L2

set_option Elab.async false
set_option linter.all false
set_option maxRecDepth 100000
set_option maxHeartbeats 4000000
namespace L2
open PySem PySem.Spec PyProof.Rows QQ
/-! ### xs[::-1] -/
section
variable {X : Cx} {e e1 : Expr} {te t1 : TE} {pos p2 : Pos}
def tRev (K : PySem.W.Frag) (te t1 : TE) : TE := fun σ H Q => te σ H fun x H1 => t1 σ H1 fun y H2 => ∃ a xs, x = .ref a ∧ y = .int (-1) ∧ SqL K H2 a xs ∧ ∀ p, H2 p = none → Q (.ref p) (upd H2 p (.lst xs.reverse))
end
end L2

set_option Elab.async false
set_option linter.all false
set_option maxRecDepth 100000
set_option maxHeartbeats 4000000
namespace L2
open PySem PySem.Spec PyProof.Rows QQ
section
variable {X : Cx} {a b : Expr} {rest : List Expr} {ta tb : TE} {pos : Pos}
/-! ### all(truths), all of them true; (a list) or .. -/
def tOrL (K : PySem.W.Frag) (ta tb : TE) : TE := fun σ H Q => ta σ H fun x H1 => ∃ p xs, x = .ref p ∧ SqL K H1 p xs ∧ ((xs = [] ∧ tb σ H1 Q) ∨ (xs ≠ [] ∧ Q (.ref p) H1))
end
end L2

set_option Elab.async false
set_option linter.all false
set_option maxRecDepth 100000
set_option maxHeartbeats 2000000
namespace L2
open PySem PyProof.Rows
/-- a record that may turn -/
theorem Inv.turn {X : Cx} {pins : List (Addr × Obj)} {σ : St} {H : Hp} {s : Shared} {a : Addr} {g : Obj → Obj} (I : Inv X pins σ H s) (fa : FpOk X pins H a) : Inv X pins σ H { s with heap := s.heap.update a g } :=
  I.turned (t' := s.toks) (fun b o hb e => by rw [Heap.get?_update_ne _ _ _ _ hb]; exact e) fa.1 fa.2.1 fa.2.2.2.1 fa.2.2.2.2.1 fa.2.2.2.2.2
end L2

set_option Elab.async false
set_option linter.all false
set_option maxRecDepth 100000
set_option maxHeartbeats 2000000
namespace L2
open PySem PyProof.Rows QQ
/-! ### as a rule of the layer -/
inductive PR : List (Value × Value) → List (Int × V) → Prop
  | nil : PR [] []
  | cons {k v : Value} {n : Int} {x : V} {l : List (Value × Value)} {m : List (Int × V)} : (∃ t, k = .int n t) → RelV x v → PR l m → PR ((k, v) :: l) ((n, x) :: m)
def tSortK (K : PySem.W.Frag) (sp : Sp) (t : TA) : TE := fun σ H Q => t σ H fun zs H1 => ∃ (p : Addr) (xs : List V) (ks : List Int), zs = [.ref p] ∧ SqL K H1 p xs ∧ xs.length = ks.length ∧ xs.length < 64 ∧
  (∀ (i : Nat) (v : V) (k : Int), xs[i]? = some v → ks[i]? = some k → sp [v] H1 (fun r H2 => r = .int k ∧ H2 = H1) E0) ∧
  ∀ (l : Addr) (m : List (Int × V)), H1 l = none → (ks.zip xs).Perm m → (m.map (·.1)).Pairwise (· ≤ ·) → Q (.ref l) (upd H1 l (.lst (m.map (·.2))))
section
variable {X : Cx} {k : Nat} {f : Addr} {fd : FuncData} {x : Str} {sp : Sp} {e : Expr} {te : TE} {fe : Expr} {p kp pos : Pos} {y : Str}
end
end L2

set_option Elab.async false
set_option linter.all false
set_option maxRecDepth 100000
set_option maxHeartbeats 2000000
namespace L2
open PySem PyProof.Rows QQ
section
variable {X : Cx}
theorem num_at {ys : Array (Int × Tok)} {ns : List Int} (e1 : ns = ys.toList.map (·.1)) {i : Nat} (h : i < ns.length) : numAt ys i = ns[i] := by
  subst e1
  rw [List.length_map, Array.length_toList] at h
  simp [numAt, h]
/-- max(a list of numbers) -/
theorem call_maxL (hc : X.A.handled = none) : CallR X (.builtin "max") (fun xs H Q => ∃ (p : Addr) (ns : List Int), xs = [.ref p] ∧ SqL X.K H p (ns.map V.int) ∧ 0 < ns.length ∧ ∀ n ∈ ns, (∀ m ∈ ns, m ≤ n) → Q (.int n) H) := by
  intro pins s σ H xs us Q I r h
  obtain ⟨p, ns, rfl, hq, hne, q⟩ := h
  obtain ⟨u, rfl, rx⟩ := vals1 r
  cases rx
  obtain ⟨its, rv, pl, hz⟩ := I.list hq
  have hi := intsAre_of rv
  obtain ⟨ys, hx⟩ := hi.allInts.items
  have hl : s.heap.IsList p (intItems ys) := hx ▸ pl.isList
  have e1 : ns = ys.toList.map (·.1) := by
    rw [← nums_intItems, ← hx]
    exact (show numsOf its.toArray.toList = ns from hi.numsOf).symm
  have hsz : ns.length = ys.size := by rw [e1]; simp
  refine max_intList hc hl (by omega) fun v h' tk hv hk => ?_
  obtain ⟨t, rfl⟩ := intItems_at hv
  obtain ⟨h1, h2⟩ := argBest_gt (numAt ys) (ys.size - 1)
  generalize argBest (fun i j => decide (numAt ys i > numAt ys j)) (ys.size - 1) = b at *
  have hb : b < ns.length := by omega
  have eb := num_at e1 hb
  refine ⟨.int ns[b], H, I.kept (t' := tk) hk, ⟨t, by rw [eb]⟩, q _ (List.getElem_mem hb) fun m hm => ?_⟩
  obtain ⟨j, hj, rfl⟩ := List.getElem_of_mem hm
  have := h2 j (by omega)
  rw [num_at e1 hj, eb] at this
  exact this
end
end L2

set_option Elab.async false
set_option linter.all false
set_option maxRecDepth 100000
set_option maxHeartbeats 4000000
namespace QQ
open PySem PyProof.Rows
section
variable {prog : Program} {w : World} {A : Around} {E : Value → Shared → Prop} {s : Shared}
theorem enum_end_q {e it l : Addr} {i : Nat} {items : Array Value} {old : Value} {Q : Option Value → Shared → Prop} (hq : Hq A s.heap)
    (he : IsEnum s.heap e it i old) (hit : s.heap.IsListIter it l i) (hl : s.heap.IsList l items) (hx : items[i]? = none)
    (hQ : ∀ h', Heap.ExtBut it s.heap h' → Q none { s with heap := h' }) : wpAny (model prog w) A (pyNext (.ref e)) Q E s := by
  have hT : s.TypeIs (.ref e) "enumerate" := ⟨_, he, rfl⟩
  unfold pyNext
  refine wpAny_bind (wpAny_attempt (wpAny_callSpecial?_slot (name := Str.ofString "__next__") hT PySem.F.slot_enumerate_next
    (wpAny_call_entry PySem.F.slot_enumerate_next hT PySem.F.entry_enumerate_next ?_ (PySem.F.args_enumerate_next_1 _))))
  show wpAny _ _ (field (.ref e) 2 >>= _) _ _ _
  refine wpAny_bind (wpAny_field he rfl (x := .ref it) rfl ?_)
  refine wpAny_bind (nextOf_end_q (A := A.in1) hq hit hl hx fun h' x he' hx' => ?_)
  obtain ⟨o, ho, hc⟩ := hx'
  refine wpAny_bind (wpAny_isInstance (T := "StopIteration") (b := true) ⟨o, ho, hc⟩ isSubtype_stop ?_)
  exact wpAny_pure (hQ _ he')
end
end QQ
namespace L2
open PySem PySem.Spec PyProof.Rows QQ
/-! ### enumerate -/
def Ite (K : PySem.W.Frag) (a : Addr) : It :=
  ⟨fun i H => ∃ xs x, SqL K H a xs ∧ xs[i]? = some x, fun i H v H' => ∃ p x, H p = none ∧ v = .ref p ∧ H' = upd H p (.tup [.int (i : Int), x]) ∧ ∀ xs, SqL K H a xs → xs[i]? = some x, fun i H => ∃ xs, SqL K H a xs ∧ xs.length ≤ i⟩
theorem turn_enum {P : Program} {w : World} {K : PySem.W.Frag} {es : List Expr} {k : Nat} {pos : Pos} (a e it : Addr) (hne : e ≠ it) :
    Turn P w K (.Tuple es k pos) (Ite K a) [e, it] e (fun i h => (∃ old, IsEnum h e it ((i : Nat) : Int) old) ∧ h.IsListIter it a i) where
  mem := by simp
  obj := fun i h st b hb => by
    obtain ⟨⟨old, he⟩, hit⟩ := st
    rcases List.mem_cons.mp hb with hb | hb
    · subst hb
      exact ⟨_, he, fun v z => by
        have z' : Data.fields _ = Data.cell v := z
        cases z'⟩
    · obtain rfl := List.mem_singleton.mp hb
      obtain ⟨o, e', c, d⟩ := hit
      exact ⟨o, e', fun v z => by rw [d] at z; cases z⟩
  keep := fun i h h' st k => by
    obtain ⟨⟨old, he⟩, hit⟩ := st
    exact ⟨⟨old, k e (by simp) _ he⟩, hit.at fun o x => k it (by simp) o x⟩
  item := by
    intro X hP hw hK hc i pins s σ H E I hf st hg
    subst hP hw hK
    obtain ⟨⟨old, he⟩, hit⟩ := st
    obtain ⟨xs, x, hq, hx⟩ := hg
    obtain ⟨its, rv, p, hz⟩ := I.list hq
    obtain ⟨u, hu, ru⟩ := rv.get hx
    obtain ⟨e0, e1, e2, e3, e4, e5⟩ := hf e (by simp)
    obtain ⟨f0, f1, f2, f3, f4, f5⟩ := hf it (by simp)
    have elt : e < s.heap.objs.size := Heap.lt_size he
    have ilt : it < s.heap.objs.size := by obtain ⟨o, e', _⟩ := id hit; exact Heap.lt_size e'
    have hT : H s.heap.objs.size = none := I.hok.fresh (Nat.le_refl _)
    refine wpAny_pyNext_enum_item he hit p.isList (x := u) (by simpa using hu) hne fun h1 ho hit1 ht hsz kk => ?_
    refine ⟨_, rfl, wpAny_letOwnedTupleGo_enum (s := { s with heap := h1, toks := s.toks + 1 }) ho fun h2 he2 hs2 => ?_⟩
    have kept : ∀ b o, b ≠ e → b ≠ it → s.heap.get? b = some o → h2.get? b = some o := fun b o n1 n2 x => (hs2.2 b n1).trans (kk b o n1 n2 x)
    have htup : h2.get? s.heap.objs.size = some { cls := .type "tuple", data := .seq #[.int i s.toks, u] } := (hs2.2 _ (Nat.ne_of_gt elt)).trans ht
    have hT2 : ∀ b o, s.heap.get? b = some o → b ≠ s.heap.objs.size := fun b o x => Nat.ne_of_lt (Heap.lt_size x)
    have nT : ∀ b o, H b = some o → b ≠ s.heap.objs.size := fun b o x z => by rw [z, hT] at x; cases x
    have nE : ∀ b o, H b = some o → b ≠ e ∧ b ≠ it := fun b o x => ⟨fun z => (by rw [z, e0] at x; cases x), fun z => (by rw [z, f0] at x; cases x)⟩
    have he3 : IsEnum h2 e it (((i + 1 : Nat) : Int)) u := by
      have : (((i + 1 : Nat) : Int)) = (i : Int) + 1 := by omega
      rw [this]; exact he2
    have hit2 : h2.IsListIter it a (i + 1) := hit1.at fun o x => (hs2.2 it hne.symm).trans x
    have I2 : Inv X pins σ (upd H s.heap.objs.size (.tup [.int (i : Int), x])) { s with heap := h2, toks := s.toks + 1 } := by
      refine I.step (g' := s.gens) (d' := s.drawn) (ch := [e, it]) (fun b hb => ?_) (fun b o _ _ hb x _ => kept b o (fun z => hb (by simp [z])) (fun z => hb (by simp [z])) x)
        (fun b o _ _ hb x _ => ⟨o.slots, kept b o (fun z => hb (by simp [z])) (fun z => hb (by simp [z])) x⟩) (fun b o _ x n => by rw [upd_ne (hT2 b o x)]; exact n)
        (fun b o hb x => ⟨o, kept b o (fun z => hb (by simp [z])) (fun z => hb (by simp [z])) x⟩) (fun b xs x => by rw [upd_ne (nT b _ x)]; exact x) (fun b o u x => by rw [upd_ne (nT b _ x)]; exact x)
        (fun b ps x => ⟨#[], by rw [upd_ne (nT b _ x), x]; simp⟩) (fun m hm => ?_) (fun b o x => ?_) I.bare
      · rcases List.mem_cons.mp hb with hb | hb
        · subst hb; exact ⟨e3, e1, e4, e5⟩
        · obtain rfl := List.mem_singleton.mp hb
          exact ⟨f3, f1, f4, f5⟩
      · obtain ⟨o, es', ep, ho', r⟩ := hm
        exact ⟨o, es', ep, kept _ o (Ne.symm e1) (Ne.symm f1) ho', r⟩
      · by_cases hb : b = s.heap.objs.size
        · subst hb
          rw [upd_same] at x
          cases x
          exact ⟨by show 2 ≤ sizeLine; decide, [.int i s.toks, u], .cons ⟨_, rfl⟩ (.cons ru .nil), ⟨_, htup, rfl, _, rfl⟩⟩
        · rw [upd_ne hb] at x
          refine (I.hok b o x).stay (fun c v hc' q => ?_) (fun c q => by rw [upd_ne (nT c _ q)]; exact q) fun c xs q => by rw [upd_ne (nT c _ q)]; exact q
          rcases hc' with z | z
          · subst z; exact kept c v (nE c _ x).1 (nE c _ x).2 q
          · exact kept c v (nE c _ z).1 (nE c _ z).2 q
    refine ⟨.ref s.heap.objs.size, _, I2, rfl, ⟨_, x, hT, rfl, rfl, fun ys hy => by rw [I.list_inj hy hq]; exact hx⟩, ⟨⟨u, he3⟩, hit2⟩, fun b hb => ?_⟩
    rcases List.mem_cons.mp hb with hb | hb
    · subst hb; rw [upd_ne (Nat.ne_of_lt elt)]; exact e0
    · obtain rfl := List.mem_singleton.mp hb
      rw [upd_ne (Nat.ne_of_lt ilt)]; exact f0
  done := by
    intro X hP hw hK hc i pins s σ H E I hf st hg
    subst hP hw hK
    obtain ⟨⟨old, he⟩, hit⟩ := st
    obtain ⟨xs, hq, hx⟩ := hg
    obtain ⟨its, rv, p, hz⟩ := I.list hq
    obtain ⟨f0, f1, f2, f3, f4, f5⟩ := hf it (by simp)
    have hl := rv.length
    exact enum_end_q I.hq he hit p.isList (by simp; omega) fun h' eb => ⟨rfl, I.turned (t' := s.toks) (fun b o hb e => eb b o hb e) f0 f1 f3 f4 f5⟩
  self := fun _ _ _ _ _ st h => by
    obtain ⟨⟨old, he⟩, hit⟩ := st
    exact wpAny_pyIter_enum he h
def iEnum (K : PySem.W.Frag) (ta : TA) : TI := fun σ H R => ta σ H fun vs H1 => ∃ l xs, vs = [.ref l] ∧ SqL K H1 l xs ∧ R (Ite K l) H1
theorem pi_enum {X : Cx} {a : Expr} {ta : TA} {p pos q : Pos} {es : List Expr} {k : Nat} (hg : Gl X "enumerate") (hm : X.mg "enumerate" = none) (ha : PA X [a] ta) (hs : starEach [a] X.env = [(false, eval a X.env)] := by rfl) :
    PI X (.Tuple es k q) (.Call (.Name "enumerate" p) [a] [] pos) (iEnum X.K ta) := by
  intro pins s σ H R I h
  refine Call_ (ld_blt I hg hm boot_enumerate (PyProof.Rows.callWith_type1 (thn (ha pos pins s σ H _ I h) fun us s1 ⟨vs, H1, I1, r1, q1⟩ => ?_) hs rfl))
  obtain ⟨l, xs, e, hq, q⟩ := q1
  subst e
  cases r1 with
  | cons r rr =>
    cases rr
    cases r
    obtain ⟨its, rv, p, hz⟩ := I1.list hq
    refine call_enumerate_list p.isList fun h' he hit hsz hk => ?_
    have I2 : Inv X pins σ H1 { s1 with heap := h' } := I1.kept (t' := s1.toks) hk
    refine wpAny_pyIter_enum he ⟨s1.heap.objs.size + 1, [s1.heap.objs.size + 1, s1.heap.objs.size], _, _, H1, rfl, I2, turn_enum l _ _ (Nat.succ_ne_self _), ⟨⟨_, he⟩, hit⟩, fun b hb => ?_, q⟩
    have hb' : s1.heap.objs.size ≤ b := by
      rcases List.mem_cons.mp hb with hb | hb
      · rw [hb]; exact Nat.le_succ _
      · rw [List.mem_singleton.mp hb]; exact Nat.le_refl _
    exact I1.fpOk hb' (I1.hok.fresh hb')
end L2

set_option Elab.async false
set_option linter.all false
set_option maxRecDepth 100000
set_option maxHeartbeats 4000000
namespace L2
open PySem PySem.Spec PyProof.Rows QQ
/-! ### comprehensions over zip -/
/-! ### a list of numbers in a list of such -/
/-- the rows are lists of numbers, and this one is among them -/
def rInLL (K : PySem.W.Frag) : R2 := fun x y H Q => ∃ (p q : Addr) (ns : List Int) (ts : List Addr) (Rs : List (List Int)), x = .ref p ∧ y = .ref q ∧ SqL K H p (ns.map V.int) ∧ SqL K H q (ts.map V.ref) ∧ ts.length = Rs.length ∧ (∀ (i : Nat) (t : Addr) (r : List Int), ts[i]? = some t → Rs[i]? = some r → SqL K H t (r.map V.int)) ∧ ns ∈ Rs ∧ Q (.bl true) H
/-! ### list.insert -/
section
variable {X : Cx}
def rInsert : V → List V → Hp → VK → Prop := fun x vs H Q => ∃ (l : Addr) (xs : List V) (i : Nat) (y : V), x = .ref l ∧ vs = [.int ((i : Nat) : Int), y] ∧ H l = some (.lst xs) ∧ i ≤ xs.length ∧ xs.length < sizeLine ∧ Q .non (upd H l (.lst (xs.take i ++ y :: xs.drop i)))
end
end L2
namespace L2
open PySem PySem.Spec PyProof.Rows QQ
end L2

set_option Elab.async false
set_option linter.all false
set_option maxRecDepth 100000
set_option maxHeartbeats 4000000
namespace L2
open PySem PySem.Spec PyProof.Rows QQ
/-! ### one of two readings -/
theorem PE.either {X : Cx} {e : Expr} {t u : TE} (h : PE X e t) (g : PE X e u) : PE X e (fun σ H Q => t σ H Q ∨ u σ H Q) := by
  intro pins s σ H Q I z
  rcases z with z | z
  · exact h pins s σ H Q I z
  · exact g pins s σ H Q I z
/-! ### C() without an __init__ of its own -/
structure MkB (K : PySem.W.Frag) (C : Addr) : Prop where
  makes : PySem.W.makesIn K C = true
  init : PySem.W.findIn K (.ref C) "__init__" = some (some (.builtin "object.__init__"))
  kp : PySem.W.keepIn K (.ref C) = true
def tMakeB (C : Addr) : TE := fun _ H Q => ∀ x dx, H x = none → H dx = none → dx ≠ x → Q (.ref x) (upd (upd H dx (.own x)) x (.ins C dx []))
section
variable {X : Cx}
/-! ### isinstance of an own class -/
/-! ### lists of lists of numbers, or of None, that are the same -/
def SameXs (K : PySem.W.Frag) (H : Hp) (p q : Addr) : Prop := ∃ xs ys : List V, SqL K H p xs ∧ SqL K H q ys ∧ xs.length = ys.length ∧ ∀ (i : Nat) (x y : V), xs[i]? = some x → ys[i]? = some y → (x = .non ∧ y = .non) ∨ ∃ (a b : Addr) (ns : List Int), x = .ref a ∧ y = .ref b ∧ SqL K H a (ns.map V.int) ∧ SqL K H b (ns.map V.int)
def rEqXs (K : PySem.W.Frag) : R2 := fun x y H Q => ∃ (p q : Addr), x = .ref p ∧ y = .ref q ∧ SameXs K H p q ∧ Q (.bl true) H
end
end L2

set_option Elab.async false
set_option linter.all false
set_option maxRecDepth 100000
set_option maxHeartbeats 4000000
namespace L2
open PySem PySem.Spec PyProof.Rows QQ
section
variable {X : Cx}
/-! ### list.index of a number in a list of numbers -/
def rIndex (K : PySem.W.Frag) : V → List V → Hp → VK → Prop := fun x vs H Q => ∃ (l : Addr) (ns : List Int) (k : Int) (j : Nat), x = .ref l ∧ vs = [.int k] ∧ H l = some (.lst (ns.map V.int)) ∧ ns[j]? = some k ∧ (∀ i < j, ns[i]? ≠ some k) ∧ Q (.int ((j : Nat) : Int)) H
end
end L2

set_option Elab.async false
set_option linter.all false
set_option maxRecDepth 100000
set_option maxHeartbeats 4000000
namespace L2
open PySem PySem.Spec PyProof.Rows QQ
section
variable {X : Cx}
def rNeXs (K : PySem.W.Frag) : R2 := fun x y H Q => ∃ (p q : Addr), x = .ref p ∧ y = .ref q ∧ SameXs K H p q ∧ Q (.bl false) H
end
end L2

set_option Elab.async false
set_option linter.all false
set_option maxRecDepth 100000
set_option maxHeartbeats 4000000
namespace L2
open PySem PySem.Spec PyProof.Rows QQ
section
variable {X : Cx}
/-! ### lists with the same things in them, by themselves or as tuples of plain ones -/
def EqG (K : PySem.W.Frag) (H : Hp) (x y : V) : Prop := (x = y ∧ (flatV x = true ∨ ∃ a, x = .ref a)) ∨ ∃ (a b : Addr) (xs : List V), x = .ref a ∧ y = .ref b ∧ SqT K H a xs ∧ SqT K H b xs ∧ xs.all flatV = true
def SameGs (K : PySem.W.Frag) (H : Hp) (p q : Addr) : Prop := ∃ xs ys : List V, SqL K H p xs ∧ SqL K H q ys ∧ xs.length = ys.length ∧ ∀ (i : Nat) (x y : V), xs[i]? = some x → ys[i]? = some y → EqG K H x y
theorem sameGs_at {pins : List (Addr × Obj)} {σ : St} {H : Hp} {s : Shared} (I : Inv X pins σ H s) {p q : Addr} (h : SameGs X.K H p q) {A : Around} (hu : A.units < cLine) : ∃ its its2 : List Value, s.heap.IsList p its.toArray ∧ s.heap.IsList q its2.toArray ∧ its.toArray.size = its2.toArray.size ∧ ∀ j (h1 : j < its.toArray.size) (h2 : j < its2.toArray.size), SeqAt.EqAt A s its.toArray[j] its2.toArray[j] true := by
  obtain ⟨xs, ys, h1, h2, hl, hi⟩ := h
  obtain ⟨its, rv, pl, hz⟩ := I.list h1
  obtain ⟨its2, rv2, pl2, hz2⟩ := I.list h2
  have l1 := rv.length
  have l2 := rv2.length
  refine ⟨its, its2, pl.isList, pl2.isList, by rw [List.size_toArray, List.size_toArray]; omega, fun j j1 j2 => ?_⟩
  have k1 : j < xs.length := by simp at j1; omega
  have k2 : j < ys.length := by omega
  obtain ⟨u1, e1, r1⟩ := rv.get (i := j) (x := xs[j]) (by simp [k1])
  obtain ⟨u2, e2, r2⟩ := rv2.get (i := j) (x := ys[j]) (by simp [k2])
  have g1 : its.toArray[j] = u1 := by
    obtain ⟨_, z⟩ := List.getElem?_eq_some_iff.mp e1
    simpa using z
  have g2 : its2.toArray[j] = u2 := by
    obtain ⟨_, z⟩ := List.getElem?_eq_some_iff.mp e2
    simpa using z
  rw [g1, g2]
  rcases hi j xs[j] ys[j] (by simp [k1]) (by simp [k2]) with ⟨z1, f | ⟨a, z2⟩⟩ | ⟨a, b, zs, z1, z2, q1, q2, fl⟩
  · rw [← z1] at r2
    rw [← eqV_self _ f]
    exact eqAt_V r1 r2 f f
  · rw [← z1] at r2
    rw [z2] at r1 r2
    cases r1
    cases r2
    exact SeqAt.EqAt.same _
  · rw [z1] at r1
    rw [z2] at r2
    cases r1
    cases r2
    exact eqAt_tup I q1 q2 fl hu
def rNeGs (K : PySem.W.Frag) : R2 := fun x y H Q => ∃ (p q : Addr), x = .ref p ∧ y = .ref q ∧ SameGs K H p q ∧ Q (.bl false) H
def rEqGs (K : PySem.W.Frag) : R2 := fun x y H Q => ∃ (p q : Addr), x = .ref p ∧ y = .ref q ∧ SameGs K H p q ∧ Q (.bl true) H
theorem op_eqGs (hu : X.A.units + 64 < cLine) : OpR X (compareOp .Eq) (rEqGs X.K) := by
  intro pins s σ H x y v u Q I rx ry h
  obtain ⟨p, q, rfl, rfl, h, k⟩ := h
  cases rx
  cases ry
  obtain ⟨its, its2, pl, pl2, hz, he⟩ := sameGs_at (A := X.A.in1) I h (by show X.A.units + 1 < _; omega)
  refine SeqAt.RcAt.lists (e := fun _ => true) pl pl2 hz (by omega) he _ _ _ _ ?_
  refine ⟨.bl true, H, I, ?_, k⟩
  show Value.bool _ = Value.bool _
  simp
/-! ### list.count of a number in a list of numbers -/
theorem countP_ints (k : Int) : ∀ {ns : List Int} {us : List Value}, Vals (ns.map V.int) us → us.countP (eqU (.int k)) = ns.count k
  | [], _, .nil => rfl
  | n :: ns, _, .cons r t => by
    obtain ⟨tk, rfl⟩ := r
    rw [List.countP_cons, countP_ints k t, List.count_cons]
    rfl
def rCount (K : PySem.W.Frag) : V → List V → Hp → VK → Prop := fun x vs H Q => ∃ (l : Addr) (ns : List Int) (k : Int), x = .ref l ∧ vs = [.int k] ∧ H l = some (.lst (ns.map V.int)) ∧ Q (.int ((ns.count k : Nat) : Int)) H
theorem mt_count : MtR X "list.count" (rCount X.K) := by
  intro pins s σ H x vs v us Q I rx rv h
  obtain ⟨l, ns, k, rfl, rfl, hH, q⟩ := h
  cases rx
  obtain ⟨u, rfl, ru⟩ := vals1 rv
  obtain ⟨t, rfl⟩ := ru
  obtain ⟨z, its, n, r, hl, e⟩ := I.lstM hH
  have hf : (ns.map V.int).all flatV = true := by simp [flatV]
  have g := SeqAt.list_countAt l its.toArray n none #[] (.int k t) (eqU (.int k))
  refine call_meets F.slot_list_count ⟨_, e, rfl⟩ F.entry_list_count (F.args_list_count_2 (.ref l) (.int k t)) g ⟨e, fun y hy => mem_eqAt (x := .int k) ⟨t, rfl⟩ rfl r hf y (by simpa using hy), ?_⟩
  refine ⟨.int ((ns.count k : Nat) : Int), H, I.tok _, ⟨s.toks, ?_⟩, q⟩
  rw [show its.toArray.toList = its from rfl, countP_ints k r]
/-! ### one of two readings of an operator; {} != itself -/
theorem OpR.either {f : Value → Value → Sem Value} {r t : R2} (h : OpR X f r) (g : OpR X f t) : OpR X f (fun x y H Q => r x y H Q ∨ t x y H Q) := by
  intro pins s σ H x y v u Q I rx ry z
  rcases z with z | z
  · exact h pins s σ H x y v u Q I rx ry z
  · exact g pins s σ H x y v u Q I rx ry z
def rNeD0 : R2 := fun x y H Q => ∃ p : Addr, x = .ref p ∧ y = .ref p ∧ H p = some (.dK []) ∧ Q (.bl false) H
/-! ### for i, x in enumerate(list) -/
theorem for_en {K : PySem.W.Frag} {a : Addr} {xs : List V} {g : TG} {tb : TS} {D : Ends} {σ : St} {H : Hp} (Pv : Nat → St → Hp → Prop) (h0 : Pv 0 σ H) (hl : ∀ i σ H, i ≤ xs.length → Pv i σ H → SqL K H a xs)
    (hs : ∀ i x p σ H, xs[i]? = some x → H p = none → Pv i σ H → g (.ref p) σ (upd H p (.tup [.int ((i : Nat) : Int), x])) fun σ2 H2 => tb { D with nx := Pv (i + 1), ct := Pv (i + 1), bk := D.nx } σ2 H2) (hd : ∀ σ H, Pv xs.length σ H → D.nx σ H) :
    ∃ W : Nat → Nat → St → Hp → Prop, (∃ m, W 0 m σ H) ∧ ∀ i m σ H, W i m σ H →
      ((Ite K a).stop i H ∧ D.nx σ H) ∨ ((Ite K a).go i H ∧ ∃ N : St → Hp → Prop, (∀ σ' H', N σ' H' → ∃ m', m' < m ∧ W (i + 1) m' σ' H') ∧ ∀ x H', (Ite K a).yld i H x H' → g x σ H' fun σ2 H2 => tb { D with nx := N, ct := N, bk := D.nx } σ2 H2) := by
  refine ⟨fun i m σ H => m = xs.length - i ∧ i ≤ xs.length ∧ Pv i σ H, ⟨xs.length, by simp, Nat.zero_le _, h0⟩, ?_⟩
  rintro i m σ H ⟨rfl, hi, p⟩
  have q := hl i σ H hi p
  by_cases hlt : i < xs.length
  · refine .inr ⟨⟨xs, xs[i], q, by simp [hlt]⟩, Pv (i + 1), fun σ' H' p' => ⟨xs.length - (i + 1), by omega, rfl, hlt, p'⟩, fun x H' y => ?_⟩
    obtain ⟨p1, x1, hp1, e1, e2, y⟩ := y
    subst e1 e2
    exact hs i x1 p1 σ _ (y xs q) hp1 p
  · have e : i = xs.length := by omega
    subst e
    exact .inl ⟨⟨xs, q, Nat.le_refl _⟩, hd σ H p⟩
/-! ### [.. for x in range(..) if ..] with captured names -/
end
section
variable {X : Cx} {N : List Str} {scope : Scope} {cl : List (Str × Addr)} {js : List (Option Nat)} {elt cnd target iter : Expr} {pos : Pos} {wi : TI} {g : TG} {tt : TT} {te : TE}
/-- name = [elt for target in iter if cnd], names captured -/
theorem ps_setCCI {i : Nat} {y : Str} {py spos : Pos} (hN : X.N.Nodup) (hiy : X.N[i]? = some y) (hy : Loc X.env.scope y)
    (hc : X.calm = true) (Cp : Caps X N scope cl js)
    (hi : PI X target iter wi) (hg : ∀ fp s H, PG (cxCompC X N scope cl fp s H) target g) (ht : ∀ fp s H, PT (cxCompC X N scope cl fp s H) cnd tt) (he : ∀ fp s H, PE (cxCompC X N scope cl fp s H) elt te)
    (hsw : swapsWith (.ListComp elt [⟨target, iter, [cnd], 0⟩] scope pos) (some (.Name y py)) spos.line X.env = pure true)
    (hs : ∀ x, foldedSetIterable iter X.env x = pure x := by intro _; rfl) (hf : X.fn y = true ∨ X.env.scope.names.lookup y = some .local := by first | exact .inl rfl | exact .inr rfl | assumption) :
    PS X (.Assign [.Name y py] (.ListComp elt [⟨target, iter, [cnd], 0⟩] scope pos) spos) (tSetC i (tCompCI js wi g tt te)) := by
  intro pins s σ H D I h
  rw [exec_Assign_Name_used _ _ _ _ hsw]
  refine wpAny_bind (wpAny_standAt (wpAny_bind ?_))
  show wpAny _ X.A (do let _ ← comprehension (.ListComp elt [⟨target, iter, [cnd], 0⟩] scope pos) scope X.env _ (newList []) false (eval iter X.env) (some (assign (.Name y py) X.env))) _ _ s
  refine wpAny_bind (wpAny_mono (wpAny_comprehension_free (use := some (assign (.Name y py) X.env)) (Q := fun _ s' => SP X pins D .next s') rfl hs Cp.clos Cp.kind Cp.names
    (compCI_core (RR := fun acc C => compPost (model X.prog X.w) X.A X.xe (some (assign (.Name y py) X.env)) (fun _ s' => SP X pins D .next s') acc C) hc Cp hi hg ht he I h ?_)) (fun _ s' hq => wpAny_pure (wpAny_pure hq)) fun _ _ e => e)
  rintro l C H' s' I' fC ⟨m, hn⟩ q
  show wpAny _ X.A (assign (.Name y py) X.env (.ref l)) _ _ _
  refine wpAny_assign_Name (store_ok2 (v := .ref l) I' hN hiy hy (show RelV (.ref l) (.ref l) from rfl) (fun s2 I2 ⟨a, sb, ha⟩ => ?_) hf)
  have hCa : C ≠ a := by
    rcases ha with ha | ha
    · rw [ha]; exact fC.2.1
    · exact Ne.symm (fC.2.2.2.2.1 y a ha)
  exact ⟨m, hn.sameBut sb hCa, fun h' sb' => ⟨_, H', I2.turned (t' := s2.toks) (fun b o hb e => (sb'.2 b hb).trans e) fC.1 fC.2.1 fC.2.2.2.1 fC.2.2.2.2.1 fC.2.2.2.2.2, q⟩⟩
end
/-! ### (a, b) != (c, d) of numbers -/
def rNeT2 (K : PySem.W.Frag) : R2 := fun x y H Q => ∃ (p q : Addr) (a b c d : Int), x = .ref p ∧ y = .ref q ∧ SqT K H p [.int a, .int b] ∧ SqT K H q [.int c, .int d] ∧ Q (.bl (!(decide (a = c) && decide (b = d)))) H
end L2

set_option Elab.async false
set_option linter.all false
set_option maxRecDepth 100000
set_option maxHeartbeats 4000000
namespace L2
open PySem PySem.Spec PyProof.Rows QQ
section
variable {X : Cx}
/-! ### isinstance of an error and a tuple of classes, none of which is its own -/
/-! ### f'..{n}..', the text unsaid -/
def tFs (n : Int) (te : TE) : TE := fun σ H Q => te σ H fun v H1 => v = .int n ∧ ∀ z : Str, Q (.str z) H1
end
end L2

set_option Elab.async false
set_option linter.all false
set_option maxRecDepth 100000
set_option maxHeartbeats 4000000
namespace L2
open PySem PySem.Spec PyProof.Rows QQ
/-! ### comprehensions over a text and over a range with a step -/
/-! ### methods of texts -/
theorem vals_strs : ∀ {ys : List Str} {us : List Value}, Vals (ys.map V.str) us → ∃ l : List (Str × Tok), us = strValues l ∧ l.map (·.1) = ys
  | [], us, r => by
    cases r
    exact ⟨[], rfl, rfl⟩
  | y :: ys, us, r => by
    obtain ⟨u, us', rfl, ru, r'⟩ : ∃ u us', us = u :: us' ∧ RelV (V.str y) u ∧ Vals (ys.map V.str) us' := by
      cases r with
      | cons a b => exact ⟨_, _, rfl, a, b⟩
    obtain ⟨t, rfl⟩ := ru
    obtain ⟨l, rfl, e⟩ := vals_strs r'
    exact ⟨(y, t) :: l, rfl, by simp [e]⟩
section
variable {X : Cx}
def rJoin : V → List V → Hp → VK → Prop := fun x vs H Q => ∃ (sep : Str) (l : Addr) (ys : List Str), x = .str sep ∧ vs = [.ref l] ∧ H l = some (.lst (ys.map V.str)) ∧ JoinOk sep ys = true ∧ Q (.str (Txt.join sep ys)) H
theorem mt_join : MtR X "str.join" rJoin := by
  intro pins s σ H x vs v us Q I rx rv h
  obtain ⟨sep, l, ys, rfl, rfl, hH, ok, q⟩ := h
  obtain ⟨t, rfl⟩ := rx
  obtain ⟨u, rfl, ru⟩ := vals1 rv
  cases ru
  obtain ⟨z, its, n, r, hl, e⟩ := I.lstM hH
  obtain ⟨l2, rfl, e2⟩ := vals_strs r
  refine SC.join (D := l) (l := l2) ⟨_, e, rfl, _, rfl⟩ e2 ok fun t' k => ?_
  exact ⟨.str (Txt.join sep ys), H, I.tok _, ⟨_, rfl⟩, q⟩
def rSIndex : V → List V → Hp → VK → Prop := fun x vs H Q => ∃ (z y : Str) (i : Nat) (rest : List Nat), x = .str z ∧ vs = [.str y] ∧ Builtin.Str.occurrences z y 0 z.length 1 = i :: rest ∧ Q (.int ((i : Nat) : Int)) H
def rUpper : V → List V → Hp → VK → Prop := fun x vs H Q => ∃ (z : Str), x = .str z ∧ vs = [] ∧ Builtin.Str.tooLong (Txt.upper z).length = false ∧ Q (.str (Txt.upper z)) H
end
end L2

set_option Elab.async false
set_option linter.all false
set_option maxRecDepth 100000
set_option maxHeartbeats 4000000
namespace L2
open PySem PySem.Spec PyProof.Rows QQ
/-! ### a dict against a list -/
open PySem.AutoSeq1 (wpAny_loadPart') in
theorem list_eq_declines_dict (l b : Addr) (items : Array Value) (n : Nat) (dd : Option Addr) (sl : Array (Option Value)) (d2 : Option Addr) (da2 : Data) (sl2 : Array (Option Value)) :
    Meets (Builtin.«list.__eq__» ⟨[.ref l, .ref b], []⟩) (fun _ R s => s.heap.get? l = some { cls := .type "list", dict := dd, data := .seq items n, slots := sl } ∧ s.heap.get? b = some { cls := .type "dict", dict := d2, data := da2, slots := sl2 } ∧ R (.ok (.ret .notImplemented)) s) :=
  .of_wp fun prog w A R s h => by obtain ⟨hp, g, d, tk, os⟩ := s; obtain ⟨hl, hb, h⟩ := h; have f1 := F.sub_dict_list; wp_walk using wpAny_loadPart' hl, wpAny_loadPart' hb; exact ⟨_, rfl, h⟩
theorem rc_dict_list {A : Around} {s : Shared} {p l : Addr} {items : Array Value} (hp : s.TypeIs (.ref p) "dict") (hl : s.heap.IsList l items) (hu : A.units < cLine) : SeqAt.RcAt A s (.ref p) (.ref l) false := fun prog w E Q h => by
  obtain ⟨⟨cls, dd, data, sl⟩, ho, hc, n, hd⟩ := id hl
  obtain ⟨⟨cls2, dd2, data2, sl2⟩, ho2, hc2⟩ := id hp
  simp only at hc hd hc2
  subst hc hd hc2
  have hne : p ≠ l := fun e => by
    subst e
    rw [ho] at ho2
    exact absurd (show Value.type "list" = Value.type "dict" from congrArg Obj.cls (Option.some.inj ho2)) (by decide)
  refine SeqAt.rc_eq_decline_or (k := false) hp ⟨_, ho, rfl⟩ (by decide) F.sub_list_dict F.slot_dict_eq F.slot_list_eq_refl
    (fun _ hq => wpAny_call_entry PySem.F.slot_dict_eq hp PySem.F.entry_dict_eq ?_ (PySem.F.args_dict_eq_2 _ _))
    (fun _ hq => call_meets F.slot_list_eq_refl ⟨_, ho, rfl⟩ F.entry_list_eq (F.args_list_eq_2 _ _) (list_eq_declines_dict l p items n dd sl dd2 data2 sl2) ⟨ho, ho2, hq⟩)
    (fun _ hq => SeqAt.wpAny_isSame_ref_other' hne ho2 ho (by simp) hq) (.inr hu) h
  show wpAny _ _ (Builtin.Dict.dictSlotArgs "__eq__" ⟨[.ref p, .ref l], []⟩ >>= _) _ _ s
  refine wpAny_bind ?_
  unfold Builtin.Dict.dictSlotArgs
  refine wpAny_bind (wpAny_notOrdered_dict hp ?_)
  show wpAny _ _ (pure (Value.ref p, Value.ref l)) _ _ s
  refine wpAny_pure ?_
  refine wpAny_bind (wpAny_isInstance (T := "list") ⟨_, ho, rfl⟩ PySem.F.sub_list_dict ?_)
  simp only [Bool.not_false, if_true]
  refine wpAny_bind (wpAny_rule ?_)
  exact wpAny_pure ⟨_, rfl, hq⟩
section
variable {X : Cx}
/-! ### lists within lists and tuples -/
theorem eqAt_gs {pins : List (Addr × Obj)} {σ : St} {H : Hp} {s : Shared} (I : Inv X pins σ H s) {a b : Addr} (h : SameGs X.K H a b) {A : Around} (hu : A.units + 1 < cLine) : SeqAt.EqAt A s (.ref a) (.ref b) true := by
  by_cases e : a = b
  · subst e; exact .same _
  · refine .of_refs e ?_
    obtain ⟨its, its2, pl, pl2, hz, he⟩ := sameGs_at (A := A.in1) I h (by show A.units + 1 < _; omega)
    have R := SeqAt.RcAt.lists (A := A) (e := fun _ => true) pl pl2 hz (by omega) he
    have e2 : (List.range its.toArray.size).all (fun _ => true) = true := by simp
    rw [e2] at R
    exact R
/-- pairs of a text and a list of plain things, the same ones -/
def SameRf (K : PySem.W.Frag) (H : Hp) (p q : Addr) : Prop := ∃ (z : Str) (l m : Addr), SqT K H p [.str z, .ref l] ∧ SqT K H q [.str z, .ref m] ∧ SameGs K H l m
theorem sameRf_at {pins : List (Addr × Obj)} {σ : St} {H : Hp} {s : Shared} (I : Inv X pins σ H s) {p q : Addr} (h : SameRf X.K H p q) {A : Around} (hu : A.units + 1 < cLine) : ∃ its its2 : List Value, s.heap.IsTuple p its.toArray ∧ s.heap.IsTuple q its2.toArray ∧ its.toArray.size = its2.toArray.size ∧ ∀ j (h1 : j < its.toArray.size) (h2 : j < its2.toArray.size), SeqAt.EqAt A s its.toArray[j] its2.toArray[j] true := by
  obtain ⟨z, l, m, h1, h2, hs⟩ := h
  obtain ⟨its, rv, pl, hz⟩ := I.tuple h1
  obtain ⟨its2, rv2, pl2, hz2⟩ := I.tuple h2
  obtain ⟨u1, v1, rfl, r1, w1⟩ : ∃ u1 v1, its = [u1, v1] ∧ RelV (.str z) u1 ∧ RelV (.ref l) v1 := by
    cases rv with
    | cons a b => cases b with | cons c d => cases d; exact ⟨_, _, rfl, a, c⟩
  obtain ⟨u2, v2, rfl, r2, w2⟩ : ∃ u2 v2, its2 = [u2, v2] ∧ RelV (.str z) u2 ∧ RelV (.ref m) v2 := by
    cases rv2 with
    | cons a b => cases b with | cons c d => cases d; exact ⟨_, _, rfl, a, c⟩
  obtain ⟨t1, rfl⟩ := r1
  obtain ⟨t2, rfl⟩ := r2
  cases w1
  cases w2
  refine ⟨_, _, pl, pl2, rfl, fun j h1 h2 => ?_⟩
  match j, h1 with
  | 0, _ =>
    have e : (z == z) = true := by simp
    have R := eqAt_str A s z t1 z t2
    rw [e] at R
    exact R
  | 1, _ => exact eqAt_gs I hs hu
def rNeRf (K : PySem.W.Frag) : R2 := fun x y H Q => ∃ (p q : Addr), x = .ref p ∧ y = .ref q ∧ SameRf K H p q ∧ Q (.bl false) H
theorem op_neRf (hu : X.A.units + 64 < cLine) : OpR X (compareOp .NotEq) (rNeRf X.K) := by
  intro pins s σ H x y v u Q I rx ry h
  obtain ⟨p, q, rfl, rfl, h, k⟩ := h
  cases rx
  cases ry
  obtain ⟨its, its2, pl, pl2, hz, he⟩ := sameRf_at (A := X.A.in1) I h (by show X.A.units + 1 + 1 < _; omega)
  refine SeqAt.RcNeAt.tuples (e := fun _ => true) pl pl2 (by omega) he _ _ _ _ ?_
  refine ⟨.bl false, H, I, ?_, k⟩
  show Value.bool _ = Value.bool _
  rw [hz]
  simp
def rEqRf (K : PySem.W.Frag) : R2 := fun x y H Q => ∃ (p q : Addr), x = .ref p ∧ y = .ref q ∧ SameRf K H p q ∧ Q (.bl true) H
/-- [a, b] != [c, d], lists of plain or same things -/
def rNeG2 (K : PySem.W.Frag) : R2 := fun x y H Q => ∃ (p q a b c d : Addr), x = .ref p ∧ y = .ref q ∧ SqL K H p [.ref a, .ref b] ∧ SqL K H q [.ref c, .ref d] ∧ SameGs K H a c ∧ SameGs K H b d ∧ Q (.bl false) H
/-! ### another thing against a list -/
/-- x is no list of the length of xs: another kind, or another length -/
def NoSuch (K : PySem.W.Frag) (H : Hp) (x : V) (n : Nat) : Prop := (∃ i, x = .int i) ∨ (∃ b, x = .bl b) ∨ (∃ z, x = .str z) ∨ (∃ p xs, x = .ref p ∧ SqT K H p xs) ∨ (∃ p, x = .ref p ∧ H p = some (.dK [])) ∨ (∃ p xs, x = .ref p ∧ SqL K H p xs ∧ xs.length ≠ n)
def rEqNo (K : PySem.W.Frag) : R2 := fun x y H Q => ∃ (q : Addr) (ys : List V), y = .ref q ∧ SqL K H q ys ∧ NoSuch K H x ys.length ∧ Q (.bl false) H
theorem op_eqNo (hu : X.A.units + 64 < cLine) : OpR X (compareOp .Eq) (rEqNo X.K) := by
  intro pins s σ H x y v u Q I rx ry h
  obtain ⟨q, ys, rfl, h2, hn, k⟩ := h
  cases ry
  obtain ⟨its2, rv2, pl2, hz2⟩ := I.list h2
  have hu' : X.A.units < cLine := by omega
  have fin : EP X pins σ Q (.bool false) s := ⟨.bl false, H, I, rfl, k⟩
  rcases hn with ⟨i, rfl⟩ | ⟨b, rfl⟩ | ⟨z, rfl⟩ | ⟨p, xs, rfl, h1⟩ | ⟨p, rfl, hp⟩ | ⟨p, xs, rfl, h1, hl⟩
  · obtain ⟨t, rfl⟩ := rx
    exact SeqAt.RcAt.int_list i t pl2.isList hu' _ _ _ _ fin
  · cases rx
    exact SeqAt.RcAt.bool_list b pl2.isList hu' _ _ _ _ fin
  · obtain ⟨t, rfl⟩ := rx
    exact SeqAt.RcAt.str_list z t pl2.isList hu' _ _ _ _ fin
  · cases rx
    obtain ⟨its, rv, pl, hz⟩ := I.tuple h1
    exact SeqAt.RcAt.tuple_list pl pl2.isList hu' _ _ _ _ fin
  · cases rx
    obtain ⟨_, hs, vs, kv, D⟩ := (show ObjOk X.prog X.w H s.heap p (.dK []) from I.hok p _ hp)
    exact rc_dict_list D.typeIs pl2.isList hu' _ _ _ _ fin
  · cases rx
    obtain ⟨its, rv, pl, hz⟩ := I.list h1
    refine SeqAt.RcAt.lists_lengths pl.isList pl2.isList ?_ hu' _ _ _ _ fin
    have l1 := rv.length
    have l2 := rv2.length
    rw [List.size_toArray, List.size_toArray, bne_iff_ne]
    omega
end
end L2

set_option Elab.async false
set_option linter.all false
set_option maxRecDepth 100000
set_option maxHeartbeats 4000000
namespace L2
open PySem PySem.Spec PyProof.Rows QQ
/-! ### lists of pairs as tables -/
section
variable {κ : Type} [DecidableEq κ]
def valV (kvs : List (κ × V)) (k : κ) : Option V := (kvs.find? fun kv => decide (kv.1 = k)).map (·.2)
/-- in its place, or at the end -/
def putK (kvs : List (κ × V)) (k : κ) (v : V) : List (κ × V) :=
  if (kvs.any fun kv => decide (kv.1 = k)) = true then kvs.map (fun kv => if kv.1 = k then (kv.1, v) else kv) else kvs ++ [(k, v)]
def dropK (kvs : List (κ × V)) (k : κ) : List (κ × V) := kvs.filter fun kv => decide (kv.1 ≠ k)

theorem valV_pos {p : κ × V} {r : List (κ × V)} {k : κ} (e : p.1 = k) : valV (p :: r) k = some p.2 := by simp [valV, List.find?_cons, e]
theorem valV_neg {p : κ × V} {r : List (κ × V)} {k : κ} (e : ¬ p.1 = k) : valV (p :: r) k = valV r k := by simp [valV, List.find?_cons, e]
theorem valV_any (k : κ) : ∀ kvs : List (κ × V), (kvs.any fun kv => decide (kv.1 = k)) = (valV kvs k).isSome
  | [] => rfl
  | p :: r => by
    rw [List.any_cons]
    by_cases e : p.1 = k
    · simp only [valV_pos e, decide_eq_true e, Bool.true_or, Option.isSome_some]
    · rw [valV_neg e, decide_eq_false e, Bool.false_or]; exact valV_any k r
theorem valV_map (k j : κ) (y : V) : ∀ kvs : List (κ × V), valV (kvs.map fun kv => if kv.1 = k then (kv.1, y) else kv) j = (valV kvs j).map fun x => if j = k then y else x
  | [] => rfl
  | p :: r => by
    have ih := valV_map k j y r
    rw [List.map_cons]
    by_cases h : p.1 = k
    · rw [if_pos h]
      by_cases e : p.1 = j
      · rw [valV_pos (p := (p.1, y)) e, valV_pos e, Option.map_some, if_pos (e.symm.trans h)]
      · rw [valV_neg (p := (p.1, y)) e, valV_neg e, ih]
    · rw [if_neg h]
      by_cases e : p.1 = j
      · rw [valV_pos (p := p) e, valV_pos e, Option.map_some, if_neg (fun z => h (e.trans z))]
      · rw [valV_neg (p := p) e, valV_neg e, ih]
theorem valV_snoc (k j : κ) (y : V) : ∀ kvs : List (κ × V), valV kvs k = none → valV (kvs ++ [(k, y)]) j = if j = k then some y else valV kvs j
  | [], _ => by
    by_cases e : k = j
    · rw [if_pos e.symm]; exact valV_pos (p := (k, y)) e
    · rw [if_neg (fun z => e z.symm)]; exact valV_neg (p := (k, y)) e
  | p :: r, hn => by
    rw [List.cons_append]
    have hk : ¬ p.1 = k := fun z => by rw [valV_pos z] at hn; cases hn
    rw [valV_neg hk] at hn
    have ih := valV_snoc k j y r hn
    by_cases e : p.1 = j
    · rw [valV_pos e, valV_pos e, if_neg (fun z => hk (e.trans z))]
    · rw [valV_neg e, valV_neg e, ih]
theorem valV_put (kvs : List (κ × V)) (k j : κ) (y : V) : valV (putK kvs k y) j = if j = k then some y else valV kvs j := by
  unfold putK
  by_cases a : (kvs.any fun kv => decide (kv.1 = k)) = true
  · rw [if_pos a, valV_map]
    rw [valV_any] at a
    by_cases e : j = k
    · obtain ⟨x, hx⟩ := Option.isSome_iff_exists.mp a
      rw [if_pos e, e, hx, Option.map_some, if_pos rfl]
    · rw [if_neg e]
      cases valV kvs j with
      | none => rfl
      | some x => rw [Option.map_some, if_neg e]
  · rw [if_neg a]
    refine valV_snoc k j y kvs ?_
    rw [valV_any] at a
    cases q : valV kvs k with
    | none => rfl
    | some x => rw [q] at a; exact (a rfl).elim
theorem length_putK (kvs : List (κ × V)) (k : κ) (v : V) : (putK kvs k v).length ≤ kvs.length + 1 := by
  unfold putK
  split
  · rw [List.length_map]; omega
  · rw [List.length_append, List.length_cons, List.length_nil]; omega
theorem RelO.isSome_eq {o : Option V} {u : Option Value} (r : RelO o u) : o.isSome = u.isSome := by
  cases o with
  | none => cases u with
    | none => rfl
    | some _ => exact (show False from r).elim
  | some _ => cases u with
    | none => exact (show False from r).elim
    | some _ => rfl
theorem RelO.getD {o : Option V} {u : Option Value} {d : V} {d' : Value} (r : RelO o u) (rd : RelV d d') : RelV (o.getD d) (u.getD d') := by
  cases o with
  | none => cases u with
    | none => exact rd
    | some _ => exact (show False from r).elim
  | some _ => cases u with
    | none => exact (show False from r).elim
    | some _ => exact r

/-- raw tables of the same keys -/
theorem KV.val {kvs : List (κ × V)} {vs : List (κ × Value)} (r : KV kvs vs) (k : κ) : RelO (valV kvs k) (valueAt vs k) := by
  unfold KV at r
  induction r with
  | nil => exact True.intro
  | @cons p q ps qs h t ih =>
    obtain ⟨h1, h2⟩ := h
    by_cases e : p.1 = k
    · have e' : q.1 = k := h1.symm.trans e
      have b : valueAt (q :: qs) k = some q.2 := by simp [valueAt, List.find?_cons, e']
      rw [valV_pos e, b]; exact h2
    · have e' : ¬ q.1 = k := fun z => e (h1.trans z)
      have b : valueAt (q :: qs) k = valueAt qs k := by simp [valueAt, List.find?_cons, e']
      rw [valV_neg e, b]; exact ih
theorem KV.any {kvs : List (κ × V)} {vs : List (κ × Value)} (r : KV kvs vs) (k : κ) : (kvs.any fun kv => decide (kv.1 = k)) = vs.any fun kv => decide (kv.1 = k) := by
  unfold KV at r
  induction r with
  | nil => rfl
  | cons h t ih => rw [List.any_cons, List.any_cons, ih, h.1]
theorem KV.repl {kvs : List (κ × V)} {vs : List (κ × Value)} (r : KV kvs vs) (k : κ) {y : V} {u : Value} (ry : RelV y u) :
    KV (kvs.map fun kv => if kv.1 = k then (kv.1, y) else kv) (vs.map fun kv => if kv.1 = k then (kv.1, u) else kv) := by
  unfold KV at r ⊢
  induction r with
  | nil => exact .nil
  | @cons p q ps qs h t ih =>
    rw [List.map_cons, List.map_cons]
    refine .cons ?_ ih
    obtain ⟨h1, h2⟩ := h
    by_cases e : p.1 = k
    · rw [if_pos e, if_pos (h1.symm.trans e)]; exact ⟨h1, ry⟩
    · rw [if_neg e, if_neg (fun z => e (h1.trans z))]; exact ⟨h1, h2⟩
theorem KV.put {kvs : List (κ × V)} {vs : List (κ × Value)} (r : KV kvs vs) (k : κ) {y : V} {u : Value} (ry : RelV y u) : KV (putK kvs k y) (stored vs k u) := by
  unfold putK stored
  rw [r.any k]
  by_cases e : (vs.any fun kv => decide (kv.1 = k)) = true
  · rw [if_pos e, if_pos e]; exact r.repl k ry
  · rw [if_neg e, if_neg e]; exact Paired.snoc r ⟨rfl, ry⟩
theorem KV.drop {kvs : List (κ × V)} {vs : List (κ × Value)} (r : KV kvs vs) (k : κ) : KV (dropK kvs k) (without vs k) := by
  unfold KV at r ⊢
  unfold dropK without
  induction r with
  | nil => exact .nil
  | @cons p q ps qs h t ih =>
    obtain ⟨h1, h2⟩ := h
    rw [List.filter_cons, List.filter_cons]
    by_cases e : p.1 = k
    · have a : ¬ decide (p.1 ≠ k) = true := by simp [e]
      have b : ¬ decide (q.1 ≠ k) = true := by simp [h1.symm.trans e]
      rw [if_neg a, if_neg b]; exact ih
    · have e' : ¬ q.1 = k := fun z => e (h1.trans z)
      have a : decide (p.1 ≠ k) = true := by simp [e]
      have b : decide (q.1 ≠ k) = true := by simp [e']
      rw [if_pos a, if_pos b]; exact .cons ⟨h1, h2⟩ ih
theorem KV.keys {kvs : List (κ × V)} {vs : List (κ × Value)} (r : KV kvs vs) : kvs.map (·.1) = vs.map (·.1) := by
  unfold KV at r
  induction r with
  | nil => rfl
  | cons h t ih => rw [List.map_cons, List.map_cons, ih, h.1]
theorem KV.length {kvs : List (κ × V)} {vs : List (κ × Value)} (r : KV kvs vs) : kvs.length = vs.length := Paired.length r
end


/-! ### a tracked dict, its keys ints and texts or tuples of these -/
theorem kV_is {P : Program} {w : World} {k : Key} {u : Value} (r : RelV (kV k) u) : (mixKind P w).is k u = true := by
  cases k with
  | inl i => obtain ⟨t, e⟩ := (show ∃ t, u = Value.int i t from r); subst e; exact mixKind_int P w i t
  | inr x => obtain ⟨t, e⟩ := (show ∃ t, u = Value.str x t from r); subst e; exact mixKind_str P w x t
theorem items_are {P : Program} {w : World} : ∀ {ks : List Key} {us : List Value}, Vals (ks.map kV) us → ItemsAre (mixKind P w) ks us
  | [], _, r => by rw [List.map_nil] at r; cases r; exact .nil
  | k :: ks, _, r => by
    rw [List.map_cons] at r
    cases r with
    | cons h t => exact .cons (kV_is h) (items_are t)

/-- raw entries of a dict with tuple keys -/
abbrev KT (H : Hp) : List (List Key × V) → List (List Key × Addr × Value) → Prop := Paired fun p q => p.1 = q.1 ∧ H q.2.1 = some (.tup (p.1.map kV)) ∧ RelV p.2 q.2.2
theorem KT.val {H : Hp} {kvs : List (List Key × V)} {xs : List (List Key × Addr × Value)} (r : KT H kvs xs) (k : List Key) : RelO (valV kvs k) ((atKey xs k).map (·.2)) := by
  induction r with
  | nil => exact True.intro
  | @cons p q ps qs h t ih =>
    obtain ⟨h1, _, h2⟩ := h
    by_cases e : p.1 = k
    · have e' : q.1 = k := h1.symm.trans e
      have b : atKey (q :: qs) k = some q.2 := by simp [atKey, List.find?_cons, e']
      rw [valV_pos e, b]; exact h2
    · have e' : ¬ q.1 = k := fun z => e (h1.trans z)
      have b : atKey (q :: qs) k = atKey qs k := by simp [atKey, List.find?_cons, e']
      rw [valV_neg e, b]; exact ih
theorem KT.repl {H : Hp} {kvs : List (List Key × V)} {xs : List (List Key × Addr × Value)} (r : KT H kvs xs) (k : List Key) {y : V} {u : Value} (ry : RelV y u) :
    KT H (kvs.map fun kv => if kv.1 = k then (kv.1, y) else kv) (xs.map (putAt k u)) := by
  induction r with
  | nil => exact .nil
  | @cons p q ps qs h t ih =>
    rw [List.map_cons, List.map_cons]
    refine .cons ?_ ih
    obtain ⟨h1, h2, h3⟩ := h
    unfold putAt
    by_cases e : p.1 = k
    · rw [if_pos e, if_pos (h1.symm.trans e)]; exact ⟨h1, h2, ry⟩
    · rw [if_neg e, if_neg (fun z => e (h1.trans z))]; exact ⟨h1, h2, h3⟩
theorem KT.put {H : Hp} {kvs : List (List Key × V)} {xs : List (List Key × Addr × Value)} (r : KT H kvs xs) (k : List Key) {b : Addr} {y : V} {u : Value} (hb : H b = some (.tup (k.map kV))) (ry : RelV y u) :
    KT H (putK kvs k y) (storedH xs k b u) := by
  have e : (kvs.any fun kv => decide (kv.1 = k)) = (atKey xs k).isSome := by
    rw [valV_any, (r.val k).isSome_eq, Option.isSome_map]
  unfold putK storedH
  rw [e]
  by_cases q : (atKey xs k).isSome = true
  · rw [if_pos q, if_pos q]; exact r.repl k ry
  · rw [if_neg q, if_neg q]; exact Paired.snoc r ⟨rfl, hb, ry⟩
theorem KT.keeps {H H' : Hp} {kvs : List (List Key × V)} {xs : List (List Key × Addr × Value)} (r : KT H kvs xs) (ht : ∀ b ys, H b = some (.tup ys) → H' b = some (.tup ys)) : KT H' kvs xs :=
  Paired.mapP r fun _ _ z => ⟨z.1, ht _ _ z.2.1, z.2.2⟩

section
variable {P : Program} {w : World} {H : Hp} {h : Heap} {a : Addr}
theorem rd_of {u : HO} (ok : HOk P w H h) (e : Rd H a u) : ObjOk P w H h a u := e.ok ok
theorem dk_rd {kvs : List (Key × V)} (ok : HOk P w H h) (e : Rd H a (.dK kvs)) : kvs.length ≤ sizeLine ∧ (a == sysModules) = false ∧ ∃ vs, KV kvs vs ∧ h.DictOf (mixKind P w) a vs :=
  show ObjOk P w H h a (.dK kvs) from rd_of ok e
theorem dk_of {kvs : List (Key × V)} (ok : HOk P w H h) (e : H a = some (.dK kvs)) : kvs.length ≤ sizeLine ∧ (a == sysModules) = false ∧ ∃ vs, KV kvs vs ∧ h.DictOf (mixKind P w) a vs := dk_rd ok (.inl e)
/-- a tracked tuple of ints and texts is a key -/
theorem key_of {ks : List Key} (ok : HOk P w H h) (e : H a = some (.tup (ks.map kV))) : (tupleKind (mixKind P w)).is h ks a := by
  obtain ⟨_, its, r, o, h1, h2, n, h3⟩ := (show ObjOk P w H h a (.tup (ks.map kV)) from ok a _ e)
  exact ⟨o, its.toArray, n, h1, h2, h3, by simpa using items_are r⟩
theorem dt_rd {kvs : List (List Key × V)} (ok : HOk P w H h) (e : Rd H a (.dT kvs)) : kvs.length ≤ sizeLine ∧ (a == sysModules) = false ∧
    ∃ xs, KT H kvs xs ∧ h.DictOfH (tupleKind (mixKind P w)) a xs := by
  obtain ⟨z, y, xs, r, o, es, ep, h1, h2, h3, h4, h5⟩ := (show ObjOk P w H h a (.dT kvs) from rd_of ok e)
  refine ⟨z, y, xs, r, o, es, ep, h1, h2, h3, h4, fun x hx => ?_, h5⟩
  have all : ∀ {l : List (List Key × V)} {m : List (List Key × Addr × Value)}, KT H l m → ∀ x ∈ m, (tupleKind (mixKind P w)).is h x.1 x.2.1 := by
    intro l m q
    induction q with
    | nil => intro x hx; exact nomatch hx
    | @cons p q ps qs hq t ih =>
      intro x hx
      rcases List.mem_cons.mp hx with e | hx
      · subst e
        exact key_of ok (by rw [← hq.1]; exact hq.2.1)
      · exact ih x hx
  exact all r x hx
theorem dt_of {kvs : List (List Key × V)} (ok : HOk P w H h) (e : H a = some (.dT kvs)) : kvs.length ≤ sizeLine ∧ (a == sysModules) = false ∧
    ∃ xs, KT H kvs xs ∧ h.DictOfH (tupleKind (mixKind P w)) a xs := dt_rd ok (.inl e)
end

/-- what the dict at a holds at the key y -/
def DGet (H : Hp) (a : Addr) (y : V) (r : Option V) : Prop :=
  (∃ kvs k, Rd H a (.dK kvs) ∧ y = kV k ∧ r = valV kvs k) ∨ ∃ kvs k b, Rd H a (.dT kvs) ∧ y = .ref b ∧ H b = some (.tup (k.map kV)) ∧ r = valV kvs k
/-- the heap behind a[y] = v -/
def DPut (H : Hp) (a : Addr) (y v : V) (H' : Hp) : Prop :=
  (∃ kvs k, H a = some (.dK kvs) ∧ y = kV k ∧ kvs.length < sizeLine ∧ H' = upd H a (.dK (putK kvs k v))) ∨
  ∃ kvs k b, H a = some (.dT kvs) ∧ y = .ref b ∧ H b = some (.tup (k.map kV)) ∧ kvs.length < sizeLine ∧ H' = upd H a (.dT (putK kvs k v))
theorem DGet.k {H : Hp} {a : Addr} {kvs : List (Key × V)} {k : Key} (e : H a = some (.dK kvs)) : DGet H a (kV k) (valV kvs k) := .inl ⟨kvs, k, .inl e, rfl, rfl⟩
theorem DGet.t {H : Hp} {a b : Addr} {kvs : List (List Key × V)} {k : List Key} (e : H a = some (.dT kvs)) (eb : H b = some (.tup (k.map kV))) : DGet H a (.ref b) (valV kvs k) := .inr ⟨kvs, k, b, .inl e, rfl, eb, rfl⟩
theorem DPut.k {H : Hp} {a : Addr} {kvs : List (Key × V)} {k : Key} {v : V} (e : H a = some (.dK kvs)) (hl : kvs.length < sizeLine) : DPut H a (kV k) v (upd H a (.dK (putK kvs k v))) := .inl ⟨kvs, k, e, rfl, hl, rfl⟩
theorem DPut.t {H : Hp} {a b : Addr} {kvs : List (List Key × V)} {k : List Key} {v : V} (e : H a = some (.dT kvs)) (eb : H b = some (.tup (k.map kV))) (hl : kvs.length < sizeLine) :
    DPut H a (.ref b) v (upd H a (.dT (putK kvs k v))) := .inr ⟨kvs, k, b, e, rfl, eb, hl, rfl⟩


section
variable {X : Cx} {pins : List (Addr × Obj)} {σ : St} {H : Hp} {s : Shared} {a : Addr} {y v : V} {u r : Value} {o : Option V} {A : Around} {E : Value → Shared → Prop}

theorem Inv.big (I : Inv X pins σ H s) : sysModules < s.heap.objs.size := by
  have h : mainGlobals < s.heap.objs.size := (I.mod.glob.keeps I.bk).lt
  exact Nat.lt_trans (by decide) h

/-- d[y], there -/
theorem d_getItem {Q : Value → Shared → Prop} (hu : A.units + 1 < cLine) (I : Inv X pins σ H s) (g : DGet H a y (some v)) (ry : RelV y u) (h : ∀ w' s', Inv X pins σ H s' → RelV v w' → Q w' s') :
    wpAny (model X.prog X.w) A (getItem (.ref a) u) Q E s := by
  rcases g with ⟨kvs, k, e, ey, l⟩ | ⟨kvs, k, b, e, ey, eb, l⟩
  · subst ey
    obtain ⟨z, hd, vs, rel, dd⟩ := dk_rd I.hok e
    obtain ⟨w', hw, rw'⟩ := RelO.some_of (v := v) (o := valueAt vs k) (by rw [l]; exact rel.val k)
    exact wpAny_getItem_of (kV_is ry) dd.mapOf hw (h w' _ (I.tok _) rw')
  · subst ey
    cases (show u = Value.ref b from ry)
    obtain ⟨z, hd, xs, rel, dd⟩ := dt_rd I.hok e
    obtain ⟨w', hw, rw'⟩ := RelO.some_of (v := v) (o := (atKey xs k).map (·.2)) (by rw [l]; exact rel.val k)
    obtain ⟨p, hp, hp2⟩ := Option.map_eq_some_iff.mp hw
    refine wpAny_getItem_heap (tupleKind_room_in1 hu) (key_of I.hok eb) dd hp ?_
    rw [hp2]
    exact h w' _ (I.tok _) rw'
/-- y in d -/
theorem d_in {Q : Value → Shared → Prop} (hu : A.units + 1 < cLine) (I : Inv X pins σ H s) (g : DGet H a y o) (ry : RelV y u) (h : ∀ s', Inv X pins σ H s' → Q (.bool o.isSome) s') :
    wpAny (model X.prog X.w) A (compareOp .In u (.ref a)) Q E s := by
  rcases g with ⟨kvs, k, e, ey, l⟩ | ⟨kvs, k, b, e, ey, eb, l⟩
  · subst ey
    obtain ⟨z, hd, vs, rel, dd⟩ := dk_rd I.hok e
    refine wpAny_in_of (kV_is ry) hd dd.mapOf ?_
    rw [← (rel.val k).isSome_eq, ← l]
    exact h _ (I.tok _)
  · subst ey
    cases (show u = Value.ref b from ry)
    obtain ⟨z, hd, xs, rel, dd⟩ := dt_rd I.hok e
    refine wpAny_in_heap (tupleKind_room_in1 hu) (key_of I.hok eb) hd dd ?_
    have q := (rel.val k).isSome_eq
    rw [Option.isSome_map] at q
    rw [← q, ← l]
    exact h _ (I.tok _)
theorem d_notIn {Q : Value → Shared → Prop} (hu : A.units + 1 < cLine) (I : Inv X pins σ H s) (g : DGet H a y o) (ry : RelV y u) (h : ∀ s', Inv X pins σ H s' → Q (.bool (!o.isSome)) s') :
    wpAny (model X.prog X.w) A (compareOp .NotIn u (.ref a)) Q E s := by
  rcases g with ⟨kvs, k, e, ey, l⟩ | ⟨kvs, k, b, e, ey, eb, l⟩
  · subst ey
    obtain ⟨z, hd, vs, rel, dd⟩ := dk_rd I.hok e
    refine wpAny_notIn_of (kV_is ry) hd dd.mapOf ?_
    rw [← (rel.val k).isSome_eq, ← l]
    exact h _ (I.tok _)
  · subst ey
    cases (show u = Value.ref b from ry)
    obtain ⟨z, hd, xs, rel, dd⟩ := dt_rd I.hok e
    refine wpAny_notIn_heap (tupleKind_room_in1 hu) (key_of I.hok eb) hd dd ?_
    have q := (rel.val k).isSome_eq
    rw [Option.isSome_map] at q
    rw [← q, ← l]
    exact h _ (I.tok _)
/-- a dict's object is replaced -/
theorem d_write {h' : Heap} {t' : Nat} {ob : HO} (I : Inv X pins σ H s) (mu : Mut (H a)) (hs : Heap.SameBut a s.heap h') (he : ∃ q, h'.get? a = some q) (new : ObjOk X.prog X.w (upd H a ob) h' a ob) :
    Inv X pins σ (upd H a ob) { s with heap := h', toks := t' } :=
  I.write (x := a) (e := a) mu (.inl rfl) (fun b q hb z => (hs.2 b hb).trans z) he new
theorem dk_new {P : Program} {w : World} {H' : Hp} {h' : Heap} {kvs : List (Key × V)} {vs : List (Key × Value)} (z : kvs.length ≤ sizeLine) (hd : (a == sysModules) = false) (rel : KV kvs vs) (dd : h'.DictOf (mixKind P w) a vs) :
    ObjOk P w H' h' a (.dK kvs) := ⟨z, hd, vs, rel, dd⟩
/-- d[y] = v -/
theorem d_setItem {H' : Hp} {Q : Unit → Shared → Prop} (hu : A.units + 1 < cLine) (I : Inv X pins σ H s) (g : DPut H a y v H') (ry : RelV y u) (rv : RelV v r) (h : ∀ s', Inv X pins σ H' s' → Q () s') :
    wpAny (model X.prog X.w) A (setItem (.ref a) u r) Q E s := by
  rcases g with ⟨kvs, k, e, ey, l, eH⟩ | ⟨kvs, k, b, e, ey, eb, l, eH⟩
  · subst ey eH
    obtain ⟨z, hd, vs, rel, dd⟩ := dk_of I.hok e
    have hz : vs.length ≤ sizeLine := by rw [← rel.length]; exact z
    have hl : (putK kvs k v).length ≤ sizeLine := by have := length_putK kvs k v; omega
    refine wpAny_setItem_pairs (hsz := hz) (kV_is ry) dd fun h' dd' hs => h _ ?_
    have he : ∃ q, h'.get? a = some q := let ⟨q, _, _, hq, _⟩ := dd'; ⟨q, hq⟩
    exact d_write I (by rw [e]; exact True.intro) hs he (dk_new hl hd (rel.put k rv) dd')
  · subst ey eH
    cases (show u = Value.ref b from ry)
    obtain ⟨z, hd, xs, rel, dd⟩ := dt_of I.hok e
    have hz : xs.length ≤ sizeLine := by rw [← Paired.length rel]; exact z
    have hl : (putK kvs k v).length ≤ sizeLine := by have := length_putK kvs k v; omega
    refine wpAny_setItem_heap (hsz := hz) (tupleKind_room_in1 hu) (key_of I.hok eb) dd fun h' dd' hs => h _ ?_
    obtain ⟨q, es, ep, hq, h2, h3, h4, _, h5⟩ := dd'
    refine d_write I (by rw [e]; exact True.intro) hs ⟨q, hq⟩ ⟨hl, hd, _, (rel.put k eb rv).keeps fun c ys ec => ?_, q, es, ep, hq, h2, h3, h4, h5⟩
    rw [upd_ne (ne_of ec e (fun z => nomatch z))]
    exact ec
end

section
variable {X : Cx} {pins : List (Addr × Obj)} {σ : St} {H : Hp} {s : Shared} {a : Addr} {kvs : List (Key × V)} {k : Key} {u : Value} {A : Around} {E : Value → Shared → Prop}
end


/-! ### readings and rules -/
/-- the element of a subscription, not a slice -/
def NoSl (i : Expr) : Prop := ∀ ov iv, subscripted i false ov iv = operate [ov, iv] (getItem ov iv)
theorem subD_of {prog : Program} {w : World} {A : Around} {E : Value → Shared → Prop} {s : Shared} {env : Env} {value slice : Expr} {pos : Pos} {T id : String} {Q : Value → Shared → Prop}
    (hl : typeLookup (.type T) "__getitem__" = pure (some (.builtin id))) (hs : NoSl slice)
    (h : wpAny (model prog w) A (eval value env) (fun o s₁ => wpAny (model prog w) A (eval slice env) (fun i s₂ => s₂.TypeIs o T ∧ wpAny (model prog w) A (getItem o i) Q E s₂) E s₁) E s) :
    wpAny (model prog w) A (eval (.Subscript value slice pos) env) Q E s := by
  refine Subscript_ (wpAny_mono h (fun o s₁ h₁ => wpAny_mono h₁ (fun i s₂ h₂ => ?_) fun _ _ x => x) fun _ _ x => x)
  obtain ⟨hT, h₂⟩ := h₂
  unfold subscriptTail
  refine wpAny_bind ?_
  rw [getitemInPython_of_ne hT.not_modules]
  refine wpAny_bind (wpAny_specialOf hT hl ?_)
  have fin : wpAny (model prog w) A (subscripted slice false o i) (fun r s₃ => wpAny (model prog w) A (letTemporaryGo value o r >>= fun _ => pure r) Q E s₃) E s₂ := by
    rw [hs o i]
    exact wpAny_operating (wpAny_mono h₂ (fun r s₃ h₃ => wpAny_bind (wpAny_letTemporaryGo (wpAny_pure h₃))) fun _ _ x => x)
  first
    | exact wpAny_pure (wpAny_bind fin)
    | exact wpAny_bind (wpAny_pure (wpAny_bind fin))
    | exact wpAny_bind fin

theorem dict_typeIs {X : Cx} {pins : List (Addr × Obj)} {σ : St} {H : Hp} {s : Shared} {a : Addr} {y : V} {o : Option V} (I : Inv X pins σ H s) (g : DGet H a y o) : s.TypeIs (.ref a) "dict" := by
  rcases g with ⟨kvs, k, e, _, _⟩ | ⟨kvs, k, b, e, _, _, _⟩
  · obtain ⟨_, _, vs, _, dd⟩ := dk_rd I.hok e
    exact dd.typeIs
  · obtain ⟨_, _, xs, _, dd⟩ := dt_rd I.hok e
    exact dd.typeIs
/-- d[y] -/
def tDGet (td ty : TE) : TE := fun σ H Q => td σ H fun x H1 => ty σ H1 fun y H2 => ∃ a v, x = .ref a ∧ DGet H2 a y (some v) ∧ Q v H2
/-- y in d, y not in d -/
def tDIn (ty td : TE) : TE := fun σ H Q => ty σ H fun y H1 => td σ H1 fun x H2 => ∃ a o, x = .ref a ∧ DGet H2 a y o ∧ Q (.bl o.isSome) H2
def tDNotIn (ty td : TE) : TE := fun σ H Q => ty σ H fun y H1 => td σ H1 fun x H2 => ∃ a o, x = .ref a ∧ DGet H2 a y o ∧ Q (.bl (!o.isSome)) H2
/-- d[y] = v -/
def sDPut (td ty tv : TE) : TS := fun D σ H => tv σ H fun v H1 => td σ H1 fun x H2 => ty σ H2 fun y H3 => ∃ a H4, x = .ref a ∧ DPut H3 a y v H4 ∧ D.nx σ H4
/-- d[y] op= v -/
def sDAug (td ty tv : TE) (rd : V → V → Hp → VK → Prop) : TS := fun D σ H => td σ H fun x H1 => ty σ H1 fun y H2 => ∃ a v, x = .ref a ∧ DGet H2 a y (some v) ∧
  tv σ H2 fun y2 H3 => rd v y2 H3 fun z H4 => ∃ H5, DPut H4 a y z H5 ∧ D.nx σ H5
/-- del d[y] -/
def sDDel (td ty : TE) : TS := fun D σ H => td σ H fun x H1 => ty σ H1 fun y H2 => ∃ a kvs k, x = .ref a ∧ H2 a = some (.dK kvs) ∧ y = kV k ∧ (valV kvs k).isSome = true ∧ D.nx σ (upd H2 a (.dK (dropK kvs k)))

section
variable {X : Cx} {o i e value : Expr} {pos pos' tpos : Pos} {td ty tv : TE}
theorem pe_dget (hu : X.A.units + 1 < cLine) (ho : PE X o td) (hi : PE X i ty) (hs : NoSl i) : PE X (.Subscript o i pos) (tDGet td ty) := by
  intro pins s σ H Q I h
  refine subD_of PySem.F.slot_dict_getitem.lookup hs (thn (ho pins s σ H _ I h) fun u s1 ⟨x, H1, I1, rx, q1⟩ => thn (hi pins s1 σ H1 _ I1 q1) fun iv s2 ⟨y, H2, I2, ry, a, v, ex, g, q2⟩ => ?_)
  subst ex
  obtain rfl : u = Value.ref a := rx
  exact ⟨dict_typeIs I2 g, d_getItem hu I2 g ry fun w' s3 I3 rw' => ⟨v, H2, I3, rw', q2⟩⟩
theorem pc_din (hu : X.A.units + 1 < cLine) (hi : PE X i ty) (ho : PE X o td) : PC X .In i o (tDIn ty td) := by
  intro pins s σ H Q I h
  refine thn (hi pins s σ H _ I h) fun iv s1 ⟨y, H1, I1, ry, q1⟩ => thn (ho pins s1 σ H1 _ I1 q1) fun u s2 ⟨x, H2, I2, rx, a, ov, ex, g, q2⟩ => ?_
  subst ex
  obtain rfl : u = Value.ref a := rx
  exact d_in hu I2 g ry fun s3 I3 => ⟨.bl ov.isSome, H2, I3, rfl, q2⟩
theorem pc_dnotin (hu : X.A.units + 1 < cLine) (hi : PE X i ty) (ho : PE X o td) : PC X .NotIn i o (tDNotIn ty td) := by
  intro pins s σ H Q I h
  refine thn (hi pins s σ H _ I h) fun iv s1 ⟨y, H1, I1, ry, q1⟩ => thn (ho pins s1 σ H1 _ I1 q1) fun u s2 ⟨x, H2, I2, rx, a, ov, ex, g, q2⟩ => ?_
  subst ex
  obtain rfl : u = Value.ref a := rx
  exact d_notIn hu I2 g ry fun s3 I3 => ⟨.bl (!ov.isSome), H2, I3, rfl, q2⟩
theorem ps_dput (hu : X.A.units + 1 < cLine) (ho : PE X o td) (hi : PE X i ty) (hv : PE X value tv) (hs : swapsWith value (some (.Subscript o i pos')) pos.line X.env = pure false) :
    PS X (.Assign [.Subscript o i pos'] value pos) (sDPut td ty tv) := by
  intro pins s σ H D I h
  refine wpAny_Assign_Subscript (thn (hv pins s σ H _ I h) fun r s1 ⟨v, H1, I1, rv, q1⟩ => thn (ho pins s1 σ H1 _ I1 q1) fun u s2 ⟨x, H2, I2, rx, q2⟩ => thn (hi pins s2 σ H2 _ I2 q2) fun iv s3 ⟨y, H3, I3, ry, a, H4, ex, g, q3⟩ => ?_) hs
  subst ex
  obtain rfl : u = Value.ref a := rx
  exact d_setItem hu I3 g ry rv fun s4 I4 => ⟨σ, H4, I4, q3⟩
end


/-! ### displays -/
theorem dt_empty {P : Program} {w : World} {H : Hp} (h : Heap) (hb : sysModules < h.objs.size) : ObjOk P w H (h.push { cls := .type "dict", data := .dict #[] }) h.objs.size (.dT []) :=
  ⟨Nat.zero_le _, beq_eq_false_iff_ne.mpr (Ne.symm (Nat.ne_of_lt hb)), [], .nil, _, #[], 0, Heap.get?_push_size _ rfl, ⟨rfl, rfl, rfl⟩, rfl, rfl, List.nodup_nil⟩
/-- {}, to be a dict of the kind that is wanted -/
def tDNewK : TE := fun _ H Q => ∀ p, H p = none → Q (.ref p) (upd H p (.dK []))
def tDNewT : TE := fun _ H Q => ∀ p, H p = none → Q (.ref p) (upd H p (.dT []))
section
variable {X : Cx} {pos : Pos}
theorem pe_dnewT : PE X (.Dict [] [] pos) tDNewT := fun pins s σ H Q I h =>
  wpAny_Dict_empty ⟨.ref s.heap.objs.size, _, I.laid (a := s.heap.objs.size) (o := .dT []) (t' := s.toks) (fun _ _ q => Heap.get?_push_of_some _ q) (Nat.le_refl _) (dt_empty s.heap I.big), rfl, h _ (I.hok.fresh (Nat.le_refl _))⟩
end

end L2

set_option Elab.async false
set_option linter.all false
set_option maxRecDepth 100000
set_option maxHeartbeats 4000000
namespace L2
open PySem PySem.Spec PyProof.Rows QQ
/-! ### texts: a beginning, turned about -/
section
variable {X : Cx}
def rStarts : V → List V → Hp → VK → Prop := fun x vs H Q => ∃ (z y : Str), x = .str z ∧ vs = [.str y] ∧ Q (.bl (Txt.startswith z y)) H
theorem mt_starts : MtR X "str.startswith" rStarts := by
  intro pins s σ H x vs v us Q I rx rv h
  obtain ⟨z, y, rfl, rfl, q⟩ := h
  obtain ⟨t, rfl⟩ := rx
  obtain ⟨u, rfl, ru⟩ := vals1 rv
  obtain ⟨t', rfl⟩ := ru
  exact SC.startswith ⟨.bl _, H, I, rfl, q⟩
/-! ### list.index of a text in a list of texts -/
def rIndexS (K : PySem.W.Frag) : V → List V → Hp → VK → Prop := fun x vs H Q => ∃ (l : Addr) (ns : List Str) (k : Str) (j : Nat), x = .ref l ∧ vs = [.str k] ∧ H l = some (.lst (ns.map V.str)) ∧ ns[j]? = some k ∧ (∀ i < j, ns[i]? ≠ some k) ∧ Q (.int ((j : Nat) : Int)) H
theorem mt_indexS : MtR X "list.index" (rIndexS X.K) := by
  intro pins s σ H x vs v us Q I rx rv h
  obtain ⟨l, ns, k, j, rfl, rfl, hH, hj, hno, q⟩ := h
  cases rx
  obtain ⟨u, rfl, ru⟩ := vals1 rv
  obtain ⟨t, rfl⟩ := ru
  obtain ⟨z, its, n, r, hl, e⟩ := I.lstM hH
  rw [List.length_map] at hl z
  have hjl : j < ns.length := (List.getElem?_eq_some_iff.mp hj).1
  have hjs : ((j : Nat) : Int) < 2 ^ 63 - 1 := by
    have hsl : sizeLine ≤ 16777216 := by decide
    omega
  have key : ∀ i (hi : i < its.length), ∃ t', its[i] = .str (ns[i]'(by omega)) t' := fun i hi => by
    have k1 : i < ns.length := by omega
    obtain ⟨u1, e1, r1⟩ := r.get (i := i) (x := .str ns[i]) (by simp [k1])
    obtain ⟨t', rfl⟩ := r1
    obtain ⟨_, z⟩ := List.getElem?_eq_some_iff.mp e1
    exact ⟨t', z⟩
  have hf : (ns.map V.str).all flatV = true := by simp [flatV]
  have ejv : ns[j] = k := by rw [List.getElem?_eq_getElem hjl] at hj; exact Option.some.inj hj
  have g := SeqAt.list_indexAt l its.toArray n none #[] (.str k t) (eqU (.str k)) j (by rw [List.size_toArray]; omega) hjs (by
      obtain ⟨t', e1⟩ := key j (by omega)
      have e2 : its.toArray[j]'(by rw [List.size_toArray]; omega) = its[j]'(by omega) := by simp
      rw [e2, e1, ejv]
      show (k == k) = true
      simp) (fun m hm hmj => by
      obtain ⟨t', e1⟩ := key m (by omega)
      have e2 : its.toArray[m] = its[m]'(by omega) := by simp
      rw [e2, e1]
      show (ns[m]'(by omega) == k) = false
      have h1 := hno m hmj
      rw [List.getElem?_eq_getElem (by omega)] at h1
      simpa using h1)
  refine call_meets F.slot_list_index ⟨_, e, rfl⟩ F.entry_list_index (F.args_list_index_2 (.ref l) (.str k t)) g ⟨e, fun y hy => mem_eqAt (x := .str k) ⟨t, rfl⟩ rfl r hf y (by simpa using hy), ?_⟩
  exact ⟨.int ((j : Nat) : Int), H, I.tok _, ⟨_, rfl⟩, q⟩
end
def revS (z : Str) : Str := ⟨z.cps.reverse⟩
theorem sliceBy_rev (z : Str) (u : Tok) : Txt.sliceBy z none none (-1, u) = revS z := by
  have h := step_rev_list z u
  have : (Txt.sliceBy z none none (-1, u)).cps = z.cps.reverse := by
    apply Array.toList_inj.mp
    rw [h, Array.toList_reverse]
    apply List.ext_getElem?
    intro i
    by_cases hi : i < z.length
    · rw [List.getElem?_map, List.getElem?_range hi, List.getElem?_reverse (by simpa [Str.length] using hi)]
      show some _ = _
      have e : z.cps.toList.length = z.length := by simp [Str.length]
      rw [e, List.getElem?_eq_getElem (by rw [e]; omega)]
      congr 1
      have hz : z.length - 1 - i < z.cps.size := by unfold Str.length at *; omega
      simp [Array.getD, hz]
    · rw [List.getElem?_eq_none (by simp; omega), List.getElem?_eq_none (by simp [Str.length] at *; omega)]
  exact congrArg Str.mk this
section
variable {X : Cx} {e e1 : Expr} {te t1 : TE} {pos p2 : Pos}
def tRevS (te t1 : TE) : TE := fun σ H Q => te σ H fun x H1 => t1 σ H1 fun y H2 => ∃ z, x = .str z ∧ y = .int (-1) ∧ z.length ≤ sizeLine ∧ Q (.str (revS z)) H2
theorem pe_revS (he : PE X e te) (h1 : PE X e1 t1) : PE X (.Subscript e (.Slice none none (some e1) p2) pos) (tRevS te t1) := by
  intro pins s σ H Q I h
  refine Subscript_ (thn (he pins s σ H _ I h) fun v s1 ⟨x, H1, I1, r1, q1⟩ => ?_)
  refine wpAny_Slice ?_
  rw [evalPart_none]
  refine wpAny_pure (wpAny_pure ?_)
  rw [evalPart_some]
  refine thn (h1 pins s1 σ H1 _ I1 q1) fun u s2 ⟨y, H2, I2, r2, z, ex, ey, hz, q⟩ => ?_
  subst ex ey
  obtain ⟨t0, rfl⟩ := r1
  obtain ⟨t, rfl⟩ := r2
  have I4 : Inv X pins σ H2 { s2 with heap := s2.heap.push { cls := .type "slice", data := .fields #[.none, .none, .int (-1) t] } } := I2.kept (t' := s2.toks) fun b ob q => Heap.get?_push_of_some _ q
  refine tail_any (ops := [.str z t0, .ref s2.heap.objs.size]) (typeIs_str _ _ _) F.slot_str_getitem.lookup ?_ (by with_unfolding_all rfl)
  refine wpAny_getItem_str_slice (l := none) (u := none) (st := some (-1, t)) ?_ rfl ?_
  · exact ⟨_, Heap.get?_push_size _ rfl, rfl, rfl⟩
  · have hr : (Txt.sliceBy z none none (-1, t)).length ≤ sizeLine := Nat.le_trans (Txt.sliceBy_le z none none (-1, t) (by show (-1 : Int) ≠ 0; decide)) hz
    refine post_val_or_str ⟨hr, fun t' k => ⟨.str (revS z), H2, I4.tok _, ⟨t', ?_⟩, q⟩⟩
    rw [← sliceBy_rev z t]
    rfl
end
/-! ### texts of 0 and 1 -/
theorem txt_rev (bs : List Bool) : revS (txt bs) = txt bs.reverse := by
  unfold revS txt
  simp
theorem starts_txt (a b : List Bool) : Txt.startswith (txt a) (txt b) = decide (b <+: a) := by
  unfold Txt.startswith
  rw [StrLaws.subAt_eq, txt_cps, txt_cps, txt_length, txt_length, List.drop_zero]
  have key : ((a.map sgn).take b.length == b.map sgn) = decide (b <+: a) := by
    by_cases h : b <+: a
    · rw [decide_eq_true h]
      obtain ⟨t, rfl⟩ := h
      rw [List.map_append, ← List.length_map (f := sgn), List.take_left]
      simp
    · rw [decide_eq_false h]
      refine Bool.eq_false_iff.mpr fun z => h ?_
      have z1 := eq_of_beq z
      rw [← List.map_take] at z1
      have : a.take b.length = b := by
        have e : txt (a.take b.length) = txt b := by unfold txt; rw [z1]
        exact txt_inj.mp e
      rw [← this]
      exact List.take_prefix _ _
  rw [key]
  by_cases h : b <+: a
  · rw [decide_eq_true h]
    have := h.length_le
    simp
    omega
  · rw [decide_eq_false h, Bool.and_false]
theorem starts_none (u : List Bool) (h : u ≠ []) : Txt.startswith ("none" : Str) (txt u) = false := by
  unfold Txt.startswith
  rw [StrLaws.subAt_eq, txt_cps, List.drop_zero]
  refine Bool.eq_false_iff.mpr fun z => ?_
  have z1 := eq_of_beq (Bool.and_eq_true_iff.mp z).2
  cases u with
  | nil => exact h rfl
  | cons b u =>
    rw [txt_length] at z1
    have e : (("none" : Str)).cps.toList = [110, 111, 110, 101] := by decide +kernel
    rw [e] at z1
    have z2 := congrArg List.head? z1
    simp at z2
    revert z2
    cases b <;> decide
theorem none_txt (u : List Bool) : txt u ≠ ("none" : Str) := by
  intro z
  have e : (("none" : Str)).cps.toList = [110, 111, 110, 101] := by decide +kernel
  rw [← z, txt_cps] at e
  cases u with
  | nil => cases e
  | cons b u =>
    have z2 := congrArg List.head? e
    simp at z2
    revert z2
    cases b <;> decide
end L2

namespace BP
/-- the number that bytes tell, the highest first -/
def val (B : List Nat) : Nat := B.foldl (fun a b => a * 256 + b) 0
theorem foldl_val (B : List Nat) : ∀ a, B.foldl (fun a b => a * 256 + b) a = a * 256 ^ B.length + val B := by
  induction B with
  | nil => intro a; simp [val]
  | cons b B ih =>
    intro a
    have h0 : val (b :: B) = b * 256 ^ B.length + val B := by
      show B.foldl (fun a b => a * 256 + b) (0 * 256 + b) = _
      rw [ih, Nat.zero_mul, Nat.zero_add]
    show B.foldl (fun a b => a * 256 + b) (a * 256 + b) = _
    rw [ih, h0, List.length_cons, Nat.pow_succ, Nat.add_mul, Nat.mul_assoc, Nat.mul_comm 256, Nat.add_assoc]
theorem val_cons (b : Nat) (B : List Nat) : val (b :: B) = b * 256 ^ B.length + val B := by
  show B.foldl (fun a b => a * 256 + b) (0 * 256 + b) = _
  rw [foldl_val, Nat.zero_mul, Nat.zero_add]
theorem val_append (A B : List Nat) : val (A ++ B) = val A * 256 ^ B.length + val B := by
  show (A ++ B).foldl (fun a b => a * 256 + b) 0 = _
  rw [List.foldl_append, foldl_val]
  rfl
theorem val_snoc (A : List Nat) (b : Nat) : val (A ++ [b]) = val A * 256 + b := by
  show (A ++ [b]).foldl (fun a b => a * 256 + b) 0 = _
  rw [List.foldl_append]
  rfl
theorem val_lt {B : List Nat} (h : ∀ b ∈ B, b < 256) : val B < 256 ^ B.length := by
  induction B with
  | nil => simp [val]
  | cons b B ih =>
    rw [val_cons, List.length_cons, Nat.pow_succ]
    have h1 := ih fun x hx => h x (List.mem_cons_of_mem _ hx)
    have h2 : b < 256 := h b List.mem_cons_self
    have h3 : b * 256 ^ B.length ≤ 255 * 256 ^ B.length := Nat.mul_le_mul_right _ (by omega)
    omega
theorem pow256 (n : Nat) : 256 ^ n = 2 ^ (8 * n) := by rw [Nat.pow_mul]
theorem pow_pos2 (n : Nat) : 0 < 2 ^ n := Nat.pow_pos (by decide)
/-- the first so many bytes of a row -/
theorem val_take {B : List Nat} (h : ∀ b ∈ B, b < 256) (n : Nat) (hn : n ≤ B.length) : val (B.take n) = val B / 256 ^ (B.length - n) := by
  have e : val B = val (B.take n) * 256 ^ (B.drop n).length + val (B.drop n) := by rw [← val_append, List.take_append_drop]
  have hd : val (B.drop n) < 256 ^ (B.drop n).length := val_lt fun b hb => h b (List.mem_of_mem_drop hb)
  rw [List.length_drop] at e hd
  rw [e, Nat.mul_comm, Nat.mul_add_div (Nat.pow_pos (by decide)), Nat.div_eq_of_lt hd, Nat.add_zero]
/-- bytes from m to n -/
theorem val_cut {B : List Nat} (h : ∀ b ∈ B, b < 256) {m n : Nat} (hmn : m ≤ n) (hn : n ≤ B.length) : val ((B.take n).drop m) = val B / 256 ^ (B.length - n) % 256 ^ (n - m) := by
  have e : val (B.take n) = val ((B.take n).take m) * 256 ^ ((B.take n).drop m).length + val ((B.take n).drop m) := by rw [← val_append, List.take_append_drop]
  have hl : ((B.take n).drop m).length = n - m := by rw [List.length_drop, List.length_take]; omega
  have hd : val ((B.take n).drop m) < 256 ^ ((B.take n).drop m).length := val_lt fun b hb => h b (List.mem_of_mem_take (List.mem_of_mem_drop hb))
  rw [hl] at e hd
  rw [← val_take h n hn, e, Nat.mul_comm, Nat.mul_add_mod, Nat.mod_eq_of_lt hd]
/-- what bits_at reckons: from the bit at p on, s bits -/
theorem bits_cut {B : List Nat} (h : ∀ b ∈ B, b < 256) {p s : Nat} (hp : p + s ≤ 8 * B.length) :
    val ((B.take ((p + s + 7) / 8)).drop (p / 8)) / 2 ^ (8 * ((p + s + 7) / 8) - (p + s)) % 2 ^ s = val B / 2 ^ (8 * B.length - (p + s)) % 2 ^ s := by
  have h1 : p / 8 ≤ (p + s + 7) / 8 := by omega
  have h2 : (p + s + 7) / 8 ≤ B.length := by omega
  rw [val_cut h h1 h2, pow256, pow256]
  have e1 : 2 ^ (8 * ((p + s + 7) / 8 - p / 8)) = 2 ^ (8 * ((p + s + 7) / 8) - (p + s)) * 2 ^ (8 * ((p + s + 7) / 8 - p / 8) - (8 * ((p + s + 7) / 8) - (p + s))) := by
    rw [← Nat.pow_add]; congr 1; omega
  rw [e1, Nat.mod_mul_right_div_self, Nat.div_div_eq_div_mul, ← Nat.pow_add]
  have e2 : 2 ^ (8 * ((p + s + 7) / 8 - p / 8) - (8 * ((p + s + 7) / 8) - (p + s))) = 2 ^ s * 2 ^ (8 * ((p + s + 7) / 8 - p / 8) - (8 * ((p + s + 7) / 8) - (p + s)) - s) := by
    rw [← Nat.pow_add]; congr 1; omega
  rw [e2, Nat.mod_mul_right_mod]
  congr 3; omega
/-- a row of bits under way: N the number of all bits, T how many -/
structure BR (N T : Nat) (B : List Nat) (r k : Nat) : Prop where
  tot : T = 8 * B.length + k
  num : N = val B * 2 ^ k + r
  low : r < 2 ^ k
  byt : ∀ b ∈ B, b < 256
theorem BR.init : BR 0 0 [] 0 0 := ⟨rfl, rfl, by decide, fun _ h => nomatch h⟩
theorem BR.put {N T : Nat} {B : List Nat} {r k : Nat} (h : BR N T B r k) {n s : Nat} (hn : n < 2 ^ s) : BR (N * 2 ^ s + n) (T + s) B (r * 2 ^ s + n) (k + s) := by
  refine ⟨by rw [h.tot]; omega, ?_, ?_, h.byt⟩
  · rw [h.num, Nat.pow_add, Nat.add_mul, Nat.mul_assoc, Nat.add_assoc]
  · have h1 : r + 1 ≤ 2 ^ k := h.low
    have h2 : (r + 1) * 2 ^ s ≤ 2 ^ k * 2 ^ s := Nat.mul_le_mul_right _ h1
    rw [Nat.add_mul, Nat.one_mul] at h2
    rw [Nat.pow_add]; omega
theorem BR.move {N T : Nat} {B : List Nat} {r k : Nat} (h : BR N T B r (k + 8)) : BR N T (B ++ [r / 2 ^ k]) (r % 2 ^ k) k := by
  have e := Nat.div_add_mod r (2 ^ k)
  refine ⟨by rw [h.tot, List.length_append, List.length_singleton]; omega, ?_, Nat.mod_lt _ (pow_pos2 k), fun b hb => ?_⟩
  · rw [h.num, val_snoc, Nat.add_mul, Nat.pow_add]
    have : val B * (2 ^ k * 2 ^ 8) = val B * 256 * 2 ^ k := by rw [Nat.mul_comm (2 ^ k), ← Nat.mul_assoc]
    rw [this, Nat.add_assoc]
    rw [Nat.mul_comm (r / 2 ^ k), e]
  · rcases List.mem_append.mp hb with hb | hb
    · exact h.byt b hb
    · rw [List.mem_singleton.mp hb]
      have := h.low
      rw [Nat.pow_add] at this
      exact Nat.div_lt_of_lt_mul this
/-- a whole row: the bits N, T of them, then noughts -/
structure RowOf (N T : Nat) (R : List Nat) : Prop where
  len : R.length = (T + 7) / 8
  byt : ∀ b ∈ R, b < 256
  num : val R = N * 2 ^ (8 * R.length - T)
theorem BR.row0 {N T : Nat} {B : List Nat} {r : Nat} (h : BR N T B r 0) : RowOf N T B := by
  have h1 := h.low
  refine ⟨by rw [h.tot]; omega, h.byt, ?_⟩
  rw [h.num, h.tot]
  have : r = 0 := by simpa using h1
  subst this
  simp
theorem BR.row1 {N T : Nat} {B : List Nat} {r k : Nat} (h : BR N T B r k) (h0 : 0 < k) (h8 : k < 8) : RowOf N T (B ++ [r * 2 ^ (8 - k)]) := by
  refine ⟨by rw [h.tot, List.length_append, List.length_singleton]; omega, fun b hb => ?_, ?_⟩
  · rcases List.mem_append.mp hb with hb | hb
    · exact h.byt b hb
    · rw [List.mem_singleton.mp hb]
      have h2 : r * 2 ^ (8 - k) < 2 ^ k * 2 ^ (8 - k) := (Nat.mul_lt_mul_right (pow_pos2 _)).mpr h.low
      rw [← Nat.pow_add] at h2
      have : k + (8 - k) = 8 := by omega
      rw [this] at h2
      exact h2
  · have e : 8 * (B ++ [r * 2 ^ (8 - k)]).length - T = 8 - k := by rw [h.tot, List.length_append, List.length_singleton]; omega
    have e2 : 256 = 2 ^ k * 2 ^ (8 - k) := by
      rw [← Nat.pow_add]
      have : k + (8 - k) = 8 := by omega
      rw [this]
    rw [e, val_snoc, h.num, Nat.add_mul, Nat.mul_assoc, ← e2]
theorem BR.lt {N T : Nat} {B : List Nat} {r k : Nat} (h : BR N T B r k) : N < 2 ^ T := by
  have h1 := val_lt h.byt
  rw [pow256] at h1
  rw [h.num, h.tot, Nat.pow_add]
  have h2 : (val B + 1) * 2 ^ k ≤ 2 ^ (8 * B.length) * 2 ^ k := Nat.mul_le_mul_right _ h1
  have := h.low
  rw [Nat.add_mul, Nat.one_mul] at h2
  omega
/-- the pairs put so far -/
def nums : List (Nat × Nat) → Nat → Nat
  | [], N => N
  | p :: ps, N => nums ps (N * 2 ^ p.2 + p.1)
def tots (ps : List (Nat × Nat)) : Nat := (ps.map (·.2)).sum
theorem nums_append (a b : List (Nat × Nat)) (N : Nat) : nums (a ++ b) N = nums b (nums a N) := by
  induction a generalizing N with
  | nil => rfl
  | cons p a ih => exact ih _
theorem tots_append (a b : List (Nat × Nat)) : tots (a ++ b) = tots a + tots b := by simp [tots, List.map_append, List.sum_append]
theorem tots_cons (p : Nat × Nat) (b : List (Nat × Nat)) : tots (p :: b) = p.2 + tots b := by simp [tots]
def Good (ps : List (Nat × Nat)) : Prop := ∀ p ∈ ps, p.1 < 2 ^ p.2
/-- what comes behind is divided away -/
theorem nums_div (b : List (Nat × Nat)) (hb : Good b) : ∀ N, nums b N / 2 ^ tots b = N := by
  induction b with
  | nil => intro N; simp [nums, tots]
  | cons p b ih =>
    intro N
    have h1 : p.1 < 2 ^ p.2 := hb p List.mem_cons_self
    rw [nums, tots_cons, Nat.add_comm p.2 (tots b), Nat.pow_add, ← Nat.div_div_eq_div_mul, ih (fun q hq => hb q (List.mem_cons_of_mem _ hq))]
    rw [Nat.mul_comm, Nat.mul_add_div (pow_pos2 _), Nat.div_eq_of_lt h1, Nat.add_zero]
/-- behind the pairs of a, the bits of b: V is all bits with c noughts behind -/
theorem take_at (a b c : List (Nat × Nat)) (hc : Good c) (e : Nat) (L : Nat) (hL : L = tots (a ++ b ++ c) + e) :
    nums (a ++ b ++ c) 0 * 2 ^ e / 2 ^ (L - (tots a + tots b)) = nums b (nums a 0) := by
  have h1 : L - (tots a + tots b) = e + tots c := by rw [hL, tots_append, tots_append]; omega
  rw [h1, Nat.pow_add, ← Nat.div_div_eq_div_mul, Nat.mul_div_cancel _ (pow_pos2 e), nums_append, nums_append]
  exact nums_div c hc _
/-- one pair -/
theorem take_one {a c : List (Nat × Nat)} {n s : Nat} (hc : Good c) (hn : n < 2 ^ s) {e L : Nat} (hL : L = tots (a ++ (n, s) :: c) + e) :
    nums (a ++ (n, s) :: c) 0 * 2 ^ e / 2 ^ (L - (tots a + s)) % 2 ^ s = n := by
  have h := take_at a [(n, s)] c hc e L (by simpa using hL)
  have e1 : tots [(n, s)] = s := by simp [tots]
  rw [e1] at h
  have e2 : a ++ [(n, s)] ++ c = a ++ (n, s) :: c := by simp
  rw [e2] at h
  rw [h]
  show (nums a 0 * 2 ^ s + n) % 2 ^ s = n
  rw [Nat.mul_comm, Nat.mul_add_mod, Nat.mod_eq_of_lt hn]
end BP

set_option linter.all false
namespace BP
/-- the number that bits tell, the highest first -/
def num (bs : List Bool) : Nat := bs.foldl (fun a b => 2 * a + b.toNat) 0
theorem foldl_num (bs : List Bool) : ∀ a, bs.foldl (fun a b => 2 * a + b.toNat) a = a * 2 ^ bs.length + num bs := by
  induction bs with
  | nil => intro a; simp [num]
  | cons b bs ih =>
    intro a
    have h0 : num (b :: bs) = b.toNat * 2 ^ bs.length + num bs := by
      show bs.foldl (fun a b => 2 * a + b.toNat) (2 * 0 + b.toNat) = _
      rw [ih, Nat.mul_zero, Nat.zero_add]
    show bs.foldl (fun a b => 2 * a + b.toNat) (2 * a + b.toNat) = _
    rw [ih, h0, List.length_cons, Nat.pow_succ, Nat.add_mul, Nat.mul_comm 2 a, Nat.mul_assoc a 2, Nat.mul_comm 2 (2 ^ bs.length), Nat.add_assoc]
theorem num_append (a b : List Bool) : num (a ++ b) = num a * 2 ^ b.length + num b := by
  show (a ++ b).foldl (fun a b => 2 * a + b.toNat) 0 = _
  rw [List.foldl_append, foldl_num]
  rfl
theorem num_snoc (a : List Bool) (b : Bool) : num (a ++ [b]) = 2 * num a + b.toNat := by
  show (a ++ [b]).foldl (fun a b => 2 * a + b.toNat) 0 = _
  rw [List.foldl_append]
  rfl
theorem num_cons (b : Bool) (bs : List Bool) : num (b :: bs) = b.toNat * 2 ^ bs.length + num bs := by
  have := num_append [b] bs
  simpa [num] using this
theorem num_lt (bs : List Bool) : num bs < 2 ^ bs.length := by
  induction bs with
  | nil => decide
  | cons b bs ih =>
    rw [num_cons, List.length_cons, Nat.pow_succ]
    cases b <;> simp <;> omega
theorem num_zeros (k : Nat) : num (List.replicate k false) = 0 := by
  induction k with
  | zero => rfl
  | succ k ih => rw [List.replicate_succ, num_cons, ih]; simp
/-- the lower k bits of n, the highest first -/
def dig (n : Nat) : Nat → List Bool
  | 0 => []
  | k + 1 => decide (n / 2 ^ k % 2 = 1) :: dig n k
theorem dig_length (n k : Nat) : (dig n k).length = k := by
  induction k with
  | zero => rfl
  | succ k ih => show (dig n k).length + 1 = k + 1; rw [ih]
theorem num_dig (n k : Nat) : num (dig n k) = n % 2 ^ k := by
  induction k with
  | zero => simp [dig, num, Nat.mod_one]
  | succ k ih =>
    show num (decide (n / 2 ^ k % 2 = 1) :: dig n k) = _
    rw [num_cons, dig_length, ih, Nat.pow_succ, Nat.mod_mul]
    have h2 : n / 2 ^ k % 2 < 2 := Nat.mod_lt _ (by decide)
    by_cases h : n / 2 ^ k % 2 = 1
    · rw [decide_eq_true h, h]; simp; omega
    · have h0 : n / 2 ^ k % 2 = 0 := by omega
      rw [decide_eq_false h, h0]; simp
theorem val_inj : ∀ {A B : List Nat}, (∀ b ∈ A, b < 256) → (∀ b ∈ B, b < 256) → A.length = B.length → val A = val B → A = B
  | [], [], _, _, _, _ => rfl
  | [], _ :: _, _, _, h, _ => by cases h
  | _ :: _, [], _, _, h, _ => by cases h
  | a :: A, b :: B, hA, hB, hl, hv => by
    have hl' : A.length = B.length := by simpa using hl
    rw [val_cons, val_cons, hl'] at hv
    have h1 : val A < 256 ^ B.length := by rw [← hl']; exact val_lt fun x hx => hA x (List.mem_cons_of_mem _ hx)
    have h2 : val B < 256 ^ B.length := val_lt fun x hx => hB x (List.mem_cons_of_mem _ hx)
    have p : 0 < 256 ^ B.length := Nat.pow_pos (by decide)
    have e1 : a = b := by
      have q1 : (a * 256 ^ B.length + val A) / 256 ^ B.length = a := by rw [Nat.mul_comm, Nat.mul_add_div p, Nat.div_eq_of_lt h1, Nat.add_zero]
      have q2 : (b * 256 ^ B.length + val B) / 256 ^ B.length = b := by rw [Nat.mul_comm, Nat.mul_add_div p, Nat.div_eq_of_lt h2, Nat.add_zero]
      rw [← q1, hv, q2]
    subst e1
    rw [val_inj (fun x hx => hA x (List.mem_cons_of_mem _ hx)) (fun x hx => hB x (List.mem_cons_of_mem _ hx)) hl' (Nat.add_left_cancel hv)]
theorem RowOf.uniq {N T : Nat} {R R' : List Nat} (h : RowOf N T R) (h' : RowOf N T R') : R = R' := by
  have e : R.length = R'.length := by rw [h.len, h'.len]
  exact val_inj h.byt h'.byt e (by rw [h.num, h'.num, e])
end BP

namespace W13
/-- how many of a stand at the beginning -/
def run (a : Nat) : List Nat → Nat
  | [] => 0
  | x :: xs => if x = a then run a xs + 1 else 0
/-- what the program puts: a length, or so many more -/
inductive Itm where
  | one (x : Nat)
  | rep (r : Nat)
def Itm.size : Itm → Nat
  | .one _ => 1
  | .rep r => r
def Itm.cost : Itm → Nat
  | .one _ => 3
  | .rep _ => 9
def Itm.next (a : Nat) : Itm → Nat
  | .one x => x
  | .rep _ => a
/-- the numbers and their counts of bits -/
def Itm.puts : Itm → List (Nat × Nat)
  | .one x => [(x, 3)]
  | .rep r => [(7, 3), (r - 3, 6)]
def stAt (L : List Nat) (p a : Nat) : Itm := if 3 ≤ min 66 (run a (L.drop p)) then .rep (min 66 (run a (L.drop p))) else .one (L.getD p 0)
def Walk (L : List Nat) : Nat → Nat → List Itm → Nat → Nat → Prop
  | p, a, [], q, b => p = q ∧ a = b
  | p, a, x :: xs, q, b => p < L.length ∧ x = stAt L p a ∧ Walk L (p + x.size) (x.next a) xs q b
/-- places and lengths ahead, step by step -/
def posS (p : Nat) (P : List Itm) : Nat := p + (P.map Itm.size).sum
def nxtS (a : Nat) : List Itm → Nat
  | [] => a
  | x :: xs => nxtS (x.next a) xs
/-- the lengths that steps tell, behind the length ahead -/
def decL (a : Nat) : List Itm → List Nat
  | [] => []
  | .one x :: P => x :: decL x P
  | .rep r :: P => List.replicate r a ++ decL a P
def StOk : Itm → Prop
  | .one x => x ≤ 6
  | .rep r => 3 ≤ r ∧ r ≤ 66
/-- all that is put -/
def puts (P : List Itm) : List (Nat × Nat) := P.flatMap Itm.puts
/-! costs -/
def cost (P : List Itm) : Nat := (P.map Itm.cost).sum
/-- the fewest bits by which so many more of the length ahead are told, as the program tells them -/
def g (m : Nat) : Nat := 9 * (m / 66) + min 9 (3 * (m % 66))
inductive PC : Nat → List Nat → Nat → Prop
  | nil (a : Nat) : PC a [] 0
  | rep {a : Nat} {L : List Nat} {c : Nat} (h : 3 ≤ min 66 (run a L)) (k : PC a (L.drop (min 66 (run a L))) c) : PC a L (9 + c)
  | one {a x : Nat} {xs : List Nat} {c : Nat} (h : ¬ 3 ≤ min 66 (run a (x :: xs))) (k : PC x xs c) : PC a (x :: xs) (3 + c)
/-- what the law reckons, stretch by stretch -/
inductive LF : Nat → List Nat → Nat → Prop
  | nil (a : Nat) : LF a [] 0
  | new {a x : Nat} {xs : List Nat} {c : Nat} (h : x ≠ a) (k : LF x (xs.drop (run x xs)) c) : LF a (x :: xs) (3 + g (run x xs) + c)
  | old {a : Nat} {x : Nat} {xs : List Nat} {c : Nat} (h : x = a) (k : LF a ((x :: xs).drop (run a (x :: xs))) c) : LF a (x :: xs) (g (run a (x :: xs)) + c)
/-- the law's table of costs -/
def cst : Nat → List Nat
  | 0 => [0]
  | n + 1 => cst n ++ [if n + 1 > 2 then min ((cst n).getD n 0 + 3) ((cst n).getD (n + 1 - 66) 0 + 9) else (cst n).getD n 0 + 3]
end W13

set_option linter.all false
namespace W17
open BP W13
/-! ### parts as bits -/
def bitsP (ps : List (Nat × Nat)) : List Bool := ps.flatMap fun q => dig q.1 q.2
/-! ### a row that a reader has -/
structure RdOf (R : List Nat) (ps : List (Nat × Nat)) : Prop where
  len : 8 * R.length = tots ps
  num : val R = nums ps 0
  good : Good ps
  byt : ∀ b ∈ R, b < 256
theorem RdOf.at {R : List Nat} {ps a c : List (Nat × Nat)} {n s : Nat} (h : RdOf R ps) (e : ps = a ++ (n, s) :: c) : tots a + s ≤ 8 * R.length ∧ val R / 2 ^ (8 * R.length - (tots a + s)) % 2 ^ s = n := by
  subst e
  have g := h.good
  have t := take_one (a := a) (c := c) (n := n) (s := s) (fun q hq => g q (by simp [hq])) (g (n, s) (by simp)) (e := 0) (L := 8 * R.length) (by rw [h.len]; rfl)
  rw [Nat.pow_zero, Nat.mul_one, ← h.num] at t
  refine ⟨?_, t⟩
  rw [h.len, tots_append, tots_cons]
  show tots a + s ≤ tots a + (s + tots c)
  omega
/-! ### runs -/
def rlF : Nat → List Nat → List (Nat × Nat)
  | 0, _ => []
  | _ + 1, [] => []
  | n + 1, a :: L => (a, 1 + run a L) :: rlF n (L.drop (run a L))
def rl (L : List Nat) : List (Nat × Nat) := rlF L.length L
def exp (rs : List (Nat × Nat)) : List Nat := rs.flatMap fun q => List.replicate q.2 q.1
def pR (rs : List (Nat × Nat)) : List (Nat × Nat) := rs.flatMap fun q => [(q.2 - 1, 6), (q.1, 8)]
/-- the parts of a text: raw, or by runs -/
def pf : Bool → List Nat → List (Nat × Nat)
  | false, T => T.map fun s => (s, 8)
  | true, T => pR (rl T)
end W17

set_option Elab.async false
set_option linter.all false
namespace C9
/-- the running code behind j sizes -/
def ed (L : List Nat) : Nat → Nat
  | 0 => 0
  | j + 1 => 2 * ed L j + L.count (j + 1)
/-- the code of the thing at place q, of s bits -/
def cdAt (L : List Nat) (q s : Nat) : Nat := 2 * ed L (s - 1) + (L.take q).count s
/-- what stands at place q behind j whole sizes and p places of the next one -/
def itm (L : List Nat) (j p q : Nat) : Option (Nat × Nat) := if 1 ≤ L.getD q 0 ∧ (L.getD q 0 ≤ j ∨ (L.getD q 0 = j + 1 ∧ q < p)) then some (cdAt L q (L.getD q 0), L.getD q 0) else none
def row (L : List Nat) (j p : Nat) : List (Option (Nat × Nat)) := (List.range L.length).map (itm L j p)
def codes (L : List Nat) : List (Option (Nat × Nat)) := row L 12 0
theorem row_length (L : List Nat) (j p : Nat) : (row L j p).length = L.length := by simp [row]
theorem row_get {L : List Nat} {j p q : Nat} (h : q < L.length) : (row L j p)[q]? = some (itm L j p q) := by simp [row, h]
theorem row_zero (L : List Nat) : row L 0 0 = List.replicate L.length none := by
  apply List.ext_getElem?
  intro q
  by_cases h : q < L.length
  · rw [row_get h, List.getElem?_replicate, if_pos h]
    congr 1
    unfold itm
    rw [if_neg (by omega)]
  · rw [List.getElem?_eq_none (by rw [row_length]; omega), List.getElem?_eq_none (by rw [List.length_replicate]; omega)]
theorem row_next (L : List Nat) (j : Nat) : row L j L.length = row L (j + 1) 0 := by
  apply List.ext_getElem?
  intro q
  by_cases h : q < L.length
  · rw [row_get h, row_get h]
    congr 1
    unfold itm
    by_cases c : 1 ≤ L.getD q 0 ∧ (L.getD q 0 ≤ j ∨ (L.getD q 0 = j + 1 ∧ q < L.length))
    · rw [if_pos c, if_pos (by omega)]
    · rw [if_neg c, if_neg (by omega)]
  · rw [List.getElem?_eq_none (by rw [row_length]; omega), List.getElem?_eq_none (by rw [row_length]; omega)]
theorem row_hit {L : List Nat} {j p : Nat} (h : L[p]? = some (j + 1)) : row L j (p + 1) = (row L j p).set p (some (cdAt L p (j + 1), j + 1)) := by
  have hp : p < L.length := (List.getElem?_eq_some_iff.mp h).1
  have hg : L.getD p 0 = j + 1 := by rw [List.getD_eq_getElem?_getD, h]; rfl
  apply List.ext_getElem?
  intro q
  by_cases e : p = q
  · subst e
    rw [row_get hp, List.getElem?_set_self (by rw [row_length]; exact hp)]
    congr 1
    unfold itm
    rw [hg, if_pos (by omega)]
  · rw [List.getElem?_set_ne e]
    by_cases hq : q < L.length
    · rw [row_get hq, row_get hq]
      congr 1
      unfold itm
      by_cases c : 1 ≤ L.getD q 0 ∧ (L.getD q 0 ≤ j ∨ (L.getD q 0 = j + 1 ∧ q < p))
      · rw [if_pos c, if_pos (by omega)]
      · rw [if_neg c, if_neg (by omega)]
    · rw [List.getElem?_eq_none (by rw [row_length]; omega), List.getElem?_eq_none (by rw [row_length]; omega)]
theorem row_pass {L : List Nat} {j p : Nat} (h : L[p]? ≠ some (j + 1)) : row L j (p + 1) = row L j p := by
  apply List.ext_getElem?
  intro q
  by_cases hq : q < L.length
  · rw [row_get hq, row_get hq]
    congr 1
    unfold itm
    have hne : q = p → L.getD q 0 ≠ j + 1 := by
      rintro rfl e
      apply h
      rw [List.getD_eq_getElem?_getD, List.getElem?_eq_getElem hq] at e
      rw [List.getElem?_eq_getElem hq]
      exact congrArg some e
    by_cases c : 1 ≤ L.getD q 0 ∧ (L.getD q 0 ≤ j ∨ (L.getD q 0 = j + 1 ∧ q < p))
    · rw [if_pos c, if_pos (by omega)]
    · rw [if_neg c, if_neg (by
        intro z
        apply c
        refine ⟨z.1, ?_⟩
        rcases z.2 with z | ⟨z1, z2⟩
        · exact .inl z
        · refine .inr ⟨z1, ?_⟩
          have : q ≠ p := fun e => hne e z1
          omega)]
  · rw [List.getElem?_eq_none (by rw [row_length]; omega), List.getElem?_eq_none (by rw [row_length]; omega)]
theorem code_at (L : List Nat) (j p : Nat) : cdAt L p (j + 1) = 2 * ed L j + (L.take p).count (j + 1) := rfl
theorem code_hit {L : List Nat} {j p : Nat} (h : L[p]? = some (j + 1)) : cdAt L (p + 1) (j + 1) = cdAt L p (j + 1) + 1 := by
  unfold cdAt
  rw [List.take_add_one, h, List.count_append]
  simp
  omega
theorem code_pass {L : List Nat} {j p : Nat} (h : L[p]? ≠ some (j + 1)) : cdAt L (p + 1) (j + 1) = cdAt L p (j + 1) := by
  unfold cdAt
  rw [List.take_add_one, List.count_append]
  cases e : L[p]? with
  | none => simp
  | some z =>
    rw [e] at h
    have : z ≠ j + 1 := fun q => h (by rw [q])
    simp [List.count_singleton, this]
theorem code_end (L : List Nat) (j : Nat) : cdAt L L.length (j + 1) = ed L (j + 1) := by
  rw [code_at, List.take_length]; rfl
theorem ed_mono (L : List Nat) (a : Nat) : ∀ d, 2 ^ d * ed L a ≤ ed L (a + d)
  | 0 => by simp
  | d + 1 => by
    have := ed_mono L a d
    show _ ≤ 2 * ed L (a + d) + _
    rw [Nat.pow_succ]
    have : 2 ^ d * 2 * ed L a = 2 * (2 ^ d * ed L a) := by rw [Nat.mul_comm (2 ^ d) 2, Nat.mul_assoc]
    omega
theorem ed_le (L : List Nat) : ∀ j, ed L j + L.length ≤ L.length * 2 ^ j
  | 0 => by simp [ed]
  | j + 1 => by
    have := ed_le L j
    have := List.count_le_length (a := j + 1) (l := L)
    rw [ed, Nat.pow_succ, ← Nat.mul_assoc]
    omega
theorem code_lt {L : List Nat} {q s : Nat} (h : L[q]? = some s) (hs : 1 ≤ s) : cdAt L q s < ed L s := by
  obtain ⟨j, rfl⟩ : ∃ j, s = j + 1 := ⟨s - 1, by omega⟩
  have h1 := code_hit (j := j) h
  have h2 : cdAt L (q + 1) (j + 1) ≤ ed L (j + 1) := by
    rw [← code_end]
    unfold cdAt
    have : List.count (j + 1) (List.take (q + 1) L) ≤ List.count (j + 1) (List.take L.length L) := by
      rw [List.take_length]
      exact List.Sublist.count_le _ (List.take_sublist _ _)
    omega
  omega
theorem nopre {L : List Nat} {q1 q2 s1 s2 : Nat} (h1 : L[q1]? = some s1) (p1 : 1 ≤ s1) (lt : s1 < s2) : cdAt L q2 s2 / 2 ^ (s2 - s1) ≠ cdAt L q1 s1 := by
  have a := code_lt h1 p1
  have b : 2 ^ (s2 - s1) * ed L s1 ≤ cdAt L q2 s2 := by
    have := ed_mono L s1 (s2 - 1 - s1)
    rw [show s1 + (s2 - 1 - s1) = s2 - 1 by omega] at this
    rw [show s2 - s1 = (s2 - 1 - s1) + 1 by omega, Nat.pow_succ]
    unfold cdAt
    have e : 2 ^ (s2 - 1 - s1) * 2 * ed L s1 = 2 * (2 ^ (s2 - 1 - s1) * ed L s1) := by rw [Nat.mul_comm (2 ^ (s2 - 1 - s1)) 2, Nat.mul_assoc]
    omega
  have c : ed L s1 ≤ cdAt L q2 s2 / 2 ^ (s2 - s1) := (Nat.le_div_iff_mul_le (Nat.pow_pos (by decide))).mpr (by rw [Nat.mul_comm]; exact b)
  omega
/-- what the lengths take of 2 ^ m -/
def krf (m : Nat) (L : List Nat) : Nat := ((L.filter (fun l => decide (0 < l))).map (fun l => 2 ^ (m - l))).sum
theorem krf_nil (m : Nat) : krf m [] = 0 := rfl
theorem krf_snoc (m : Nat) (L : List Nat) (l : Nat) : krf m (L ++ [l]) = krf m L + (if 0 < l then 2 ^ (m - l) else 0) := by
  unfold krf
  rw [List.filter_append, List.map_append, List.sum_append]
  by_cases h : 0 < l <;> simp [h]
theorem krf_app (m : Nat) (L M : List Nat) : krf m (L ++ M) = krf m L + krf m M := by
  unfold krf
  rw [List.filter_append, List.map_append, List.sum_append]
theorem krf_up {m : Nat} (hm : m ≤ 12) : ∀ L : List Nat, (∀ l ∈ L, l ≤ m) → krf 12 L = 2 ^ (12 - m) * krf m L
  | [], _ => rfl
  | a :: L, h => by
    have ih := krf_up hm L fun l z => h l (List.mem_cons_of_mem _ z)
    have ha := h a List.mem_cons_self
    unfold krf at ih ⊢
    by_cases c : 0 < a
    · simp only [List.filter_cons, c, decide_true, if_true, List.map_cons, List.sum_cons]
      rw [ih, Nat.mul_add, ← Nat.pow_add]
      congr 2
      omega
    · simp only [List.filter_cons, c, decide_false, Bool.false_eq_true, if_false]
      exact ih
/-- lengths that are codes' -/
structure Good (L : List Nat) : Prop where
  ne : 1 ≤ L.length
  le : L.length ≤ 300
  most : ∀ l ∈ L, l ≤ 12
  some : ∃ l ∈ L, 0 < l
  room : krf 12 L ≤ 4096
end C9

set_option linter.all false
namespace C10
open BP C9
/-! ### codes are below 2 ^ their length -/
def kle (L : List Nat) (j : Nat) : Nat := krf 12 (L.filter fun l => decide (l ≤ j))
theorem krf_filter_le (p : Nat → Bool) : ∀ L : List Nat, krf 12 (L.filter p) ≤ krf 12 L
  | [] => Nat.le_refl _
  | a :: L => by
    have ih := krf_filter_le p L
    have e : ∀ M : List Nat, krf 12 (a :: M) = krf 12 [a] + krf 12 M := fun M => krf_app 12 [a] M
    by_cases h : p a = true
    · rw [List.filter_cons_of_pos h, e (L.filter p), e L]; omega
    · rw [List.filter_cons_of_neg h, e L]; omega
theorem kle_succ (L : List Nat) (j : Nat) : kle L (j + 1) = kle L j + L.count (j + 1) * 2 ^ (12 - (j + 1)) := by
  induction L with
  | nil => simp [kle]
  | cons a L ih =>
    have e : ∀ M : List Nat, krf 12 (a :: M) = krf 12 [a] + krf 12 M := fun M => krf_app 12 [a] M
    unfold kle at ih ⊢
    rw [List.count_cons]
    by_cases h1 : a ≤ j
    · rw [List.filter_cons_of_pos (by simp; omega), List.filter_cons_of_pos (by simpa using h1), e (L.filter fun l => decide (l ≤ j + 1)), e (L.filter fun l => decide (l ≤ j)), ih, if_neg (by simp; omega)]
      simp only [Nat.add_zero]
      omega
    · by_cases h2 : a = j + 1
      · subst h2
        rw [List.filter_cons_of_pos (by simp), List.filter_cons_of_neg (by simp), e (L.filter fun l => decide (l ≤ j + 1)), ih, if_pos (by simp)]
        have : krf 12 [j + 1] = 2 ^ (12 - (j + 1)) := by
          unfold krf; simp
        rw [this, Nat.add_mul, Nat.one_mul]
        omega
      · rw [List.filter_cons_of_neg (by simp; omega), List.filter_cons_of_neg (by simpa using h1), ih, if_neg (by simpa using h2)]
        simp only [Nat.add_zero]
theorem ed_kle (L : List Nat) : ∀ j, j ≤ 12 → ed L j * 2 ^ (12 - j) = kle L j
  | 0, _ => by
    unfold kle krf
    have : ((L.filter fun l => decide (l ≤ 0)).filter fun l => decide (0 < l)) = [] := by
      rw [List.filter_filter, List.filter_eq_nil_iff]
      intro a _
      simp
      omega
    rw [this]
    simp [ed]
  | j + 1, h => by
    have ih := ed_kle L j (by omega)
    rw [kle_succ, ← ih]
    show (2 * ed L j + L.count (j + 1)) * 2 ^ (12 - (j + 1)) = _
    rw [Nat.add_mul, show 12 - j = (12 - (j + 1)) + 1 by omega, Nat.pow_succ]
    congr 1
    rw [Nat.mul_comm 2, Nat.mul_assoc, Nat.mul_comm 2]
theorem ed_le2 {L : List Nat} (g : Good L) {j : Nat} (hj : j ≤ 12) : ed L j ≤ 2 ^ j := by
  have h := ed_kle L j hj
  have h1 : kle L j ≤ 4096 := Nat.le_trans (krf_filter_le _ L) g.room
  have h2 : 2 ^ j * 2 ^ (12 - j) = 4096 := by rw [← Nat.pow_add, show j + (12 - j) = 12 by omega]
  rw [← h, ← h2] at h1
  exact Nat.le_of_mul_le_mul_right h1 (Nat.pow_pos (by decide))
theorem get_le {L : List Nat} (g : Good L) {q s : Nat} (h : L[q]? = some s) : s ≤ 12 := g.most s (List.mem_of_getElem? h)
theorem cd_lt {L : List Nat} (g : Good L) {q s : Nat} (h : L[q]? = some s) (hs : 1 ≤ s) : cdAt L q s < 2 ^ s :=
  Nat.lt_of_lt_of_le (code_lt h hs) (ed_le2 g (get_le g h))
theorem cd_inj {L : List Nat} {q r s : Nat} (h1 : L[q]? = some s) (h2 : L[r]? = some s) (e : cdAt L q s = cdAt L r s) : q = r := by
  have key : ∀ q r : Nat, L[q]? = some s → q < r → (L.take q).count s < (L.take r).count s := fun q r h1 h => by
    have e1 : L.take (q + 1) = L.take q ++ [s] := by rw [List.take_add_one, h1]; rfl
    have e2 : (L.take (q + 1)).count s = (L.take q).count s + 1 := by rw [e1, List.count_append]; simp
    have e3 : (L.take (q + 1)).count s ≤ (L.take r).count s := by
      have : L.take (q + 1) = (L.take r).take (q + 1) := by rw [List.take_take, Nat.min_eq_left (by omega)]
      rw [this]
      exact List.Sublist.count_le _ (List.take_sublist _ _)
    omega
  unfold cdAt at e
  rcases Nat.lt_trichotomy q r with h | h | h
  · have := key q r h1 h; omega
  · exact h
  · have := key r q h2 h; omega
/-! ### words -/
def IsCode (L : List Nat) (u : List Bool) (q : Nat) : Prop := L[q]? = some u.length ∧ 1 ≤ u.length ∧ cdAt L q u.length = num u
def Beg (L : List Nat) (u : List Bool) : Prop := ∃ q s, L[q]? = some s ∧ u.length < s ∧ cdAt L q s / 2 ^ (s - u.length) = num u
theorem not_both {L : List Nat} {u : List Bool} {q : Nat} (h : IsCode L u q) (b : Beg L u) : False := by
  obtain ⟨h1, h2, h3⟩ := h
  obtain ⟨q2, s2, b1, b2, b3⟩ := b
  exact nopre h1 h2 b2 (b3.trans h3.symm)
theorem beg_nil {L : List Nat} (g : Good L) : Beg L [] := by
  obtain ⟨l, hl, h0⟩ := g.some
  obtain ⟨q, hq⟩ := List.mem_iff_getElem?.mp hl
  exact ⟨q, l, hq, h0, Nat.div_eq_of_lt (cd_lt g hq h0)⟩
theorem isCode_inj {L : List Nat} {u : List Bool} {q r : Nat} (h : IsCode L u q) (h' : IsCode L u r) : q = r := cd_inj h.1 h'.1 (h.2.2.trans h'.2.2.symm)
/-- what is to be told of the bits that come -/
inductive Res where
  | thing (q s : Nat)
  | bad
  | none
def Due (L : List Nat) (rest : List Bool) : Res → Prop
  | .thing q s => s ≤ rest.length ∧ IsCode L (rest.take s) q ∧ ∀ j < s, Beg L (rest.take j)
  | .bad => ∃ s, s ≤ rest.length ∧ (∀ j < s, Beg L (rest.take j)) ∧ ¬ Beg L (rest.take s) ∧ ∀ q, ¬ IsCode L (rest.take s) q
  | .none => ∀ j ≤ rest.length, Beg L (rest.take j)
theorem Due.uniq {L : List Nat} {rest : List Bool} {a b : Res} (ha : Due L rest a) (hb : Due L rest b) : a = b := by
  have tt : ∀ {q s q' s'}, Due L rest (.thing q s) → Due L rest (.thing q' s') → s ≤ s' := fun {q s q' s'} h h' => by
    rcases Nat.lt_or_ge s' s with c | c
    · exact (not_both h'.2.1 (h.2.2 s' c)).elim
    · exact c
  have tb : ∀ {q s}, Due L rest (.thing q s) → Due L rest .bad → False := fun {q s} h ⟨r, h1, h2, h3, h4⟩ => by
    rcases Nat.lt_trichotomy s r with c | c | c
    · exact not_both h.2.1 (h2 s c)
    · subst c; exact h4 q h.2.1
    · exact h3 (h.2.2 r c)
  have tn : ∀ {q s}, Due L rest (.thing q s) → Due L rest .none → False := fun {q s} h h' => not_both h.2.1 (h' s h.1)
  have bn : Due L rest .bad → Due L rest .none → False := fun ⟨r, h1, h2, h3, h4⟩ h' => h3 (h' r h1)
  cases a with
  | thing q s =>
    cases b with
    | thing q' s' =>
      have e : s = s' := Nat.le_antisymm (tt ha hb) (tt hb ha)
      subst e
      rw [isCode_inj ha.2.1 hb.2.1]
    | bad => exact (tb ha hb).elim
    | none => exact (tn ha hb).elim
  | bad =>
    cases b with
    | thing q' s' => exact (tb hb ha).elim
    | bad => rfl
    | none => exact (bn ha hb).elim
  | none =>
    cases b with
    | thing q' s' => exact (tn hb ha).elim
    | bad => exact (bn hb ha).elim
    | none => rfl
/-! ### the words of the codes -/
theorem num_inj : ∀ {a b : List Bool}, a.length = b.length → num a = num b → a = b
  | [], [], _, _ => rfl
  | x :: a, y :: b, h, e => by
    have hl : a.length = b.length := by simpa using h
    rw [num_cons, num_cons, hl] at e
    have h1 := num_lt a
    have h2 := num_lt b
    rw [hl] at h1
    have exy : x = y := by
      cases x <;> cases y <;> first | rfl | (exfalso; simp at e; omega)
    subst exy
    rw [num_inj hl (by omega)]
theorem num_take (u : List Bool) {k : Nat} (h : k ≤ u.length) : num (u.take k) = num u / 2 ^ (u.length - k) := by
  have e : num u = num (u.take k) * 2 ^ (u.length - k) + num (u.drop k) := by
    have := num_append (u.take k) (u.drop k)
    rw [List.take_append_drop, List.length_drop] at this
    exact this
  have hlt := num_lt (u.drop k)
  rw [List.length_drop] at hlt
  rw [e, Nat.mul_comm, Nat.mul_add_div (Nat.pow_pos (by decide)), Nat.div_eq_of_lt hlt]
  rfl
/-- the word of a code -/
def wd (c : Nat × Nat) : List Bool := dig c.1 c.2
theorem wd_length (c : Nat × Nat) : (wd c).length = c.2 := dig_length _ _
theorem wd_num {L : List Nat} (g : Good L) {q s : Nat} (h : L[q]? = some s) (hs : 1 ≤ s) : num (wd (cdAt L q s, s)) = cdAt L q s := by
  unfold wd
  rw [num_dig]
  exact Nat.mod_eq_of_lt (cd_lt g h hs)
theorem codes_get {L : List Nat} {q : Nat} (g : Good L) : (codes L)[q]? = if q < L.length then some (if 1 ≤ L.getD q 0 then some (cdAt L q (L.getD q 0), L.getD q 0) else none) else none := by
  unfold codes
  by_cases h : q < L.length
  · rw [row_get h, if_pos h]
    congr 1
    unfold itm
    have : L.getD q 0 ≤ 12 := by
      rw [List.getD_eq_getElem?_getD, List.getElem?_eq_getElem h]
      exact g.most _ (List.getElem_mem h)
    by_cases c : 1 ≤ L.getD q 0
    · rw [if_pos ⟨c, .inl this⟩, if_pos c]
    · rw [if_neg (fun z => c z.1), if_neg c]
  · rw [if_neg h, List.getElem?_eq_none (by rw [row_length]; omega)]
theorem codes_some {L : List Nat} (g : Good L) {q : Nat} {c : Nat × Nat} (h : (codes L)[q]? = some (some c)) : L[q]? = some c.2 ∧ 1 ≤ c.2 ∧ c.1 = cdAt L q c.2 := by
  rw [codes_get g] at h
  split at h
  · rename_i hq
    injection h with h
    split at h
    · rename_i h1
      cases h
      refine ⟨?_, h1, rfl⟩
      rw [List.getD_eq_getElem?_getD, List.getElem?_eq_getElem hq]
      rfl
    · cases h
  · cases h
theorem codes_of_get {L : List Nat} (g : Good L) {q s : Nat} (h : L[q]? = some s) (hs : 1 ≤ s) : (codes L)[q]? = some (some (cdAt L q s, s)) := by
  have hq := (List.getElem?_eq_some_iff.mp h).1
  have e : L.getD q 0 = s := by rw [List.getD_eq_getElem?_getD, h]; rfl
  rw [codes_get g, if_pos hq, e, if_pos hs]
theorem isCode_wd {L : List Nat} (g : Good L) {u : List Bool} {q : Nat} : IsCode L u q ↔ ∃ c : Nat × Nat, (codes L)[q]? = some (some c) ∧ wd c = u := by
  constructor
  · rintro ⟨h1, h2, h3⟩
    refine ⟨_, codes_of_get g h1 h2, ?_⟩
    exact num_inj (wd_length _) ((wd_num g h1 h2).trans h3)
  · rintro ⟨c, h, rfl⟩
    obtain ⟨h1, h2, h3⟩ := codes_some g h
    have e : c = (cdAt L q c.2, c.2) := by rw [← h3]
    refine ⟨by rw [wd_length]; exact h1, by rw [wd_length]; exact h2, ?_⟩
    rw [wd_length]
    conv => rhs; rw [e]
    rw [wd_num g h1 h2]
/-- some code begins with the word, and is another one -/
theorem beg_wd {L : List Nat} (g : Good L) {u : List Bool} (hn : ∀ q, ¬ IsCode L u q) : Beg L u ↔ ∃ (q : Nat) (c : Nat × Nat), (codes L)[q]? = some (some c) ∧ u <+: wd c := by
  constructor
  · rintro ⟨q, s, h1, h2, h3⟩
    refine ⟨q, _, codes_of_get g h1 (by omega), ?_⟩
    have e : (wd (cdAt L q s, s)).take u.length = u := by
      refine num_inj (by rw [List.length_take, wd_length]; exact Nat.min_eq_left (by show u.length ≤ s; omega)) ?_
      rw [num_take _ (by rw [wd_length]; show u.length ≤ s; omega), wd_num g h1 (by omega), wd_length]
      exact h3
    exact ⟨_, (congrArg (· ++ (wd (cdAt L q s, s)).drop u.length) e).symm.trans (List.take_append_drop _ _)⟩
  · rintro ⟨q, c, h, t, ht⟩
    obtain ⟨h1, h2, h3⟩ := codes_some g h
    have hl : u.length + t.length = c.2 := by rw [← wd_length c, ← ht, List.length_append]
    by_cases ht0 : t.length = 0
    · have : t = [] := List.length_eq_zero_iff.mp ht0
      subst this
      rw [List.append_nil] at ht
      exact absurd ((isCode_wd g).mpr ⟨c, h, ht.symm⟩) (hn q)
    · refine ⟨q, c.2, h1, by omega, ?_⟩
      have e : c = (cdAt L q c.2, c.2) := by rw [← h3]
      have h4 := wd_num g h1 h2
      rw [← e] at h4
      rw [← h4, ← wd_length c, ← num_take _ (by rw [wd_length]; omega), ← ht, List.take_left]
end C10
namespace C10
open BP C9
theorem due_total (L : List Nat) (rest : List Bool) : ∃ r, Due L rest r := by
  have key : ∀ n, n ≤ rest.length + 1 → (∀ j < n, Beg L (rest.take j)) ∨ ∃ s, s < n ∧ (∀ j < s, Beg L (rest.take j)) ∧ ¬ Beg L (rest.take s) := by
    intro n
    induction n with
    | zero => exact fun _ => .inl fun j hj => absurd hj (by omega)
    | succ n ih =>
      intro hn
      rcases ih (by omega) with h | ⟨s, h1, h2, h3⟩
      · by_cases c : Beg L (rest.take n)
        · refine .inl fun j hj => ?_
          rcases Nat.lt_or_ge j n with z | z
          · exact h j z
          · have : j = n := by omega
            subst this; exact c
        · exact .inr ⟨n, by omega, h, c⟩
      · exact .inr ⟨s, by omega, h2, h3⟩
  rcases key (rest.length + 1) (Nat.le_refl _) with h | ⟨s, h1, h2, h3⟩
  · exact ⟨.none, fun j hj => h j (by omega)⟩
  · by_cases c : ∃ q, IsCode L (rest.take s) q
    · obtain ⟨q, hq⟩ := c
      exact ⟨.thing q s, by omega, hq, h2⟩
    · exact ⟨.bad, s, by omega, h2, h3, fun q hq => c ⟨q, hq⟩⟩
theorem due_le {L : List Nat} {rest : List Bool} {q s : Nat} (h : Due L rest (.thing q s)) : 1 ≤ s ∧ s ≤ rest.length := by
  obtain ⟨h1, ⟨_, h2, _⟩, _⟩ := h
  rw [List.length_take] at h2
  omega
end C10

set_option Elab.async false
set_option linter.all false
set_option maxRecDepth 100000
set_option maxHeartbeats 4000000
namespace K10
open PySem L2 QQ W17 C9
seal PE PA PS PSs PT PW PG PI
/-! ### the text by places -/
def top (i : Nat) : Stmt := PySem.Challenge.pw_balepress_k10_codes_read.main.body.getD i (.Pass ⟨0, 0, 0, 0⟩)
abbrev sIsNumb : Stmt := top 23
abbrev sWhole : Stmt := top 24
abbrev sAreWhole : Stmt := top 25
abbrev sIsRow : Stmt := top 26
abbrev sNeedRow : Stmt := top 27
abbrev sThings : Stmt := top 31
abbrev sRoom : Stmt := top 33
abbrev sNeedLen : Stmt := top 34
abbrev sCodesOf : Stmt := top 35
abbrev sNeedSize : Stmt := top 39
abbrev sOnes : Stmt := top 40
abbrev sBitsAt : Stmt := top 41
abbrev sCellAt : Stmt := top 45
abbrev sMixed : Stmt := top 46
abbrev sIsNum : Stmt := top 47
abbrev sLengths : Stmt := top 48
abbrev sLCodes : Stmt := top 49
abbrev sWord : Stmt := top 50
abbrev sAsked : Stmt := top 51
abbrev sDue : Stmt := top 52
abbrev sTexts : Stmt := top 53
abbrev sBits : Stmt := top 54
abbrev sRow : Stmt := top 55
abbrev sRead : Stmt := top 56
abbrev sLaw : Stmt := top 57
abbrev sCInit : Stmt := inClass (top 36) 0
abbrev sKeep : Stmt := inClass (top 36) 1
abbrev sThing : Stmt := inClass (top 36) 2
abbrev sBInit : Stmt := inClass (top 42) 0
abbrev sPut : Stmt := inClass (top 42) 1
abbrev sMove : Stmt := inClass (top 42) 2
abbrev sMany : Stmt := inClass (top 42) 3
abbrev sRowOut : Stmt := inClass (top 42) 4
abbrev sRInit : Stmt := inClass (top 43) 0
abbrev sTake : Stmt := inClass (top 43) 1
abbrev sLeft : Stmt := inClass (top 43) 2
abbrev sPlace : Stmt := inClass (top 43) 3
abbrev sGo : Stmt := inClass (top 43) 4
abbrev vN (n : Nat) : V := .int ((n : Nat) : Int)
/-- what the names of the text's top stand for -/
structure Txt (K : PySem.W.Frag) (mg : Str → Option Value) : Prop where
  isi : mg "isinstance" = none
  bool : mg "bool" = none
  int : mg "int" = none
  list : mg "list" = none
  len : mg "len" = none
  range : mg "range" = none
  max : mg "max" = none
  great : ∃ t, mg "GREATEST" = some (.int 255 t)
  most : ∃ t, mg "MOST_SIZE" = some (.int 24 t)
  isnumb : ∃ (f : Addr) (fd : FuncData), Fun K "is_number" "is_number" sIsNumb f fd ∧ mg "is_number" = some (.ref f) ∧ Binds K fd ["thing"] []
/-- a def of the top -/
structure Fn (K : PySem.W.Frag) (mg : Str → Option Value) (x : Str) (st : Stmt) (ps : List Str) (f : Addr) (fd : FuncData) : Prop where
  F : Fun K x x st f fd
  m : mg x = some (.ref f)
  b : Binds K fd ps []
/-- a method of the class at C -/
structure Me (K : PySem.W.Frag) (C : Addr) (x qual : Str) (st : Stmt) (ps : List Str) (f : Addr) (fd : FuncData) : Prop where
  F : Fun K x qual st f fd
  m : Meth K C x f
  b : Binds K fd ps []
section
variable (K : PySem.W.Frag)
theorem kit_ib : PySem.W.kitOne K (.type "int") (.type "bool") = some false := by
  show (if (Value.type "int" == Value.type "bool") = true then some true else if PySem.W.kitMeta "bool" = true then (fastBuiltinMro "int").map (·.contains (.type "bool")) else none) = some false
  decide +kernel
theorem kit_ii : PySem.W.kitOne K (.type "int") (.type "int") = some true := by
  show (if (Value.type "int" == Value.type "int") = true then some true else if PySem.W.kitMeta "int" = true then (fastBuiltinMro "int").map (·.contains (.type "int")) else none) = some true
  decide +kernel
theorem kit_ll : PySem.W.kitOne K (.type "list") (.type "list") = some true := by
  show (if (Value.type "list" == Value.type "list") = true then some true else if PySem.W.kitMeta "list" = true then (fastBuiltinMro "list").map (·.contains (.type "list")) else none) = some true
  decide +kernel
theorem kit_tt : PySem.W.kitOne K (.type "tuple") (.type "tuple") = some true := by
  show (if (Value.type "tuple" == Value.type "tuple") = true then some true else if PySem.W.kitMeta "tuple" = true then (fastBuiltinMro "tuple").map (·.contains (.type "tuple")) else none) = some true
  decide +kernel
end
theorem vN_inj {x y : Nat} : vN x = vN y ↔ x = y := by
  constructor
  · intro h
    injection h with h
    omega
  · rintro rfl; rfl
theorem get_vN {S : List Nat} {i : Nat} (h : i < S.length) : (S.map vN)[i]? = some (vN S[i]) := by simp [h]
theorem map_get {B : List Nat} {i : Nat} {y : V} (h : (B.map vN)[i]? = some y) : ∃ b, B[i]? = some b ∧ y = vN b := by
  rw [List.getElem?_map] at h
  cases e : B[i]? with
  | none => rw [e] at h; cases h
  | some z => rw [e] at h; exact ⟨z, rfl, (Option.some.inj h).symm⟩
theorem take_snoc {B : List Nat} {i b : Nat} (h : B[i]? = some b) : B.take (i + 1) = B.take i ++ [b] := by rw [List.take_add_one, h]; rfl
theorem sl2000 {n : Nat} (h : n ≤ 2000) : n ≤ sizeLine := Nat.le_trans h (by decide)
theorem sl2000' {n : Nat} (h : n ≤ 2000) : n < sizeLine := Nat.lt_of_le_of_lt h (by decide)
section
variable {P : Program} {w : World} {K : PySem.W.Frag} {mg : Str → Option Value} {base : Heap}
/-! ### is_whole, are_whole, is_row, need_row, need_window -/
def spWhole : Sp := fun vs H Q _ => ∃ (i lo hi : Int), vs = [.int i, .int lo, .int hi] ∧ Q (.bl (decide (lo ≤ i) && decide (i ≤ hi))) H
theorem scWhole : FnScope ["thing", "least", "most"] ["thing", "least", "most"] (defScope sWhole) := ⟨rfl, rfl, rfl, by decide +kernel, rfl, by decide +kernel, by decide +kernel⟩
def spNumb  : Sp := fun vs H Q _ => ∃ (x : V) (b : Bool), vs = [x] ∧ ((∃ i, x = .int i) ∧ b = true) ∧ Q (.bl b) H
theorem scNumb : FnScope ["thing"] ["thing"] (defScope sIsNumb) := ⟨rfl, rfl, rfl, by decide +kernel, rfl, by decide +kernel, by decide +kernel⟩
theorem ok_numb {f : Addr} {fd : FuncData} (F : Fun K "is_number" "is_number" sIsNumb f fd) (T : Txt K mg) : FnOk P w K mg base CX0 0 f fd ["thing"] spNumb := by
  refine F.ok0 scNumb (fun vs H Q E h => ?_) (fun cdv A outer s H vs Q E h => ?_)
  · obtain ⟨x, b, rfl, _⟩ := h
    rfl
  · obtain ⟨x, b, rfl, hw, k⟩ := h
    refine ⟨_, pss_one (ps_ret (pe_and (pe_callB call_isi (by rfl) T.isi PyProof.Rows.boot_isinstance (pa_cons (pv 0) (pa_cons (pe_bltn (v := .ty "int") (by rfl) T.int PyProof.Rows.boot_int rfl) pa_nil))) (pe_one (pe_not (pe_callB call_isi (by rfl) T.isi PyProof.Rows.boot_isinstance (pa_cons (pv 0) (pa_cons (pe_bltn (v := .ty "bool") (by rfl) T.bool PyProof.Rows.boot_bool rfl) pa_nil))))))), ?_⟩
    obtain ⟨⟨i, rfl⟩, rfl⟩ := hw
    refine ⟨_, rfl, _, _, _, _, rfl, .int _, kit_ii K, _, rfl, iteT ?_⟩
    exact ⟨_, rfl, _, _, _, _, rfl, .int _, kit_ib K, _, rfl, k⟩
theorem ok_whole {f : Addr} {fd : FuncData} (F : Fn K mg "is_whole" sWhole ["thing", "least", "most"] f fd) (T : Txt K mg) : FnOk P w K mg base CX0 1 f fd ["thing", "least", "most"] spWhole := by
  obtain ⟨fN, fdN, NF, Nm, Nb⟩ := T.isnumb
  have GN := ok_numb (P := P) (w := w) (base := base) NF T
  refine F.F.ok scWhole (fun vs H Q E h => ?_) (fun cdv A outer s H vs Q E hr h => ?_)
  · obtain ⟨i, lo, hi, rfl, _⟩ := h
    rfl
  · obtain ⟨i, lo, hi, rfl, k⟩ := h
    refine ⟨_, pss_one (ps_ret (pe_and (pe_call GN hr (by rfl) Nm NF.kp Nb .nil pass0 (pa_cons (pv 0) pa_nil)) (pe_one (pe_chain op_le op_le (pv 1) (pv 0) (pv 2))))), ?_⟩
    refine ⟨_, rfl, _, true, rfl, ⟨⟨i, rfl⟩, rfl⟩, _, rfl, iteT ?_⟩
    refine ⟨_, rfl, _, rfl, _, _, rfl, rfl, _, rfl, ?_⟩
    refine ite2 (fun h1 => ?_) (fun h1 => ?_)
    · refine ⟨_, rfl, _, _, rfl, rfl, ?_⟩
      rw [h1, Bool.true_and] at k
      exact k
    · have h2 : decide (lo ≤ i) = false := by simpa using h1
      rw [h2, Bool.false_and] at k
      exact k
def spAreWhole : Sp := fun vs H Q _ => ∃ (a : Addr) (B : List Nat) (lo hi : Int), vs = [.ref a, .int lo, .int hi] ∧ H a = some (.lst (B.map vN)) ∧ (∀ b ∈ B, lo ≤ ((b : Nat) : Int) ∧ ((b : Nat) : Int) ≤ hi) ∧ Q (.bl true) H
theorem scAreWhole : FnScope ["thing", "least", "most", "number"] ["thing", "least", "most"] (defScope sAreWhole) := ⟨rfl, rfl, rfl, by decide +kernel, rfl, by decide +kernel, by decide +kernel⟩
theorem ok_arewhole {f fW : Addr} {fd fdW : FuncData} (F : Fn K mg "are_whole" sAreWhole ["thing", "least", "most"] f fd) (W : Fn K mg "is_whole" sWhole ["thing", "least", "most"] fW fdW) (T : Txt K mg) : FnOk P w K mg base CX0 2 f fd ["thing", "least", "most"] spAreWhole := by
  have GW : FnOk P w K mg base CX0 1 fW fdW ["thing", "least", "most"] spWhole := ok_whole W T
  refine F.F.ok scAreWhole (fun vs H Q E h => ?_) (fun cdv A outer s H vs Q E hr h => ?_)
  · obtain ⟨a, B, lo, hi, rfl, _⟩ := h
    rfl
  · obtain ⟨a, B, lo, hi, rfl, hB, hb, k⟩ := h
    refine ⟨_, pss_cons (ps_if (pt_not (pt_val (pe_callB call_isi (by rfl) T.isi PyProof.Rows.boot_isinstance (pa_cons (pv 0) (pa_cons (pe_bltn (v := .ty "list") (by rfl) T.list PyProof.Rows.boot_list rfl) pa_nil))))) (pss_one (ps_ret pe_bl)) pss_nil)
      (pss_cons (ps_for PassesOwn.never rfl (pi_list (pv 0)) (pg_name (i := 3) scAreWhole.nd rfl (Or.inl rfl))
        (pss_one (ps_if (pt_not (pt_val (pe_call GW hr (by rfl) W.m W.F.kp W.b .nil pass0 (pa_cons (pv 3) (pa_cons (pv 1) (pa_cons (pv 2) pa_nil)))))) (pss_one (ps_ret pe_bl)) pss_nil)))
      (pss_one (ps_ret pe_bl))), ?_⟩
    refine ⟨_, rfl, _, _, _, _, rfl, .lst hB, kit_ll K, _, rfl, iteF ?_⟩
    refine ⟨_, rfl, a, rfl, ⟨_, SqL.of hB⟩, for_list (D := ⟨_, _, fun _ _ => False, fun _ _ => False⟩) (K := K) (a := a) (xs := B.map vN) (fun i σ H2 => ∃ v : Option V, σ = [some (.ref a), some (.int lo), some (.int hi), v] ∧ H2 = H)
      ⟨none, rfl, rfl⟩ (fun i σ H2 _ ⟨_, _, e⟩ => by rw [e]; exact SqL.of hB) ?_ ?_⟩
    · rintro i y σ H2 hi ⟨v, rfl, rfl⟩
      obtain ⟨b, hb1, rfl⟩ := map_get hi
      obtain ⟨h2, h3⟩ := hb b (List.mem_of_getElem? hb1)
      refine ⟨_, rfl, _, rfl, _, rfl, _, _, _, rfl, _, rfl, ?_⟩
      rw [decide_eq_true h2, decide_eq_true h3]
      exact iteF ⟨_, rfl, rfl⟩
    · rintro σ H2 ⟨v, rfl, rfl⟩
      exact k
def spIsRow : Sp := fun vs H Q _ => ∃ (a : Addr) (B : List Nat), vs = [.ref a] ∧ H a = some (.lst (B.map vN)) ∧ (∀ b ∈ B, b < 256) ∧ Q (.bl true) H
theorem scIsRow : FnScope ["thing"] ["thing"] (defScope sIsRow) := ⟨rfl, rfl, rfl, by decide +kernel, rfl, by decide +kernel, by decide +kernel⟩
/-- the defs of rows -/
structure Rows (K : PySem.W.Frag) (mg : Str → Option Value) : Prop where
  X : Txt K mg
  whole : ∃ f fd, Fn K mg "is_whole" sWhole ["thing", "least", "most"] f fd
  arewhole : ∃ f fd, Fn K mg "are_whole" sAreWhole ["thing", "least", "most"] f fd
  isrow : ∃ f fd, Fn K mg "is_row" sIsRow ["thing"] f fd
theorem ok_isrow {f : Addr} {fd : FuncData} (F : Fn K mg "is_row" sIsRow ["thing"] f fd) (Y : Rows K mg) : FnOk P w K mg base CX0 3 f fd ["thing"] spIsRow := by
  obtain ⟨T, ⟨_, _, W⟩, ⟨_, _, AW⟩, _⟩ := Y
  have GA := ok_arewhole (P := P) (w := w) (base := base) AW W T
  obtain ⟨tg, hg⟩ := T.great
  refine F.F.ok scIsRow (fun vs H Q E h => ?_) (fun cdv A outer s H vs Q E hr h => ?_)
  · obtain ⟨a, B, rfl, _⟩ := h
    rfl
  · obtain ⟨a, B, rfl, hB, hb, k⟩ := h
    refine ⟨_, pss_one (ps_ret (pe_call GA hr (by rfl) AW.m AW.F.kp AW.b .nil pass0 (pa_cons (pv 0) (pa_cons pe_int (pa_cons (pe_glob (v := .int 255) (by rfl) hg ⟨tg, rfl⟩) pa_nil))))), ?_⟩
    exact ⟨_, rfl, a, B, 0, 255, rfl, hB, fun b z => by have := hb b z; omega, k⟩
def spNeedRow : Sp := fun vs H Q _ => ∃ (a : Addr) (B : List Nat), vs = [.ref a] ∧ H a = some (.lst (B.map vN)) ∧ (∀ b ∈ B, b < 256) ∧ ∀ l, H l = none → Q (.ref l) (upd H l (.lst (B.map vN)))
theorem scNeedRow : FnScope ["thing"] ["thing"] (defScope sNeedRow) := ⟨rfl, rfl, rfl, by decide +kernel, rfl, by decide +kernel, by decide +kernel⟩
theorem ok_needrow {f : Addr} {fd : FuncData} (F : Fn K mg "need_row" sNeedRow ["thing"] f fd) (Y : Rows K mg) : FnOk P w K mg base CX0 4 f fd ["thing"] spNeedRow := by
  obtain ⟨fR, fdR, R⟩ := Y.isrow
  have GR := ok_isrow (P := P) (w := w) (base := base) R Y
  have T := Y.X
  refine F.F.ok scNeedRow (fun vs H Q E h => ?_) (fun cdv A outer s H vs Q E hr h => ?_)
  · obtain ⟨a, B, rfl, _⟩ := h
    rfl
  · obtain ⟨a, B, rfl, hB, hb, k⟩ := h
    refine ⟨_, pss_cons (ps_if (pt_not (pt_val (pe_call GR hr (by rfl) R.m R.F.kp R.b .nil pass0 (pa_cons (pv 0) pa_nil)))) (pss_one ps_never) pss_nil)
      (pss_one (ps_ret (pe_callTy call_list_of (by rfl) T.list PyProof.Rows.boot_list (pa_cons (pv 0) pa_nil)))), ?_⟩
    refine ⟨_, rfl, a, B, rfl, hB, hb, _, rfl, iteF ?_⟩
    exact ⟨_, rfl, a, _, rfl, .inl (SqL.of hB), k⟩
/-! ### need_size, ones -/
def spNeedSize : Sp := fun vs H Q _ => ∃ s : Nat, vs = [vN s] ∧ s ≤ 24 ∧ Q .non H
theorem scNeedSize : FnScope ["size"] ["size"] (defScope sNeedSize) := ⟨rfl, rfl, rfl, by decide +kernel, rfl, by decide +kernel, by decide +kernel⟩
theorem ok_needsize {f fW : Addr} {fd fdW : FuncData} (F : Fn K mg "need_size" sNeedSize ["size"] f fd) (W : Fn K mg "is_whole" sWhole ["thing", "least", "most"] fW fdW) (T : Txt K mg) : FnOk P w K mg base CX0 2 f fd ["size"] spNeedSize := by
  have GW : FnOk P w K mg base CX0 1 fW fdW ["thing", "least", "most"] spWhole := ok_whole W T
  obtain ⟨tg, hg⟩ := T.most
  refine F.F.ok scNeedSize (fun vs H Q E h => ?_) (fun cdv A outer s H vs Q E hr h => ?_)
  · obtain ⟨z, rfl, _⟩ := h
    rfl
  · obtain ⟨z, rfl, hz, k⟩ := h
    refine ⟨_, pss_one (ps_if (pt_not (pt_val (pe_call GW hr (by rfl) W.m W.F.kp W.b .nil pass0 (pa_cons (pv 0) (pa_cons pe_int (pa_cons (pe_glob (v := .int 24) (by rfl) hg ⟨tg, rfl⟩) pa_nil)))))) (pss_one ps_never) pss_nil), ?_⟩
    refine ⟨_, rfl, _, _, _, rfl, _, rfl, ?_⟩
    have e1 : (decide ((0 : Int) ≤ (z : Int)) && decide ((z : Int) ≤ 24)) = true := by
      rw [decide_eq_true (by omega), decide_eq_true (by omega)]; rfl
    rw [e1]
    exact iteF k
def spOnes : Sp := fun vs H Q _ => ∃ s : Nat, vs = [vN s] ∧ s ≤ 1000 ∧ Q (vN (2 ^ s - 1)) H
theorem scOnes : FnScope ["size"] ["size"] (defScope sOnes) := ⟨rfl, rfl, rfl, by decide +kernel, rfl, by decide +kernel, by decide +kernel⟩
theorem ok_ones {f : Addr} {fd : FuncData} (F : Fn K mg "ones" sOnes ["size"] f fd) : FnOk P w K mg base CX0 1 f fd ["size"] spOnes := by
  refine F.F.ok scOnes (fun vs H Q E h => ?_) (fun cdv A outer s H vs Q E hr h => ?_)
  · obtain ⟨z, rfl, _⟩ := h
    rfl
  · obtain ⟨z, rfl, hz, k⟩ := h
    refine ⟨_, pss_one (ps_ret (pe_op op_sub (pe_op op_shl pe_int (pv 0)) pe_int)), ?_⟩
    refine ⟨_, rfl, _, _, rfl, rfl, ⟨by omega, by omega, by decide⟩, _, _, rfl, rfl, ?_⟩
    have e1 : (1 : Int) * 2 ^ ((z : Nat) : Int).toNat - 1 = ((2 ^ z - 1 : Nat) : Int) := by
      have := BP.pow_pos2 z
      rw [Int.toNat_natCast, Int.one_mul]
      have e2 : ((2 ^ z : Nat) : Int) = (2 : Int) ^ z := by simp
      omega
    dsimp only
    rw [e1]
    exact k
end
/-! ### plain arithmetic -/
theorem nat_and_low (a b k : Nat) (h : b < 2 ^ k) : (a * 2 ^ k) &&& b = 0 := by
  have e1 : b &&& (2 ^ k - 1) = b := by rw [Nat.and_two_pow_sub_one_eq_mod, Nat.mod_eq_of_lt h]
  have e2 : (a * 2 ^ k) &&& (2 ^ k - 1) = 0 := by rw [Nat.and_two_pow_sub_one_eq_mod, Nat.mul_mod_left]
  have e3 : (a * 2 ^ k) &&& (b &&& (2 ^ k - 1)) = ((a * 2 ^ k) &&& (2 ^ k - 1)) &&& b := by rw [Nat.and_comm b, Nat.and_assoc]
  rw [e1, e2, Nat.zero_and] at e3
  exact e3
theorem cast_pow (k : Nat) : ((2 ^ k : Nat) : Int) = (2 : Int) ^ k := by simp
theorem or_low (a b k : Nat) (h : b < 2 ^ k) : Builtin.bitOr ((a : Int) * 2 ^ ((k : Nat) : Int).toNat) (b : Int) = ((a * 2 ^ k + b : Nat) : Int) := by
  have e0 : (a : Int) * 2 ^ ((k : Nat) : Int).toNat = ((a * 2 ^ k : Nat) : Int) := by rw [Int.toNat_natCast, Int.natCast_mul, cast_pow]
  rw [e0, PyProof.Rows.bitOr_and, PyProof.Rows.bitAnd_pp (by omega) (by omega), Int.toNat_natCast, Int.toNat_natCast, nat_and_low a b k h]
  omega
theorem and_mask (x k : Nat) : Builtin.bitAnd (x : Int) ((2 ^ k - 1 : Nat) : Int) = ((x % 2 ^ k : Nat) : Int) := by
  rw [PyProof.Rows.bitAnd_pp (by omega) (by omega), Int.toNat_natCast, Int.toNat_natCast, Nat.and_two_pow_sub_one_eq_mod]
theorem shr_nat (x k : Nat) : (x : Int) / 2 ^ ((k : Nat) : Int).toNat = ((x / 2 ^ k : Nat) : Int) := by
  rw [Int.toNat_natCast, ← cast_pow]
  rfl
theorem shl_nat (x k : Nat) : (x : Int) * 2 ^ ((k : Nat) : Int).toNat = ((x * 2 ^ k : Nat) : Int) := by
  rw [Int.toNat_natCast, Int.natCast_mul, cast_pow]
theorem cut_nat {B : List Nat} {m n : Nat} (hm : m ≤ n) (hn : n ≤ B.length) : cutV (B.map vN) (some (m : Int)) (some (n : Int)) = ((B.take n).drop m).map vN := by
  unfold cutV
  rw [HT.sIx_nat, HT.sIx_nat, List.length_map, Nat.min_eq_left hn, Nat.min_eq_left (Nat.le_trans hm hn), List.map_drop, List.map_take, List.drop_take]
section
variable {P : Program} {w : World} {K : PySem.W.Frag} {mg : Str → Option Value} {base : Heap}
/-! ### bits_at -/
def spBitsAt : Sp := fun vs H Q _ => ∃ (a : Addr) (B : List Nat) (p s : Nat), vs = [.ref a, vN p, vN s] ∧ H a = some (.lst (B.map vN)) ∧ (∀ b ∈ B, b < 256) ∧ p + s ≤ 8 * B.length ∧ s ≤ 24 ∧
  ∀ H', Same H H' → Q (vN (BP.val B / 2 ^ (8 * B.length - (p + s)) % 2 ^ s)) H'
theorem scBitsAt : FnScope ["row", "place", "size", "end", "bytes_to_end", "number", "byte"] ["row", "place", "size"] (defScope sBitsAt) := ⟨rfl, rfl, rfl, by decide +kernel, rfl, by decide +kernel, by decide +kernel⟩
theorem ok_bitsat {f fO : Addr} {fd fdO : FuncData} (F : Fn K mg "bits_at" sBitsAt ["row", "place", "size"] f fd) (O : Fn K mg "ones" sOnes ["size"] fO fdO) (T : Txt K mg) : FnOk P w K mg base CX0 2 f fd ["row", "place", "size"] spBitsAt := by
  have GO : FnOk P w K mg base CX0 1 fO fdO ["size"] spOnes := ok_ones O
  refine F.F.ok scBitsAt (fun vs H Q E h => ?_) (fun cdv A outer st H vs Q E hr h => ?_)
  · obtain ⟨a, B, p, s, rfl, _⟩ := h
    rfl
  · obtain ⟨a, B, p, s, rfl, hB, hb, hps, hs, k⟩ := h
    refine ⟨_, pss_cons (ps_set (i := 3) scBitsAt.nd rfl (Or.inl rfl) (pe_op op_add (pv 1) (pv 2)))
      (pss_cons (ps_set (i := 4) scBitsAt.nd rfl (Or.inl rfl) (pe_op op_fdiv (pe_op op_add (pv 3) pe_int) pe_int))
      (pss_cons (ps_set (i := 5) scBitsAt.nd rfl (Or.inl rfl) pe_int)
      (pss_cons (ps_for PassesOwn.never rfl (pi_list (pe_slice sl_list (pv 0) (po_some (pe_op op_fdiv (pv 1) pe_int)) (po_some (pv 4)))) (pg_name (i := 6) scBitsAt.nd rfl (Or.inl rfl))
        (pss_one (ps_set (i := 5) scBitsAt.nd rfl (Or.inl rfl) (pe_op op_or (pe_op op_shl (pv 5) pe_int) (pv 6)))))
      (pss_one (ps_ret (pe_op op_and (pe_op op_shr (pv 5) (pe_op op_sub (pe_op op_mul pe_int (pv 4)) (pv 3))) (pe_call GO hr (by rfl) O.m O.F.kp O.b .nil pass0 (pa_cons (pv 2) pa_nil)))))))), ?_⟩
    refine ⟨_, rfl, _, rfl, _, _, rfl, rfl, ?_⟩
    refine ⟨_, rfl, _, _, rfl, rfl, _, _, rfl, rfl, ⟨by decide, by decide⟩, ?_⟩
    have e1 : ((p : Int) + (s : Int) + 7) / 8 = (((p + s + 7) / 8 : Nat) : Int) := by omega
    have e2 : (p : Int) / 8 = ((p / 8 : Nat) : Int) := by omega
    have e3 : (p : Int) + (s : Int) = ((p + s : Nat) : Int) := by omega
    have h1 : p / 8 ≤ (p + s + 7) / 8 := by omega
    have h2 : (p + s + 7) / 8 ≤ B.length := by omega
    try dsimp only
    rw [e1, e3]
    refine ⟨_, rfl, _, rfl, _, _, rfl, rfl, ⟨by decide, by decide⟩, _, rfl, _, rfl, _, rfl, a, _, rfl, SqL.of hB, fun l hl => ?_⟩
    try dsimp only
    rw [e2, cut_nat h1 h2]
    have hc : ∀ b ∈ (B.take ((p + s + 7) / 8)).drop (p / 8), b < 256 := fun b hb' => hb b (List.mem_of_mem_take (List.mem_of_mem_drop hb'))
    have hcl : ((B.take ((p + s + 7) / 8)).drop (p / 8)).length ≤ 4 := by rw [List.length_drop, List.length_take]; omega
    have key := BP.bits_cut hb hps
    generalize (B.take ((p + s + 7) / 8)).drop (p / 8) = C at *
    have sm : Same H (upd H l (.lst (C.map vN))) := fun b o e => by rw [upd_ne (ne_of_none e hl)]; exact e
    refine ⟨l, rfl, ⟨_, SqL.of upd_same⟩, for_list (D := ⟨_, _, fun _ _ => False, fun _ _ => False⟩) (K := K) (a := l) (xs := C.map vN) (fun i σ H2 => ∃ v : Option V, σ = [some (.ref a), some (vN p), some (vN s), some (vN (p + s)), some (vN ((p + s + 7) / 8)), some (vN (BP.val (C.take i))), v] ∧ H2 = upd H l (.lst (C.map vN)))
      ⟨none, rfl, rfl⟩ (fun i σ H2 _ ⟨_, _, e⟩ => by rw [e]; exact SqL.of upd_same) ?_ ?_⟩
    · rintro i y σ H2 hi ⟨v, rfl, rfl⟩
      obtain ⟨b, hb1, rfl⟩ := map_get hi
      have hb2 : b < 256 := hc b (List.mem_of_getElem? hb1)
      have hil : i < C.length := (List.getElem?_eq_some_iff.mp hb1).1
      have hv : BP.val (C.take i) < 256 ^ (C.take i).length := BP.val_lt fun b hb' => hc b (List.mem_of_mem_take hb')
      have hv2 : BP.val (C.take i) < 256 ^ 4 := Nat.lt_of_lt_of_le hv (Nat.pow_le_pow_right (by decide) (by rw [List.length_take]; omega))
      refine ⟨_, rfl, _, _, rfl, rfl, ⟨by decide, by decide, ?_⟩, _, rfl, _, _, rfl, rfl, ?_⟩
      · have : (256 : Nat) ^ 4 < 2 ^ 64 := by decide
        omega
      · have e := or_low (BP.val (C.take i)) b 8 hb2
        have e' : BP.val (C.take i) * 2 ^ 8 + b = BP.val (C.take (i + 1)) := by rw [take_snoc hb1, BP.val_snoc]
        try dsimp only
        rw [e'] at e
        exact ⟨some (vN b), congrArg (fun z : Int => [some (V.ref a), some (vN p), some (vN s), some (vN (p + s)), some (vN ((p + s + 7) / 8)), some (V.int z), some (vN b)]) e, rfl⟩
    · rintro σ H2 ⟨v, rfl, rfl⟩
      try dsimp only
      rw [List.length_map, List.take_length]
      have e4 : (8 : Int) * (((p + s + 7) / 8 : Nat) : Int) - ((p + s : Nat) : Int) = ((8 * ((p + s + 7) / 8) - (p + s) : Nat) : Int) := by omega
      refine ⟨_, rfl, _, rfl, _, _, rfl, rfl, .inl ⟨by decide, by decide⟩, _, rfl, _, _, rfl, rfl, ?_⟩
      try dsimp only
      rw [e4]
      refine ⟨_, _, rfl, rfl, by omega, _, rfl, s, rfl, by omega, _, _, rfl, rfl, ?_⟩
      try dsimp only
      rw [shr_nat, and_mask, key]
      exact k _ sm
end
/-! ### a BitRow's attributes -/
theorem n_wr : ¬ (("whole_bytes" : Str) = "rest") := by decide +kernel
theorem n_ws : ¬ (("whole_bytes" : Str) = "rest_size") := by decide +kernel
theorem n_rs : ¬ (("rest" : Str) = "rest_size") := by decide +kernel
def fW (d : Addr) (r k : Nat) : List (Str × V) := [("whole_bytes", .ref d), ("rest", vN r), ("rest_size", vN k)]
theorem fW_mk (d : Addr) : putF "rest_size" (.int 0) (putF "rest" (.int 0) (putF "whole_bytes" (.ref d) [])) = fW d 0 0 := by
  show (putF "rest_size" (.int 0) (if ("whole_bytes" : Str) = "rest" then _ else (("whole_bytes" : Str), V.ref d) :: [("rest", V.int 0)])) = _
  rw [if_neg n_wr]
  show (if ("whole_bytes" : Str) = "rest_size" then _ else (("whole_bytes" : Str), V.ref d) :: (if ("rest" : Str) = "rest_size" then _ else (("rest" : Str), V.int 0) :: [("rest_size", V.int 0)])) = _
  rw [if_neg n_ws, if_neg n_rs]
  rfl
theorem fW_rest (d : Addr) (r k r' : Nat) : putF "rest" (vN r') (fW d r k) = fW d r' k := by
  show (if ("whole_bytes" : Str) = "rest" then _ else (("whole_bytes" : Str), V.ref d) :: (if ("rest" : Str) = "rest" then (("rest" : Str), vN r') :: [("rest_size", vN k)] else _)) = _
  rw [if_neg n_wr, if_pos rfl]
  rfl
theorem fW_size (d : Addr) (r k k' : Nat) : putF "rest_size" (vN k') (fW d r k) = fW d r k' := by
  show (if ("whole_bytes" : Str) = "rest_size" then _ else (("whole_bytes" : Str), V.ref d) :: (if ("rest" : Str) = "rest_size" then _ else (("rest" : Str), vN r) :: (if ("rest_size" : Str) = "rest_size" then [(("rest_size" : Str), vN k')] else _))) = _
  rw [if_neg n_ws, if_neg n_rs, if_pos rfl]
  rfl
theorem fW_as (d : Addr) (r k : Nat) : fW d r k = putF "rest_size" (vN k) (putF "rest" (vN r) (putF "whole_bytes" (.ref d) [])) := by
  have h := fW_mk d
  have h2 : putF "rest" (vN r) (putF "whole_bytes" (.ref d) []) = [(("whole_bytes" : Str), V.ref d), ("rest", vN r)] := by
    show (if ("whole_bytes" : Str) = "rest" then _ else (("whole_bytes" : Str), V.ref d) :: [("rest", vN r)]) = _
    rw [if_neg n_wr]
  rw [h2]
  show _ = (if ("whole_bytes" : Str) = "rest_size" then _ else (("whole_bytes" : Str), V.ref d) :: (if ("rest" : Str) = "rest_size" then _ else (("rest" : Str), vN r) :: [("rest_size", vN k)]))
  rw [if_neg n_ws, if_neg n_rs]
  rfl
theorem fW_get_w (d : Addr) (r k : Nat) : (fW d r k).lookup ("whole_bytes" : Str) = some (.ref d) := by
  rw [fW_as, lookup_putF, if_neg n_ws, lookup_putF, if_neg n_wr, lookup_putF, if_pos rfl]
theorem fW_get_r (d : Addr) (r k : Nat) : (fW d r k).lookup ("rest" : Str) = some (vN r) := by
  rw [fW_as, lookup_putF, if_neg n_rs, lookup_putF, if_pos rfl]
theorem fW_get_s (d : Addr) (r k : Nat) : (fW d r k).lookup ("rest_size" : Str) = some (vN k) := by
  rw [fW_as, lookup_putF, if_pos rfl]
theorem fW_no (d : Addr) (r k : Nat) {m : Str} (h1 : ¬ m = "rest_size") (h2 : ¬ m = "rest") (h3 : ¬ m = "whole_bytes") : (fW d r k).lookup m = none := by
  rw [fW_as, lookup_putF, if_neg h1, lookup_putF, if_neg h2, lookup_putF, if_neg h3]
  rfl
theorem fW_len (d : Addr) (r k : Nat) : (fW d r k).length < 1000 := by show 3 < 1000; decide
/-- a BitRow stands at p, its list at d: the bits N, T of them -/
def BitsAt (C : Addr) (H : Hp) (p d : Addr) (N T : Nat) : Prop := ∃ (dx : Addr) (B : List Nat) (r k : Nat), H p = some (.ins C dx (fW d r k)) ∧ H d = some (.lst (B.map vN)) ∧ BP.BR N T B r k ∧ k < 8
/-- what the walk asks of the class BitRow -/
structure CB (K : PySem.W.Frag) (mg : Str → Option Value) (C : Addr) : Prop where
  cl : Cls K C
  nW : NoAttr K C "whole_bytes"
  nR : NoAttr K C "rest"
  nS : NoAttr K C "rest_size"
section
variable {P : Program} {w : World} {K : PySem.W.Frag} {mg : Str → Option Value} {base : Heap} {C : Addr}
/-! ### BitRow.__init__ -/
def spBInit (C : Addr) : Sp := fun vs H Q _ => ∃ (p dx : Addr), vs = [.ref p] ∧ H p = some (.ins C dx []) ∧ ∀ (d : Addr) (H' : Hp), H d = none → BitsAt C H' p d 0 0 → (∀ b o, H b = some o → b ≠ p → H' b = some o) → Q .non H'
theorem scBInit : FnScope ["self"] ["self"] (defScope sBInit) := ⟨rfl, rfl, rfl, by decide +kernel, rfl, by decide +kernel, by decide +kernel⟩
theorem ok_binit {f : Addr} {fd : FuncData} (F : Fun K "__init__" "BitRow.__init__" sBInit f fd) (T : CB K mg C) : FnOk P w K mg base CX0 1 f fd ["self"] (spBInit C) := by
  refine F.ok scBInit (fun vs H Q E h => ?_) (fun cdv A outer s H vs Q E hr h => ?_)
  · obtain ⟨p, dx, rfl, _⟩ := h
    rfl
  · obtain ⟨p, dx, rfl, hp, k⟩ := h
    refine ⟨_, pss_cons (ps_fld (pv 0) (pe_lst pa_nil) rfl) (pss_cons (ps_fld (pv 0) pe_int rfl) (pss_one (ps_fld (pv 0) pe_int rfl))), ?_⟩
    refine ⟨Nat.zero_le _, fun d hd => ?_⟩
    have npd : p ≠ d := ne_of_none hp hd
    refine ⟨_, rfl, p, C, dx, [], rfl, (by rw [upd_ne npd]; exact hp), T.cl, T.nW, (by show 0 < 1000; decide), _, rfl, p, C, dx, _, rfl, upd_same, T.cl, T.nR, (by show 1 < 1000; decide), ?_⟩
    refine ⟨_, rfl, p, C, dx, _, rfl, upd_same, T.cl, T.nS, ?_, ?_⟩
    · show (if ("whole_bytes" : Str) = "rest" then _ else (("whole_bytes" : Str), V.ref d) :: [("rest", V.int 0)]).length < 1000
      try dsimp only
      rw [if_neg n_wr]
      show 2 < 1000
      decide
    refine k d _ hd ⟨dx, [], 0, 0, Eq.trans upd_same (congrArg (fun l => some (HO.ins C dx l)) (fW_mk d)), by rw [upd_ne npd.symm, upd_ne npd.symm, upd_ne npd.symm, upd_same]; rfl, BP.BR.init, by decide⟩ fun b o e hb => ?_
    rw [upd_ne hb, upd_ne hb, upd_ne hb, upd_ne (ne_of_none e hd)]
    exact e
/-! ### BitRow.move_byte -/
def spMove (C : Addr) : Sp := fun vs H Q _ => ∃ (p d dx : Addr) (B : List Nat) (r k : Nat), vs = [.ref p] ∧ H p = some (.ins C dx (fW d r (k + 8))) ∧ H d = some (.lst (B.map vN)) ∧ B.length ≤ 1000 ∧ k ≤ 100 ∧
  ∀ H', H' p = some (.ins C dx (fW d (r % 2 ^ k) k)) → H' d = some (.lst ((B ++ [r / 2 ^ k]).map vN)) → (∀ c o, H c = some o → c ≠ p → c ≠ d → H' c = some o) → Q .non H'
theorem scMove : FnScope ["self"] ["self"] (defScope sMove) := ⟨rfl, rfl, rfl, by decide +kernel, rfl, by decide +kernel, by decide +kernel⟩
theorem ok_move {f fO : Addr} {fd fdO : FuncData} (F : Fun K "move_byte" "BitRow.move_byte" sMove f fd) (O : Fn K mg "ones" sOnes ["size"] fO fdO) (T : CB K mg C) : FnOk P w K mg base CX0 2 f fd ["self"] (spMove C) := by
  have GO : FnOk P w K mg base CX0 1 fO fdO ["size"] spOnes := ok_ones O
  refine F.ok scMove (fun vs H Q E h => ?_) (fun cdv A outer s H vs Q E hr h => ?_)
  · obtain ⟨p, d, dx, B, r, k, rfl, _⟩ := h
    rfl
  · obtain ⟨p, d, dx, B, r, k, rfl, hp, hd, hB, hk, q⟩ := h
    have npd : p ≠ d := ne_of hp hd (by intro z; cases z)
    refine ⟨_, pss_cons (ps_fld (pv 0) (pe_op op_sub (pe_fld (pv 0) rfl) pe_int) rfl)
      (pss_cons (ps_expr (pe_bm PySem.F.plainAttrs_list PySem.F.slot_list_append PySem.F.type_list_append mt_append (pe_fld (pv 0) rfl) (pa_cons (pe_op op_shr (pe_fld (pv 0) rfl) (pe_fld (pv 0) rfl)) pa_nil)))
      (pss_one (ps_fld (pv 0) (pe_op op_and (pe_fld (pv 0) rfl) (pe_call GO hr (by rfl) O.m O.F.kp O.b .nil pass0 (pa_cons (pe_fld (pv 0) rfl) pa_nil))) rfl))), ?_⟩
    have e1 : (((k + 8 : Nat)) : Int) - 8 = (k : Int) := by omega
    refine ⟨_, rfl, p, C, dx, _, _, rfl, hp, T.cl, T.nS, fW_get_s _ _ _, _, _, rfl, rfl, _, rfl, p, C, dx, _, rfl, hp, T.cl, T.nS, fW_len _ _ _, ?_⟩
    try dsimp only
    rw [e1, fW_size]
    have hp1 : (upd H p (.ins C dx (fW d r k))) p = some (.ins C dx (fW d r k)) := upd_same
    have hd1 : (upd H p (.ins C dx (fW d r k))) d = some (.lst (B.map vN)) := by rw [upd_ne npd.symm]; exact hd
    refine ⟨_, rfl, p, C, dx, _, _, rfl, hp1, T.cl, T.nW, fW_get_w _ _ _, .inl ⟨rfl, _, SqL.of hd1⟩, ?_⟩
    refine ⟨_, rfl, p, C, dx, _, _, rfl, hp1, T.cl, T.nR, fW_get_r _ _ _, _, rfl, p, C, dx, _, _, rfl, hp1, T.cl, T.nS, fW_get_s _ _ _, _, _, rfl, rfl, by omega, ?_⟩
    refine ⟨d, _, _, rfl, rfl, hd1, small1000 (by rw [List.length_map]; exact hB), ?_⟩
    try dsimp only
    rw [shr_nat]
    generalize hH2 : upd (upd H p (.ins C dx (fW d r k))) d (.lst (B.map vN ++ [vN (r / 2 ^ k)])) = H2
    have hp2 : H2 p = some (.ins C dx (fW d r k)) := by rw [← hH2, upd_ne npd]; exact hp1
    have hd2 : H2 d = some (.lst ((B ++ [r / 2 ^ k]).map vN)) := by rw [← hH2, upd_same, List.map_append]; rfl
    have oth : ∀ c o, H c = some o → c ≠ p → c ≠ d → H2 c = some o := fun c o e n1 n2 => by rw [← hH2, upd_ne n2, upd_ne n1]; exact e
    refine ⟨_, rfl, p, C, dx, _, _, rfl, hp2, T.cl, T.nR, fW_get_r _ _ _, _, rfl, p, C, dx, _, _, rfl, hp2, T.cl, T.nS, fW_get_s _ _ _, k, rfl, by omega, _, _, rfl, rfl, ?_⟩
    try dsimp only
    rw [and_mask]
    refine ⟨_, rfl, p, C, dx, _, rfl, hp2, T.cl, T.nR, fW_len _ _ _, ?_⟩
    try dsimp only
    rw [fW_rest]
    refine q _ upd_same (by rw [upd_ne npd.symm]; exact hd2) fun c o e n1 n2 => ?_
    rw [upd_ne n1]
    exact oth c o e n1 n2
/-! ### BitRow.put -/
def spPut (C : Addr) : Sp := fun vs H Q _ => ∃ (p d : Addr) (N T n s : Nat), vs = [.ref p, vN n, vN s] ∧ BitsAt C H p d N T ∧ T ≤ 4000 ∧ s ≤ 24 ∧ n < 2 ^ s ∧
  ∀ H', BitsAt C H' p d (N * 2 ^ s + n) (T + s) → (∀ c o, H c = some o → c ≠ p → c ≠ d → H' c = some o) → Q .non H'
theorem scPut : FnScope ["self", "number", "size"] ["self", "number", "size"] (defScope sPut) := ⟨rfl, rfl, rfl, by decide +kernel, rfl, by decide +kernel, by decide +kernel⟩
theorem ok_put {f fO fW' fS fM : Addr} {fd fdO fdW fdS fdM : FuncData} (F : Fun K "put" "BitRow.put" sPut f fd) (S : Fn K mg "need_size" sNeedSize ["size"] fS fdS) (W : Fn K mg "is_whole" sWhole ["thing", "least", "most"] fW' fdW)
    (O : Fn K mg "ones" sOnes ["size"] fO fdO) (M : Me K C "move_byte" "BitRow.move_byte" sMove ["self"] fM fdM) (T : CB K mg C) (X : Txt K mg) : FnOk P w K mg base CX0 3 f fd ["self", "number", "size"] (spPut C) := by
  have GO : FnOk P w K mg base CX0 1 fO fdO ["size"] spOnes := ok_ones O
  have GW : FnOk P w K mg base CX0 1 fW' fdW ["thing", "least", "most"] spWhole := ok_whole W X
  have GS : FnOk P w K mg base CX0 2 fS fdS ["size"] spNeedSize := ok_needsize S W X
  have GM : FnOk P w K mg base CX0 2 fM fdM ["self"] (spMove C) := ok_move M.F O T
  refine F.ok scPut (fun vs H Q E h => ?_) (fun cdv A outer st H vs Q E hr h => ?_)
  · obtain ⟨p, d, N, T', n, s, rfl, _⟩ := h
    rfl
  · obtain ⟨p, d, N, T', n, s, rfl, ⟨dx, B, r, k, hp, hd, br, hk8⟩, hT, hs, hn, q⟩ := h
    have npd : p ≠ d := ne_of hp hd (by intro z; cases z)
    have hr1 : Room 1 _ := hr.mono (by decide)
    refine ⟨_, pss_cons (ps_expr (pe_call GS hr (by rfl) S.m S.F.kp S.b .nil pass0 (pa_cons (pv 2) pa_nil)))
      (pss_cons (ps_if (pt_not (pt_val (pe_call GW hr1 (by rfl) W.m W.F.kp W.b .nil pass0 (pa_cons (pv 1) (pa_cons pe_int (pa_cons (pe_call GO hr1 (by rfl) O.m O.F.kp O.b .nil pass0 (pa_cons (pv 2) pa_nil)) pa_nil)))))) (pss_one ps_never) pss_nil)
      (pss_cons (ps_fld (pv 0) (pe_op op_or (pe_op op_shl (pe_fld (pv 0) rfl) (pv 2)) (pv 1)) rfl)
      (pss_cons (ps_fld (pv 0) (pe_op op_add (pe_fld (pv 0) rfl) (pv 2)) rfl)
      (pss_one (ps_while PassesOwn.never (pt_cmpR op_ge (pe_fld (pv 0) rfl) pe_int (nomark _)) (pss_one (ps_expr (pe_meth0 (pv 0) T.cl M.m GM hr M.b .nil pass0)))))))), ?_⟩
    refine ⟨_, rfl, s, rfl, hs, ?_⟩
    refine ⟨_, rfl, _, rfl, s, rfl, by omega, _, _, _, rfl, _, rfl, ?_⟩
    have e1 : (decide ((0 : Int) ≤ (n : Int)) && decide ((n : Int) ≤ ((2 ^ s - 1 : Nat) : Int))) = true := by
      rw [decide_eq_true (by omega), decide_eq_true (by omega)]; rfl
    try dsimp only
    rw [e1]
    refine iteF ?_
    have hr128 : r < 128 := Nat.lt_of_lt_of_le br.low ((Nat.pow_le_pow_right (by decide) (by omega) : 2 ^ k ≤ 2 ^ 7))
    refine ⟨_, rfl, p, C, dx, _, _, rfl, hp, T.cl, T.nR, fW_get_r _ _ _, _, rfl, _, _, rfl, rfl, ⟨by omega, by omega, by omega⟩, _, rfl, _, _, rfl, rfl, ?_⟩
    try dsimp only
    rw [or_low r n s hn]
    refine ⟨_, rfl, p, C, dx, _, rfl, hp, T.cl, T.nR, fW_len _ _ _, ?_⟩
    try dsimp only
    rw [fW_rest]
    have hp1 : ∀ o, (upd H p o) p = some o := fun _ => upd_same
    refine ⟨_, rfl, p, C, dx, _, _, rfl, hp1 _, T.cl, T.nS, fW_get_s _ _ _, _, rfl, _, _, rfl, rfl, _, rfl, p, C, dx, _, rfl, hp1 _, T.cl, T.nS, fW_len _ _ _, ?_⟩
    have e2 : (k : Int) + (s : Int) = ((k + s : Nat) : Int) := by omega
    try dsimp only
    rw [e2, fW_size]
    have br1 := br.put hn
    generalize hH1 : upd (upd H p (.ins C dx (fW d (r * 2 ^ s + n) k))) p (.ins C dx (fW d (r * 2 ^ s + n) (k + s))) = H1
    have hpA : H1 p = some (.ins C dx (fW d (r * 2 ^ s + n) (k + s))) := by rw [← hH1]; exact upd_same
    have hdA : H1 d = some (.lst (B.map vN)) := by rw [← hH1, upd_ne npd.symm, upd_ne npd.symm]; exact hd
    have oth : ∀ c o, H c = some o → c ≠ p → c ≠ d → H1 c = some o := fun c o e n1 _ => by rw [← hH1, upd_ne n1, upd_ne n1]; exact e
    refine ⟨fun m σ H2 => σ = [some (.ref p), some (vN n), some (vN s)] ∧ ∃ B2 r2, H2 p = some (.ins C dx (fW d r2 m)) ∧ H2 d = some (.lst (B2.map vN)) ∧ BP.BR (N * 2 ^ s + n) (T' + s) B2 r2 m ∧ m ≤ 40 ∧ (∀ c o, H c = some o → c ≠ p → c ≠ d → H2 c = some o),
      ⟨k + s, rfl, B, _, hpA, hdA, br1, by omega, oth⟩, ?_⟩
    rintro m σ H2 ⟨rfl, B2, r2, hp2, hd2, br2, hm, oth2⟩
    refine ⟨_, rfl, p, C, dx, _, _, rfl, hp2, T.cl, T.nS, fW_get_s _ _ _, _, _, rfl, rfl, _, rfl, ?_⟩
    refine ite2 (fun h1 => ?_) (fun h1 => ?_)
    · have h8 : 8 ≤ m := by have := of_decide_eq_true h1; omega
      obtain ⟨m', rfl⟩ : ∃ m', m = m' + 8 := ⟨m - 8, by omega⟩
      have hBl : B2.length ≤ 1000 := by have := br2.tot; omega
      refine ⟨_, fun σ' H' h => h, _, rfl, p, dx, _, rfl, hp2, fW_no _ _ _ (by decide +kernel) (by decide +kernel) (by decide +kernel), p, d, dx, B2, r2, m', rfl, hp2, hd2, hBl, by omega, fun H3 hp3 hd3 oth3 => ?_⟩
      exact ⟨m', by omega, rfl, _, _, hp3, hd3, br2.move, by omega, fun c o e n1 n2 => oth3 c o (oth2 c o e n1 n2) n1 n2⟩
    · have h8 : m < 8 := by
        have h1' : decide ((8 : Int) ≤ (m : Int)) ≠ true := h1
        by_cases h : (8 : Int) ≤ (m : Int)
        · exact absurd (decide_eq_true h) h1'
        · omega
      exact q H2 ⟨dx, B2, r2, m, hp2, hd2, br2, h8⟩ oth2
/-! ### BitRow.many, BitRow.row -/
def spMany (C : Addr) : Sp := fun vs H Q _ => ∃ (p d : Addr) (N T : Nat), vs = [.ref p] ∧ BitsAt C H p d N T ∧ Q (vN T) H
def spRowOut (C : Addr) : Sp := fun vs H Q _ => ∃ (p d : Addr) (N T : Nat), vs = [.ref p] ∧ BitsAt C H p d N T ∧ T ≤ 4000 ∧ ∀ (l : Addr) (R : List Nat) (H' : Hp), H l = none → H' l = some (.lst (R.map vN)) → BP.RowOf N T R → Same H H' → Q (.ref l) H'
theorem scRowOut : FnScope ["self", "told"] ["self"] (defScope sRowOut) := ⟨rfl, rfl, rfl, by decide +kernel, rfl, by decide +kernel, by decide +kernel⟩
theorem ok_rowout {f : Addr} {fd : FuncData} (F : Fun K "row" "BitRow.row" sRowOut f fd) (T : CB K mg C) (X : Txt K mg) : FnOk P w K mg base CX0 1 f fd ["self"] (spRowOut C) := by
  refine F.ok scRowOut (fun vs H Q E h => ?_) (fun cdv A outer st H vs Q E hr h => ?_)
  · obtain ⟨p, d, N, T', rfl, _⟩ := h
    rfl
  · obtain ⟨p, d, N, T', rfl, ⟨dx, B, r, k, hp, hd, br, hk8⟩, hT, q⟩ := h
    refine ⟨_, pss_cons (ps_set (i := 1) scRowOut.nd rfl (Or.inl rfl) (pe_callTy call_list_of (by rfl) X.list PyProof.Rows.boot_list (pa_cons (pe_fld (pv 0) rfl) pa_nil)))
      (pss_cons (ps_if (pt_cmpR op_gt (pe_fld (pv 0) rfl) pe_int (nomark _))
        (pss_one (ps_expr (pe_bm PySem.F.plainAttrs_list PySem.F.slot_list_append PySem.F.type_list_append mt_append (pv 1) (pa_cons (pe_op op_shl (pe_fld (pv 0) rfl) (pe_op op_sub pe_int (pe_fld (pv 0) rfl))) pa_nil)))) pss_nil)
      (pss_one (ps_ret (pv 1)))), ?_⟩
    refine ⟨_, rfl, p, C, dx, _, _, rfl, hp, T.cl, T.nW, fW_get_w _ _ _, d, _, rfl, .inl (SqL.of hd), fun l hl => ?_⟩
    have npl : p ≠ l := ne_of_none hp hl
    have hp1 : (upd H l (.lst (B.map vN))) p = some (.ins C dx (fW d r k)) := by rw [upd_ne npl]; exact hp
    refine ⟨_, rfl, p, C, dx, _, _, rfl, hp1, T.cl, T.nS, fW_get_s _ _ _, _, _, rfl, rfl, _, rfl, ?_⟩
    refine ite2 (fun h1 => ?_) (fun h1 => ?_)
    · have h0 : 0 < k := by have := of_decide_eq_true h1; omega
      have hr128 : r < 128 := Nat.lt_of_lt_of_le br.low ((Nat.pow_le_pow_right (by decide) (by omega) : 2 ^ k ≤ 2 ^ 7))
      have hBl : B.length ≤ 1000 := by have := br.tot; omega
      have e1 : (8 : Int) - (k : Int) = ((8 - k : Nat) : Int) := by omega
      refine ⟨_, rfl, .inl ⟨rfl, _, SqL.of upd_same⟩, _, rfl, p, C, dx, _, _, rfl, hp1, T.cl, T.nR, fW_get_r _ _ _, _, rfl, p, C, dx, _, _, rfl, hp1, T.cl, T.nS, fW_get_s _ _ _, _, _, rfl, rfl, ?_⟩
      try dsimp only
      rw [e1]
      refine ⟨_, _, rfl, rfl, ⟨by omega, by omega, by omega⟩, l, _, _, rfl, rfl, upd_same, small1000 (by rw [List.length_map]; exact hBl), _, rfl, ?_⟩
      try dsimp only
      rw [shl_nat]
      refine q l (B ++ [r * 2 ^ (8 - k)]) _ hl (by rw [upd_same, List.map_append]; rfl) (br.row1 h0 hk8) fun b o e => ?_
      rw [upd_ne (ne_of_none e hl), upd_ne (ne_of_none e hl)]
      exact e
    · have h0 : k = 0 := by
        have h1' : decide ((0 : Int) < (k : Int)) ≠ true := h1
        by_cases h : (0 : Int) < (k : Int)
        · exact absurd (decide_eq_true h) h1'
        · omega
      subst h0
      refine ⟨_, rfl, ?_⟩
      refine q l B _ hl upd_same br.row0 fun b o e => ?_
      rw [upd_ne (ne_of_none e hl)]
      exact e
end
/-! ### a BitReader's attributes -/
theorem n_ht : ¬ (("held" : Str) = "taken") := by decide +kernel
def fR (d : Addr) (t : Nat) : List (Str × V) := [("held", .ref d), ("taken", vN t)]
theorem fR_as (d : Addr) (t : Nat) : putF "taken" (vN t) (putF "held" (.ref d) []) = fR d t := by
  show (if ("held" : Str) = "taken" then _ else (("held" : Str), V.ref d) :: [("taken", vN t)]) = _
  rw [if_neg n_ht]
  rfl
theorem fR_put (d : Addr) (t t' : Nat) : putF "taken" (vN t') (fR d t) = fR d t' := by
  show (if ("held" : Str) = "taken" then _ else (("held" : Str), V.ref d) :: (if ("taken" : Str) = "taken" then [(("taken" : Str), vN t')] else _)) = _
  rw [if_neg n_ht, if_pos rfl]
  rfl
theorem fR_get_h (d : Addr) (t : Nat) : (fR d t).lookup ("held" : Str) = some (.ref d) := by
  rw [← fR_as, lookup_putF, if_neg n_ht, lookup_putF, if_pos rfl]
theorem fR_get_t (d : Addr) (t : Nat) : (fR d t).lookup ("taken" : Str) = some (vN t) := by
  rw [← fR_as, lookup_putF, if_pos rfl]
theorem fR_no (d : Addr) (t : Nat) {m : Str} (h1 : ¬ m = "taken") (h2 : ¬ m = "held") : (fR d t).lookup m = none := by
  rw [← fR_as, lookup_putF, if_neg h1, lookup_putF, if_neg h2]
  rfl
theorem fR_len (d : Addr) (t : Nat) : (fR d t).length < 1000 := by show 2 < 1000; decide
/-- a BitReader of the row R stands at p, its list at d, t bits taken -/
structure ReadAt (C : Addr) (H : Hp) (p d : Addr) (R : List Nat) (t : Nat) : Prop where
  ob : ∃ dx, H p = some (.ins C dx (fR d t))
  ls : H d = some (.lst (R.map vN))
  by' : ∀ b ∈ R, b < 256
  le : t ≤ 8 * R.length
structure CRd (K : PySem.W.Frag) (mg : Str → Option Value) (C : Addr) : Prop where
  cl : Cls K C
  nH : NoAttr K C "held"
  nT : NoAttr K C "taken"
section
variable {P : Program} {w : World} {K : PySem.W.Frag} {mg : Str → Option Value} {base : Heap} {C : Addr}
/-! ### BitReader.__init__ -/
def spRInit (C : Addr) : Sp := fun vs H Q _ => ∃ (p dx a : Addr) (R : List Nat), vs = [.ref p, .ref a] ∧ H p = some (.ins C dx []) ∧ H a = some (.lst (R.map vN)) ∧ (∀ b ∈ R, b < 256) ∧
  ∀ (d : Addr) (H' : Hp), H d = none → ReadAt C H' p d R 0 → (∀ b o, H b = some o → b ≠ p → H' b = some o) → Q .non H'
theorem scRInit : FnScope ["self", "row"] ["self", "row"] (defScope sRInit) := ⟨rfl, rfl, rfl, by decide +kernel, rfl, by decide +kernel, by decide +kernel⟩
theorem ok_rinit {f fN : Addr} {fd fdN : FuncData} (F : Fun K "__init__" "BitReader.__init__" sRInit f fd) (N : Fn K mg "need_row" sNeedRow ["thing"] fN fdN) (Y : Rows K mg) (T : CRd K mg C) : FnOk P w K mg base CX0 5 f fd ["self", "row"] (spRInit C) := by
  have GN : FnOk P w K mg base CX0 4 fN fdN ["thing"] spNeedRow := ok_needrow N Y
  refine F.ok scRInit (fun vs H Q E h => ?_) (fun cdv A outer st H vs Q E hr h => ?_)
  · obtain ⟨p, dx, a, R', rfl, _⟩ := h
    rfl
  · obtain ⟨p, dx, a, R', rfl, hp, ha, hb, k⟩ := h
    refine ⟨_, pss_cons (ps_fld (pv 0) (pe_call GN hr (by rfl) N.m N.F.kp N.b .nil pass0 (pa_cons (pv 1) pa_nil)) rfl) (pss_one (ps_fld (pv 0) pe_int rfl)), ?_⟩
    refine ⟨_, rfl, a, R', rfl, ha, hb, fun d hd => ?_⟩
    have npd : p ≠ d := ne_of_none hp hd
    refine ⟨_, rfl, p, C, dx, [], rfl, (by rw [upd_ne npd]; exact hp), T.cl, T.nH, (by show 0 < 1000; decide), _, rfl, p, C, dx, _, rfl, upd_same, T.cl, T.nT, (by show 1 < 1000; decide), ?_⟩
    refine k d _ hd ⟨⟨dx, Eq.trans upd_same (congrArg (fun l => some (HO.ins C dx l)) (fR_as d 0))⟩, by rw [upd_ne npd.symm, upd_ne npd.symm, upd_same], hb, Nat.zero_le _⟩ fun b o e hb => ?_
    rw [upd_ne hb, upd_ne hb, upd_ne (ne_of_none e hd)]
    exact e
/-! ### BitReader.left -/
def spLeft (C : Addr) : Sp := fun vs H Q _ => ∃ (p d : Addr) (R : List Nat) (t : Nat), vs = [.ref p] ∧ ReadAt C H p d R t ∧ Q (vN (8 * R.length - t)) H
theorem scLeft : FnScope ["self"] ["self"] (defScope sLeft) := ⟨rfl, rfl, rfl, by decide +kernel, rfl, by decide +kernel, by decide +kernel⟩
theorem ok_left {f : Addr} {fd : FuncData} (F : Fun K "left" "BitReader.left" sLeft f fd) (T : CRd K mg C) (X : Txt K mg) : FnOk P w K mg base CX0 1 f fd ["self"] (spLeft C) := by
  refine F.ok scLeft (fun vs H Q E h => ?_) (fun cdv A outer st H vs Q E hr h => ?_)
  · obtain ⟨p, d, R, t, rfl, _⟩ := h
    rfl
  · obtain ⟨p, d, R, t, rfl, ⟨⟨dx, hp⟩, hd, hb, ht⟩, q⟩ := h
    refine ⟨_, pss_one (ps_ret (pe_op op_sub (pe_op op_mul pe_int (pe_callB call_len_seq (by rfl) X.len PySem.boot_len (pa_cons (pe_fld (pv 0) rfl) pa_nil))) (pe_fld (pv 0) rfl))), ?_⟩
    refine ⟨_, rfl, p, C, dx, _, _, rfl, hp, T.cl, T.nH, fR_get_h _ _, d, _, rfl, .inl (SqL.of hd), _, _, rfl, rfl, .inl ⟨by decide, by decide⟩, ?_⟩
    refine ⟨_, rfl, p, C, dx, _, _, rfl, hp, T.cl, T.nT, fR_get_t _ _, _, _, rfl, rfl, ?_⟩
    have e : (8 : Int) * ((R.map vN).length : Int) - (t : Int) = ((8 * R.length - t : Nat) : Int) := by rw [List.length_map]; omega
    try dsimp only
    rw [e]
    exact q
/-! ### BitReader.take -/
def spTake (C : Addr) : Sp := fun vs H Q _ => ∃ (p d : Addr) (R : List Nat) (t s : Nat), vs = [.ref p, vN s] ∧ ReadAt C H p d R t ∧ s ≤ 24 ∧ t + s ≤ 8 * R.length ∧
  ∀ H', ReadAt C H' p d R (t + s) → (∀ c o, H c = some o → c ≠ p → H' c = some o) → Q (vN (BP.val R / 2 ^ (8 * R.length - (t + s)) % 2 ^ s)) H'
theorem scTake : FnScope ["self", "size", "number"] ["self", "size"] (defScope sTake) := ⟨rfl, rfl, rfl, by decide +kernel, rfl, by decide +kernel, by decide +kernel⟩
theorem ok_take {f fS fW' fB fO fL : Addr} {fd fdS fdW fdB fdO fdL : FuncData} (F : Fun K "take" "BitReader.take" sTake f fd) (S : Fn K mg "need_size" sNeedSize ["size"] fS fdS) (W : Fn K mg "is_whole" sWhole ["thing", "least", "most"] fW' fdW)
    (B : Fn K mg "bits_at" sBitsAt ["row", "place", "size"] fB fdB) (O : Fn K mg "ones" sOnes ["size"] fO fdO) (L : Me K C "left" "BitReader.left" sLeft ["self"] fL fdL) (T : CRd K mg C) (X : Txt K mg) :
    FnOk P w K mg base CX0 3 f fd ["self", "size"] (spTake C) := by
  have GS : FnOk P w K mg base CX0 2 fS fdS ["size"] spNeedSize := ok_needsize S W X
  have GB : FnOk P w K mg base CX0 2 fB fdB ["row", "place", "size"] spBitsAt := ok_bitsat B O X
  have GL : FnOk P w K mg base CX0 1 fL fdL ["self"] (spLeft C) := ok_left L.F T X
  refine F.ok scTake (fun vs H Q E h => ?_) (fun cdv A outer st H vs Q E hr h => ?_)
  · obtain ⟨p, d, R, t, s, rfl, _⟩ := h
    rfl
  · obtain ⟨p, d, R, t, s, rfl, S0, hs, hts, q⟩ := h
    obtain ⟨⟨dx, hp⟩, hd, hb, ht⟩ := id S0
    have npd : p ≠ d := ne_of hp hd (by intro z; cases z)
    have hr1 : Room 1 _ := hr.mono (by decide)
    refine ⟨_, pss_cons (ps_expr (pe_call GS hr (by rfl) S.m S.F.kp S.b .nil pass0 (pa_cons (pv 1) pa_nil)))
      (pss_cons (ps_if (pt_cmpR op_gt (pv 1) (pe_meth0 (pv 0) T.cl L.m GL hr1 L.b .nil pass0) (nomark _)) (pss_one ps_never) pss_nil)
      (pss_cons (ps_set (i := 2) scTake.nd rfl (Or.inl rfl) (pe_call GB hr (by rfl) B.m B.F.kp B.b .nil pass0 (pa_cons (pe_fld (pv 0) rfl) (pa_cons (pe_fld (pv 0) rfl) (pa_cons (pv 1) pa_nil)))))
      (pss_cons (ps_fld (pv 0) (pe_op op_add (pe_fld (pv 0) rfl) (pv 1)) rfl)
      (pss_one (ps_ret (pv 2)))))), ?_⟩
    refine ⟨_, rfl, s, rfl, hs, ?_⟩
    refine ⟨_, rfl, _, rfl, p, dx, _, rfl, hp, fR_no _ _ (by decide +kernel) (by decide +kernel), p, d, R, t, rfl, S0, _, _, rfl, rfl, _, rfl, ?_⟩
    have e0 : decide (((8 * R.length - t : Nat) : Int) < (s : Int)) = false := decide_eq_false (by omega)
    try dsimp only
    rw [e0]
    refine iteF ?_
    refine ⟨_, rfl, p, C, dx, _, _, rfl, hp, T.cl, T.nH, fR_get_h _ _, _, rfl, p, C, dx, _, _, rfl, hp, T.cl, T.nT, fR_get_t _ _, _, rfl, d, R, t, s, rfl, hd, hb, hts, hs, fun H1 sm => ?_⟩
    have hp1 := sm _ _ hp
    refine ⟨_, rfl, p, C, dx, _, _, rfl, hp1, T.cl, T.nT, fR_get_t _ _, _, rfl, _, _, rfl, rfl, _, rfl, p, C, dx, _, rfl, hp1, T.cl, T.nT, fR_len _ _, ?_⟩
    have e1 : (t : Int) + (s : Int) = ((t + s : Nat) : Int) := by omega
    try dsimp only
    rw [e1, fR_put]
    refine ⟨_, rfl, ?_⟩
    refine q _ ⟨⟨dx, upd_same⟩, by rw [upd_ne npd.symm]; exact sm _ _ hd, hb, hts⟩ fun c o e n1 => ?_
    rw [upd_ne n1]
    exact sm c o e
end
section
variable {P : Program} {w : World} {K : PySem.W.Frag} {mg : Str → Option Value} {base : Heap} {C : Addr}
/-! ### BitReader.place -/
def spPlace (C : Addr) : Sp := fun vs H Q _ => ∃ (p d : Addr) (R : List Nat) (t : Nat), vs = [.ref p] ∧ ReadAt C H p d R t ∧ Q (vN t) H
theorem scPlace : FnScope ["self"] ["self"] (defScope sPlace) := ⟨rfl, rfl, rfl, by decide +kernel, rfl, by decide +kernel, by decide +kernel⟩
theorem ok_place {f : Addr} {fd : FuncData} (F : Fun K "place" "BitReader.place" sPlace f fd) (T : CRd K mg C) : FnOk P w K mg base CX0 1 f fd ["self"] (spPlace C) := by
  refine F.ok scPlace (fun vs H Q E h => ?_) (fun cdv A outer st H vs Q E hr h => ?_)
  · obtain ⟨p, d, R, t, rfl, _⟩ := h
    rfl
  · obtain ⟨p, d, R, t, rfl, ⟨⟨dx, hp⟩, hd, hb, ht⟩, q⟩ := h
    refine ⟨_, pss_one (ps_ret (pe_fld (pv 0) rfl)), ?_⟩
    exact ⟨_, rfl, p, C, dx, _, _, rfl, hp, T.cl, T.nT, fR_get_t _ _, q⟩
end
end K10

set_option Elab.async false
set_option linter.all false
set_option maxRecDepth 100000
set_option maxHeartbeats 4000000
namespace K10.C
open PySem L2 QQ C9
seal PE PA PS PSs PT PW PG PI
/-- what the names of the text's top stand for -/
structure Txt (K : PySem.W.Frag) (mg : Str → Option Value) : Prop where
  isi : mg "isinstance" = none
  bool : mg "bool" = none
  int : mg "int" = none
  list : mg "list" = none
  tuple : mg "tuple" = none
  len : mg "len" = none
  range : mg "range" = none
  max : mg "max" = none
  sum : mg "sum" = none
  enum : mg "enumerate" = none
  all : mg "all" = none
  verr : mg "ValueError" = none
  most : ∃ t, mg "MOST_LENGTH" = some (.int 12 t)
  things : ∃ t, mg "MOST_THINGS" = some (.int 300 t)
  isnumb : ∃ (f : Addr) (fd : FuncData), Fun K "is_number" "is_number" sIsNumb f fd ∧ mg "is_number" = some (.ref f) ∧ Binds K fd ["thing"] []
/-! ### kinds of things -/
section
variable (K : PySem.W.Frag)
theorem kit_ib : PySem.W.kitOne K (.type "int") (.type "bool") = some false := by
  show (if (Value.type "int" == Value.type "bool") = true then some true else if PySem.W.kitMeta "bool" = true then (fastBuiltinMro "int").map (·.contains (.type "bool")) else none) = some false
  decide +kernel
theorem kit_ii : PySem.W.kitOne K (.type "int") (.type "int") = some true := by
  show (if (Value.type "int" == Value.type "int") = true then some true else if PySem.W.kitMeta "int" = true then (fastBuiltinMro "int").map (·.contains (.type "int")) else none) = some true
  decide +kernel
theorem kit_ll : PySem.W.kitOne K (.type "list") (.type "list") = some true := by
  show (if (Value.type "list" == Value.type "list") = true then some true else if PySem.W.kitMeta "list" = true then (fastBuiltinMro "list").map (·.contains (.type "list")) else none) = some true
  decide +kernel
theorem kit_bb : PySem.W.kitOne K (.type "bool") (.type "bool") = some true := by
  show (if (Value.type "bool" == Value.type "bool") = true then some true else if PySem.W.kitMeta "bool" = true then (fastBuiltinMro "bool").map (·.contains (.type "bool")) else none) = some true
  decide +kernel
theorem kit_no {t c : String} (h : (["NoneType", "str", "list", "tuple", "dict"].contains t && ["int", "bool"].contains c) = true) : PySem.W.kitOne K (.type t) (.type c) = some false := by
  show (if (Value.type t == Value.type c) = true then some true else if PySem.W.kitMeta c = true then (fastBuiltinMro t).map (·.contains (.type c)) else none) = some false
  have ht : t = "NoneType" ∨ t = "str" ∨ t = "list" ∨ t = "tuple" ∨ t = "dict" := by
    have := (Bool.and_eq_true_iff.mp h).1
    simpa using this
  have hc : c = "int" ∨ c = "bool" := by
    have := (Bool.and_eq_true_iff.mp h).2
    simpa using this
  rcases ht with rfl | rfl | rfl | rfl | rfl <;> rcases hc with rfl | rfl <;> decide +kernel
theorem kit_bi : PySem.W.kitOne K (.type "bool") (.type "int") = some true := by
  show (if (Value.type "bool" == Value.type "int") = true then some true else if PySem.W.kitMeta "int" = true then (fastBuiltinMro "bool").map (·.contains (.type "int")) else none) = some true
  decide +kernel
def NoInt (H : Hp) (x : V) : Prop := ∃ t b c, TyOf K H x t ∧ PySem.W.kitOne K t (.type "int") = some c ∧ PySem.W.kitOne K t (.type "bool") = some b ∧ (c = false ∨ b = true)
/-- what is_whole tells -/
def WhV (H : Hp) (x : V) (lo hi : Int) (b : Bool) : Prop := (∃ i, x = .int i ∧ b = (decide (lo ≤ i) && decide (i ≤ hi))) ∨ (NoInt K H x ∧ b = false)
variable {K}
theorem NoInt.bl {H : Hp} (b : Bool) : NoInt K H (.bl b) := ⟨_, true, true, .bl b, kit_bi K, kit_bb K, .inr rfl⟩
theorem NoInt.of {H : Hp} {x : V} {t : String} (ty : TyOf K H x (.type t)) (h : ["NoneType", "str", "list", "tuple", "dict"].contains t = true) : NoInt K H x :=
  ⟨_, false, false, ty, kit_no K (by rw [h]; rfl), kit_no K (by rw [h]; rfl), .inl rfl⟩
theorem NoInt.non {H : Hp} : NoInt K H .non := .of .non (by decide)
theorem NoInt.str {H : Hp} (x : Str) : NoInt K H (.str x) := .of (.str x) (by decide)
/-- no list of lengths by its things: no list, or one with something that is no length behind good ones -/
def NoLen (K : PySem.W.Frag) (H : Hp) (x : V) : Prop := (∃ t, TyOf K H x t ∧ PySem.W.kitOne K t (.type "list") = some false) ∨
  ∃ (a : Addr) (xs : List V) (j : Nat) (y : V), x = .ref a ∧ H a = some (.lst xs) ∧ (∀ i : Nat, i < j → ∃ n : Nat, n ≤ 12 ∧ xs[i]? = some (vN n)) ∧ xs[j]? = some y ∧ WhV K H y 0 12 false
/-- a list of numbers from 0 to 12 -/
def IsL (H : Hp) (x : V) (L : List Nat) : Prop := ∃ a, x = .ref a ∧ H a = some (.lst (L.map vN)) ∧ ∀ l ∈ L, l ≤ 12
end
theorem vN_inj {x y : Nat} : vN x = vN y ↔ x = y := by
  constructor
  · intro h
    injection h with h
    omega
  · rintro rfl; rfl
theorem get_vN {S : List Nat} {i : Nat} (h : i < S.length) : (S.map vN)[i]? = some (vN S[i]) := by simp [h]
theorem map_get {B : List Nat} {i : Nat} {y : V} (h : (B.map vN)[i]? = some y) : ∃ b, B[i]? = some b ∧ y = vN b := by
  rw [List.getElem?_map] at h
  cases e : B[i]? with
  | none => rw [e] at h; cases h
  | some z => rw [e] at h; exact ⟨z, rfl, (Option.some.inj h).symm⟩
theorem take_snoc {B : List Nat} {i b : Nat} (h : B[i]? = some b) : B.take (i + 1) = B.take i ++ [b] := by rw [List.take_add_one, h]; rfl
theorem sl2000 {n : Nat} (h : n ≤ 2000) : n ≤ sizeLine := Nat.le_trans h (by decide)
theorem sl2000' {n : Nat} (h : n ≤ 2000) : n < sizeLine := Nat.lt_of_le_of_lt h (by decide)
theorem mapI (R : List Nat) : R.map vN = (R.map fun b => ((b : Nat) : Int)).map V.int := by rw [List.map_map]; rfl
section
variable {P : Program} {w : World} {K : PySem.W.Frag} {mg : Str → Option Value} {base : Heap}
/-! ### is_whole -/
def spWhole (K : PySem.W.Frag) : Sp := fun vs H Q _ => ∃ (x : V) (lo hi : Int) (b : Bool), vs = [x, .int lo, .int hi] ∧ WhV K H x lo hi b ∧ Q (.bl b) H
theorem scWhole : FnScope ["thing", "least", "most"] ["thing", "least", "most"] (defScope sWhole) := ⟨rfl, rfl, rfl, by decide +kernel, rfl, by decide +kernel, by decide +kernel⟩
def spNumb (K : PySem.W.Frag) : Sp := fun vs H Q _ => ∃ (x : V) (b : Bool), vs = [x] ∧ ((∃ i, x = .int i ∧ b = true) ∨ (NoInt K H x ∧ b = false)) ∧ Q (.bl b) H
theorem scNumb : FnScope ["thing"] ["thing"] (defScope sIsNumb) := ⟨rfl, rfl, rfl, by decide +kernel, rfl, by decide +kernel, by decide +kernel⟩
theorem ok_numb {f : Addr} {fd : FuncData} (F : Fun K "is_number" "is_number" sIsNumb f fd) (T : Txt K mg) : FnOk P w K mg base CX0 0 f fd ["thing"] (spNumb K) := by
  refine F.ok0 scNumb (fun vs H Q E h => ?_) (fun cdv A outer s H vs Q E h => ?_)
  · obtain ⟨x, b, rfl, _⟩ := h
    rfl
  · obtain ⟨x, b, rfl, hw, k⟩ := h
    refine ⟨_, pss_one (ps_ret (pe_and (pe_callB call_isi (by rfl) T.isi PyProof.Rows.boot_isinstance (pa_cons (pv 0) (pa_cons (pe_bltn (v := .ty "int") (by rfl) T.int PyProof.Rows.boot_int rfl) pa_nil))) (pe_one (pe_not (pe_callB call_isi (by rfl) T.isi PyProof.Rows.boot_isinstance (pa_cons (pv 0) (pa_cons (pe_bltn (v := .ty "bool") (by rfl) T.bool PyProof.Rows.boot_bool rfl) pa_nil))))))), ?_⟩
    rcases hw with ⟨i, rfl, rfl⟩ | ⟨⟨t, b', c, ty, k1, k2, k3⟩, rfl⟩
    · refine ⟨_, rfl, _, _, _, _, rfl, .int _, kit_ii K, _, rfl, iteT ?_⟩
      exact ⟨_, rfl, _, _, _, _, rfl, .int _, kit_ib K, _, rfl, k⟩
    · refine ⟨_, rfl, _, _, _, _, rfl, ty, k1, _, rfl, ?_⟩
      cases c with
      | false => exact iteF k
      | true =>
        rcases k3 with k3 | k3
        · cases k3
        · subst k3
          exact iteT ⟨_, rfl, _, _, _, _, rfl, ty, k2, _, rfl, k⟩
theorem ok_whole {f : Addr} {fd : FuncData} (F : Fn K mg "is_whole" sWhole ["thing", "least", "most"] f fd) (T : Txt K mg) : FnOk P w K mg base CX0 1 f fd ["thing", "least", "most"] (spWhole K) := by
  obtain ⟨fN, fdN, NF, Nm, Nb⟩ := T.isnumb
  have GN := ok_numb (P := P) (w := w) (base := base) NF T
  refine F.F.ok scWhole (fun vs H Q E h => ?_) (fun cdv A outer s H vs Q E hr h => ?_)
  · obtain ⟨x, lo, hi, b, rfl, _⟩ := h
    rfl
  · obtain ⟨x, lo, hi, b, rfl, hw, k⟩ := h
    refine ⟨_, pss_one (ps_ret (pe_and (pe_call GN hr (by rfl) Nm NF.kp Nb .nil pass0 (pa_cons (pv 0) pa_nil)) (pe_one (pe_chain op_le op_le (pv 1) (pv 0) (pv 2))))), ?_⟩
    rcases hw with ⟨i, rfl, rfl⟩ | ⟨hN, rfl⟩
    · refine ⟨_, rfl, _, true, rfl, .inl ⟨i, rfl, rfl⟩, _, rfl, iteT ?_⟩
      refine ⟨_, rfl, _, rfl, _, _, rfl, rfl, _, rfl, ?_⟩
      refine ite2 (fun h1 => ?_) (fun h1 => ?_)
      · refine ⟨_, rfl, _, _, rfl, rfl, ?_⟩
        rw [h1, Bool.true_and] at k
        exact k
      · have h2 : decide (lo ≤ i) = false := by simpa using h1
        rw [h2, Bool.false_and] at k
        exact k
    · exact ⟨_, rfl, _, false, rfl, .inr ⟨hN, rfl⟩, _, rfl, iteF k⟩
/-! ### are_whole -/
def spAreWhole (K : PySem.W.Frag) : Sp := fun vs H Q _ => ∃ x : V, vs = [x, .int 0, .int 12] ∧ ((∃ B, IsL H x B ∧ Q (.bl true) H) ∨ (NoLen K H x ∧ Q (.bl false) H))
theorem scAreWhole : FnScope ["thing", "least", "most", "number"] ["thing", "least", "most"] (defScope sAreWhole) := ⟨rfl, rfl, rfl, by decide +kernel, rfl, by decide +kernel, by decide +kernel⟩
theorem byte_ok (b : Nat) (h : b ≤ 12) : (decide ((0 : Int) ≤ (b : Int)) && decide ((b : Int) ≤ 12)) = true := by
  rw [decide_eq_true (by omega), decide_eq_true (by omega)]; rfl
theorem ok_arewhole {f fW : Addr} {fd fdW : FuncData} (F : Fn K mg "are_whole" sAreWhole ["thing", "least", "most"] f fd) (W : Fn K mg "is_whole" sWhole ["thing", "least", "most"] fW fdW) (T : Txt K mg) : FnOk P w K mg base CX0 2 f fd ["thing", "least", "most"] (spAreWhole K) := by
  have GW : FnOk P w K mg base CX0 1 fW fdW ["thing", "least", "most"] (spWhole K) := ok_whole W T
  refine F.F.ok scAreWhole (fun vs H Q E h => ?_) (fun cdv A outer s H vs Q E hr h => ?_)
  · obtain ⟨x, rfl, _⟩ := h
    rfl
  · obtain ⟨x, rfl, h⟩ := h
    refine ⟨_, pss_cons (ps_if (pt_not (pt_val (pe_callB call_isi (by rfl) T.isi PyProof.Rows.boot_isinstance (pa_cons (pv 0) (pa_cons (pe_bltn (v := .ty "list") (by rfl) T.list PyProof.Rows.boot_list rfl) pa_nil))))) (pss_one (ps_ret pe_bl)) pss_nil)
      (pss_cons (ps_for PassesOwn.never rfl (pi_list (pv 0)) (pg_name (i := 3) scAreWhole.nd rfl (Or.inl rfl))
        (pss_one (ps_if (pt_not (pt_val (pe_call GW hr (by rfl) W.m W.F.kp W.b .nil pass0 (pa_cons (pv 3) (pa_cons (pv 1) (pa_cons (pv 2) pa_nil)))))) (pss_one (ps_ret pe_bl)) pss_nil)))
      (pss_one (ps_ret pe_bl))), ?_⟩
    rcases h with ⟨B, ⟨a, rfl, hB, hb⟩, k⟩ | ⟨⟨t, ty, kl⟩ | ⟨a, xs, j, y, rfl, hL, hg1, hj, hy⟩, k⟩
    · refine ⟨_, rfl, _, _, _, _, rfl, .lst hB, kit_ll K, _, rfl, iteF ?_⟩
      refine ⟨_, rfl, a, rfl, ⟨_, SqL.of hB⟩, for_list (K := K) (a := a) (xs := B.map vN) (fun i σ H2 => ∃ v : Option V, σ = [some (.ref a), some (.int 0), some (.int 12), v] ∧ H2 = H)
        ⟨none, rfl, rfl⟩ (fun i σ H2 _ ⟨_, _, e⟩ => by rw [e]; exact SqL.of hB) ?_ ?_⟩
      · rintro i y σ H2 hi ⟨v, rfl, rfl⟩
        obtain ⟨b, hb1, rfl⟩ : ∃ b, b ∈ B ∧ y = vN b := by
          rw [List.getElem?_map] at hi
          cases e : B[i]? with
          | none => rw [e] at hi; cases hi
          | some z => rw [e] at hi; exact ⟨z, List.mem_of_getElem? e, (Option.some.inj hi).symm⟩
        refine ⟨_, rfl, _, rfl, _, rfl, _, _, _, _, rfl, .inl ⟨_, rfl, rfl⟩, _, rfl, ?_⟩
        rw [byte_ok b (hb b hb1)]
        exact iteF ⟨_, rfl, rfl⟩
      · rintro σ H2 ⟨v, rfl, rfl⟩
        exact k
    · exact ⟨_, rfl, _, _, _, _, rfl, ty, kl, _, rfl, iteT k⟩
    · refine ⟨_, rfl, _, _, _, _, rfl, .lst hL, kit_ll K, _, rfl, iteF ?_⟩
      refine ⟨_, rfl, a, rfl, ⟨_, SqL.of hL⟩, for_list (K := K) (a := a) (xs := xs) (fun i σ H2 => i ≤ j ∧ ∃ v : Option V, σ = [some (.ref a), some (.int 0), some (.int 12), v] ∧ H2 = H)
        ⟨Nat.zero_le _, none, rfl, rfl⟩ (fun i σ H2 _ ⟨_, _, _, e⟩ => by rw [e]; exact SqL.of hL) ?_ ?_⟩
      · rintro i z σ H2 hi ⟨hij, v, rfl, rfl⟩
        by_cases e : i = j
        · subst e
          rw [hj] at hi
          cases hi
          exact ⟨_, rfl, _, rfl, _, rfl, _, _, _, _, rfl, hy, _, rfl, iteT k⟩
        · obtain ⟨n, hn, e2⟩ := hg1 i (by omega)
          rw [e2] at hi
          cases hi
          refine ⟨_, rfl, _, rfl, _, rfl, _, _, _, _, rfl, .inl ⟨_, rfl, rfl⟩, _, rfl, ?_⟩
          rw [byte_ok n hn]
          exact iteF ⟨by omega, _, rfl, rfl⟩
      · rintro σ H2 ⟨hij, v, rfl, rfl⟩
        have := (List.getElem?_eq_some_iff.mp hj).1
        omega
/-! ### are_of_things -/
def aot (L : List Nat) : Bool := decide (1 ≤ L.length) && decide (L.length ≤ 300) && L.any (fun l => decide (0 < l))
def spThings (K : PySem.W.Frag) : Sp := fun vs H Q _ => ∃ x : V, vs = [x, .int 12] ∧ ((∃ L, IsL H x L ∧ Q (.bl (aot L)) H) ∨ (NoLen K H x ∧ Q (.bl false) H))
theorem scThings : FnScope ["thing", "most"] ["thing", "most"] (defScope sThings) := ⟨rfl, rfl, rfl, by decide +kernel, rfl, by decide +kernel, by decide +kernel⟩
theorem ok_things {f fA fW : Addr} {fd fdA fdW : FuncData} (F : Fn K mg "are_of_things" sThings ["thing", "most"] f fd) (AW : Fn K mg "are_whole" sAreWhole ["thing", "least", "most"] fA fdA) (W : Fn K mg "is_whole" sWhole ["thing", "least", "most"] fW fdW) (T : Txt K mg) : FnOk P w K mg base CX0 31 f fd ["thing", "most"] (spThings K) := by
  have GA := ok_arewhole (P := P) (w := w) (base := base) AW W T
  obtain ⟨tt, ht⟩ := T.things
  refine F.F.ok scThings (fun vs H Q E h => ?_) (fun cdv A outer s H vs Q E hr h => ?_)
  · obtain ⟨x, rfl, _⟩ := h
    rfl
  · obtain ⟨x, rfl, h⟩ := h
    have hr2 : Room 2 _ := hr.mono (by decide)
    have hn := hr.hd (by decide)
    refine ⟨_, pss_cons (ps_if (pt_not (pt_val (pe_call GA hr2 (by rfl) AW.m AW.F.kp AW.b .nil pass0 (pa_cons (pv 0) (pa_cons pe_int (pa_cons (pv 1) pa_nil)))))) (pss_one (ps_ret pe_bl)) pss_nil)
      (pss_one (ps_ret (pe_and (pe_chain op_le op_le pe_int (pe_callB call_len_seq (by rfl) T.len PySem.boot_len (pa_cons (pv 0) pa_nil)) (pe_glob (v := .int 300) (by rfl) ht ⟨tt, rfl⟩))
        (pe_one (pe_cmpR op_gt (pe_callB (call_maxL hn) (by rfl) T.max PyProof.Rows.boot_max (pa_cons (pv 0) pa_nil)) pe_int (nomark _)))))), ?_⟩
    rcases h with ⟨L, ⟨a, rfl, hB, hb⟩, k⟩ | ⟨hN, k⟩
    · refine ⟨_, rfl, _, rfl, _, rfl, .inl ⟨L, ⟨a, rfl, hB, hb⟩, _, rfl, iteF ?_⟩⟩
      refine ⟨_, rfl, a, _, rfl, .inl (SqL.of hB), _, _, rfl, rfl, ?_⟩
      try dsimp only
      rw [List.length_map]
      refine ⟨_, rfl, ite2 (fun h1 => ?_) (fun h1 => ?_)⟩
      · have g1 : 1 ≤ L.length := by have := of_decide_eq_true h1; omega
        refine ⟨_, _, rfl, rfl, ?_⟩
        by_cases g2 : L.length ≤ 300
        · try dsimp only
          rw [decide_eq_true (show ((L.length : Nat) : Int) ≤ 300 by omega)]
          refine ⟨_, rfl, iteT ?_⟩
          refine ⟨_, rfl, a, L.map (fun b => ((b : Nat) : Int)), rfl, by rw [← mapI]; exact SqL.of hB, by rw [List.length_map]; omega, fun n hn hmax => ?_⟩
          refine ⟨_, _, rfl, rfl, ?_⟩
          have e : decide (0 < n) = aot L := by
            unfold aot
            rw [decide_eq_true g1, decide_eq_true g2, Bool.true_and, Bool.true_and]
            obtain ⟨b, hb1, rfl⟩ := List.mem_map.mp hn
            by_cases c : 0 < b
            · rw [decide_eq_true (by omega)]
              exact (List.any_eq_true.mpr ⟨b, hb1, decide_eq_true c⟩).symm
            · rw [decide_eq_false (by omega)]
              symm
              rw [List.any_eq_false]
              intro l hl z
              have := hmax _ (List.mem_map_of_mem (f := fun b => ((b : Nat) : Int)) hl)
              have := of_decide_eq_true z
              omega
          try dsimp only
          rw [e]
          exact k
        · try dsimp only
          rw [decide_eq_false (show ¬ ((L.length : Nat) : Int) ≤ 300 by omega)]
          refine ⟨_, rfl, iteF ?_⟩
          rw [show aot L = false by unfold aot; rw [decide_eq_false g2, Bool.and_false, Bool.false_and]] at k
          exact k
      · have g1 : ¬ 1 ≤ L.length := fun z => h1 (decide_eq_true (by omega))
        rw [show aot L = false by unfold aot; rw [decide_eq_false g1, Bool.false_and, Bool.false_and]] at k
        exact ⟨_, rfl, iteF k⟩
    · exact ⟨_, rfl, _, rfl, _, rfl, .inr ⟨hN, _, rfl, iteT k⟩⟩
end
end K10.C

set_option Elab.async false
set_option linter.all false
set_option maxRecDepth 100000
set_option maxHeartbeats 4000000
namespace K10.C
open PySem L2 QQ C9
seal PE PA PS PSs PT PW PG PI
/-- a code, or None -/
def OT (H : Hp) (x : V) : Option (Nat × Nat) → Prop
  | none => x = .non
  | some c => ∃ t, x = .ref t ∧ H t = some (.tup [vN c.1, vN c.2])
def CL (H : Hp) (xs : List V) (cs : List (Option (Nat × Nat))) : Prop := xs.length = cs.length ∧ ∀ (i : Nat) (x : V) (c : Option (Nat × Nat)), xs[i]? = some x → cs[i]? = some c → OT H x c
theorem OT.keep {H H' : Hp} {x : V} {c : Option (Nat × Nat)} (h : OT H x c) (k : ∀ t ys, H t = some (.tup ys) → H' t = some (.tup ys)) : OT H' x c := by
  cases c with
  | none => exact h
  | some c => obtain ⟨t, e, z⟩ := h; exact ⟨t, e, k _ _ z⟩
theorem CL.keep {H H' : Hp} {xs : List V} {cs : List (Option (Nat × Nat))} (h : CL H xs cs) (k : ∀ t ys, H t = some (.tup ys) → H' t = some (.tup ys)) : CL H' xs cs := ⟨h.1, fun i x c h1 h2 => (h.2 i x c h1 h2).keep k⟩
theorem CL.set {H : Hp} {xs : List V} {cs : List (Option (Nat × Nat))} (h : CL H xs cs) {p : Nat} {y : V} {d : Option (Nat × Nat)} (hy : OT H y d) : CL H (xs.set p y) (cs.set p d) := by
  refine ⟨by rw [List.length_set, List.length_set]; exact h.1, fun i x c h1 h2 => ?_⟩
  by_cases e : p = i
  · subst e
    have hp : p < xs.length := by
      have := (List.getElem?_eq_some_iff.mp h1).1
      rwa [List.length_set] at this
    rw [List.getElem?_set_self hp] at h1
    rw [List.getElem?_set_self (by rw [← h.1]; exact hp)] at h2
    cases h1
    cases h2
    exact hy
  · rw [List.getElem?_set_ne e] at h1 h2
    exact h.2 i x c h1 h2
theorem CL.none (H : Hp) (n : Nat) : CL H (List.replicate n .non) (List.replicate n none) := by
  refine ⟨by rw [List.length_replicate, List.length_replicate], fun i x c h1 h2 => ?_⟩
  rw [List.getElem?_replicate] at h1 h2
  split at h1
  · cases h1
    rw [if_pos (by assumption)] at h2
    cases h2
    rfl
  · cases h1
theorem ndL : (["length"] : List Str).Nodup := by decide +kernel
section
variable {P : Program} {w : World} {K : PySem.W.Frag} {mg : Str → Option Value} {base : Heap}
/-! ### room_taken -/
def spRoom : Sp := fun vs H Q _ => ∃ (a : Addr) (L : List Nat), vs = [.ref a] ∧ H a = some (.lst (L.map vN)) ∧ (∀ l ∈ L, l ≤ 12) ∧ L.length ≤ 300 ∧ ∀ H', Same H H' → Q (vN (krf 12 L)) H'
theorem scRoom : FnScope ["lengths"] ["lengths"] (defScope sRoom) := ⟨rfl, rfl, rfl, by decide +kernel, rfl, by decide +kernel, by decide +kernel⟩
abbrev teRoom : TE := tOp (rI CPow fun i j => .int (i * 2 ^ j.toNat)) (tC (.int 1)) (tOp (rI0 fun i j => .int (i - j)) (tC (.int 12)) (tVar 0))
abbrev ttRoom : TT := tTest (tOp (rI0 fun i j => .bl (decide (j < i))) (tVar 0) (tC (.int 0)))
theorem ok_room {f : Addr} {fd : FuncData} (F : Fn K mg "room_taken" sRoom ["lengths"] f fd) (T : Txt K mg) : FnOk P w K mg base CX0 31 f fd ["lengths"] spRoom := by
  obtain ⟨tm, hm⟩ := T.most
  refine F.F.ok scRoom (fun vs H Q E h => ?_) (fun cdv A outer s H vs Q E hr h => ?_)
  · obtain ⟨a, L, rfl, _⟩ := h
    rfl
  · obtain ⟨a, L, rfl, hL, hb, hl300, k⟩ := h
    have hn := hr.hd (by decide)
    refine ⟨_, pss_one (ps_ret (pe_callB (call_sum hn) (by rfl) T.sum PyProof.Rows.boot_sum (pa_cons (pe_compI (N := ["length"]) (g := gName 0) (tt := ttRoom) (te := teRoom) rfl rfl (by decide +kernel) (by decide +kernel) (by decide +kernel) (pi_list (pv 0))
        (fun fp s H => pg_name (i := 0) ndL rfl (Or.inl rfl)) (fun fp s H => pt_cmpR op_gt (pv 0) pe_int (nomark _)) (fun fp s H => pe_op op_shl pe_int (pe_op op_sub (pe_glob (v := .int 12) (by rfl) hm ⟨tm, rfl⟩) (pv 0)))) pa_nil))), ?_⟩
    refine ⟨_, rfl, a, rfl, ⟨_, SqL.of hL⟩, fun l nl => ?_⟩
    refine compI_li (K := K) (a := a) (l := l) (xs := L.map vN) (n := 1) (g := gName 0) (tt := ttRoom) (te := teRoom)
      (fun i ys H' => ys = (((L.take i).filter (fun b => decide (0 < b))).map (fun b => 2 ^ (12 - b))).map vN ∧ H' l = some (.lst ys) ∧ Same H H') ⟨rfl, upd_same, same_new nl⟩ (fun i ys H' _ ⟨_, _, sm⟩ => SqL.of (sm _ _ hL)) ?_ ?_ ?_ ?_ ?_
    · rintro i x ys σ H' hx ⟨rfl, hl, sm⟩ hσ
      obtain ⟨b, hb1, rfl⟩ := map_get hx
      have hb12 := hb b (List.mem_of_getElem? hb1)
      have hil : i < L.length := (List.getElem?_eq_some_iff.mp hb1).1
      obtain ⟨u0, rfl⟩ : ∃ u0, σ = [u0] := match σ, hσ with | [u0], _ => ⟨u0, rfl⟩
      have hlen : ((L.take i).filter (fun b => decide (0 < b))).length ≤ 300 := Nat.le_trans (List.length_filter_le _ _) (by rw [List.length_take]; omega)
      refine ⟨_, rfl, _, _, rfl, rfl, _, rfl, ?_⟩
      rw [take_snoc hb1, List.filter_append]
      dsimp only
      by_cases h0 : 0 < b
      · rw [if_pos (decide_eq_true (show (0 : Int) < ((b : Nat) : Int) by omega))]
        refine ⟨_, rfl, _, _, rfl, rfl, _, _, rfl, rfl, ⟨by omega, by omega, by decide⟩, hl, sl2000' (by rw [List.length_map, List.length_map]; omega), rfl, ?_, upd_same, fun c o e => ?_⟩
        · rw [List.filter_cons_of_pos (by simpa using h0), List.map_append, List.map_append]
          have e1 : (1 : Int) * 2 ^ ((12 : Int) - ((b : Nat) : Int)).toNat = ((2 ^ (12 - b) : Nat) : Int) := by
            rw [show ((12 : Int) - ((b : Nat) : Int)).toNat = 12 - b by omega, Int.one_mul]; simp
          try dsimp only
          rw [e1]
          rfl
        · rw [upd_ne (ne_of_none e nl)]; exact sm _ _ e
      · rw [if_neg (fun z => absurd (of_decide_eq_true z) (by omega))]
        refine ⟨rfl, ?_, ?_, sm⟩
        · rw [List.filter_cons_of_neg (by simpa using h0)]; simp
        · exact hl
    · rintro ys H' ⟨rfl, hl, sm⟩
      rw [List.length_map, List.take_length, mapI] at hl
      refine ⟨l, _, rfl, SqL.of hl, ?_⟩
      have e : (((L.filter (fun b => decide (0 < b))).map (fun b => 2 ^ (12 - b))).map (fun b => ((b : Nat) : Int))).sum = ((krf 12 L : Nat) : Int) := by
        unfold krf
        generalize (L.filter (fun b => decide (0 < b))).map (fun b => 2 ^ (12 - b)) = Y
        induction Y with
        | nil => rfl
        | cons y Y ih => simp only [List.map_cons, List.sum_cons]; rw [ih]; simp
      rw [e]
      exact k _ sm
    · exact fun x σ H A B h z => h _ _ z
    · exact fun σ H A B h ⟨v, e1, i, j, e2, e3, c, e4, z⟩ => ⟨v, e1, i, j, e2, e3, c, e4, h _ _ z⟩
    · exact fun σ H A B h ⟨v, e1, i, j, e2, e3, i2, j2, e4, e5, c, z⟩ => ⟨v, e1, i, j, e2, e3, i2, j2, e4, e5, c, h _ _ z⟩
/-! ### need_lengths -/
def spNeedLen : Sp := fun vs H Q _ => ∃ (x : V) (L : List Nat), vs = [x] ∧ IsL H x L ∧ Good L ∧ ∀ H', Same H H' → Q .non H'
theorem scNeedLen : FnScope ["lengths"] ["lengths"] (defScope sNeedLen) := ⟨rfl, rfl, rfl, by decide +kernel, rfl, by decide +kernel, by decide +kernel⟩
/-- all that need_lengths calls -/
structure Lns (K : PySem.W.Frag) (mg : Str → Option Value) : Prop where
  X : Txt K mg
  whole : ∃ f fd, Fn K mg "is_whole" sWhole ["thing", "least", "most"] f fd
  arewhole : ∃ f fd, Fn K mg "are_whole" sAreWhole ["thing", "least", "most"] f fd
  things : ∃ f fd, Fn K mg "are_of_things" sThings ["thing", "most"] f fd
  room : ∃ f fd, Fn K mg "room_taken" sRoom ["lengths"] f fd
theorem good_aot {L : List Nat} (h : Good L) : aot L = true := by
  obtain ⟨l, hl, h0⟩ := h.some
  unfold aot
  rw [decide_eq_true h.ne, decide_eq_true h.le, Bool.true_and, Bool.true_and]
  exact List.any_eq_true.mpr ⟨l, hl, decide_eq_true h0⟩
theorem ok_needlen {f : Addr} {fd : FuncData} (F : Fn K mg "need_lengths" sNeedLen ["lengths"] f fd) (Y : Lns K mg) : FnOk P w K mg base CX0 32 f fd ["lengths"] spNeedLen := by
  obtain ⟨T, ⟨_, _, W⟩, ⟨_, _, AW⟩, ⟨_, _, Th⟩, ⟨_, _, Ro⟩⟩ := Y
  have GT := ok_things (P := P) (w := w) (base := base) Th AW W T
  have GR := ok_room (P := P) (w := w) (base := base) Ro T
  obtain ⟨tm, hm⟩ := T.most
  refine F.F.ok scNeedLen (fun vs H Q E h => ?_) (fun cdv A outer s H vs Q E hr h => ?_)
  · obtain ⟨x, L, rfl, _⟩ := h
    rfl
  · obtain ⟨x, L, rfl, ⟨a, rfl, hB, hb⟩, G, k⟩ := h
    refine ⟨_, pss_cons (ps_if (pt_not (pt_val (pe_call GT hr (by rfl) Th.m Th.F.kp Th.b .nil pass0 (pa_cons (pv 0) (pa_cons (pe_glob (v := .int 12) (by rfl) hm ⟨tm, rfl⟩) pa_nil))))) (pss_one ps_never) pss_nil)
      (pss_one (ps_if (pt_cmpR op_gt (pe_call GR hr (by rfl) Ro.m Ro.F.kp Ro.b .nil pass0 (pa_cons (pv 0) pa_nil)) (pe_op op_shl pe_int (pe_glob (v := .int 12) (by rfl) hm ⟨tm, rfl⟩)) (nomark _)) (pss_one ps_never) pss_nil)), ?_⟩
    refine seq_g fun R1 g1 => ?_
    refine ⟨_, rfl, _, rfl, .inl ⟨L, ⟨a, rfl, hB, hb⟩, _, rfl, ?_⟩⟩
    rw [good_aot G]
    refine iteF (g1 _ _ ?_)
    clear g1
    refine ⟨_, rfl, a, L, rfl, hB, hb, G.le, fun H' s1 => ?_⟩
    refine ⟨_, _, rfl, rfl, ⟨by decide, by decide, by decide⟩, _, _, rfl, rfl, _, rfl, ite2 (fun h => ?_) (fun _ => k _ s1)⟩
    exfalso
    have := of_decide_eq_true h
    have g := G.room
    have e : (1 : Int) * 2 ^ (12 : Int).toNat = 4096 := by decide
    rw [e] at this
    omega
end
end K10.C

set_option Elab.async false
set_option linter.all false
set_option maxRecDepth 100000
set_option maxHeartbeats 4000000
namespace K10.C
open PySem L2 QQ C9
seal PE PA PS PSs PT PW PG PI
theorem rep_one {α : Type} (x : α) (k : Nat) : (List.replicate k [x]).flatten = List.replicate k x := by
  induction k with
  | zero => rfl
  | succ k ih => rw [List.replicate_succ, List.flatten_cons, ih, List.replicate_succ]; rfl
theorem ed_small {L : List Nat} (hl : L.length ≤ 300) {j : Nat} (hj : j ≤ 12) : ed L j ≤ 1228800 := by
  have h := ed_le L j
  have h1 : 2 ^ j ≤ 2 ^ 12 := Nat.pow_le_pow_right (by decide) hj
  have h2 : L.length * 2 ^ j ≤ 300 * 4096 := Nat.mul_le_mul hl h1
  omega
theorem cd_zero (L : List Nat) (j : Nat) : cdAt L 0 (j + 1) = 2 * ed L j := by rw [code_at]; simp
theorem ixN_nat {n i : Nat} (h : i < n) : ixN n ((i : Nat) : Int) = some i := by
  unfold ixN
  rw [if_pos (by omega)]
  simpa using h
section
variable {P : Program} {w : World} {K : PySem.W.Frag} {mg : Str → Option Value} {base : Heap}
/-! ### codes_of -/
def spCodesOf : Sp := fun vs H Q _ => ∃ (x : V) (L : List Nat), vs = [x] ∧ IsL H x L ∧ Good L ∧ ∀ l xs H', H l = none → Same H H' → H' l = some (.lst xs) → CL H' xs (codes L) → Q (.ref l) H'
abbrev nCodes : List Str := ["lengths", "codes", "code", "size", "place", "length"]
theorem scCodesOf : FnScope nCodes ["lengths"] (defScope sCodesOf) := ⟨rfl, rfl, rfl, by decide +kernel, rfl, by decide +kernel, by decide +kernel⟩
theorem ok_codesof {f fN : Addr} {fd fdN : FuncData} (F : Fn K mg "codes_of" sCodesOf ["lengths"] f fd) (N : Fn K mg "need_lengths" sNeedLen ["lengths"] fN fdN) (Y : Lns K mg) : FnOk P w K mg base CX0 33 f fd ["lengths"] spCodesOf := by
  have GN := ok_needlen (P := P) (w := w) (base := base) N Y
  have T := Y.X
  obtain ⟨tm, hm⟩ := T.most
  refine F.F.ok scCodesOf (fun vs H Q E h => ?_) (fun cdv A outer st H vs Q E hr h => ?_)
  · obtain ⟨x, L, rfl, _⟩ := h
    rfl
  · obtain ⟨x, L, rfl, ⟨a, rfl, hB, hb⟩, G, k⟩ := h
    refine ⟨_, pss_cons (ps_expr (pe_call GN hr (by rfl) N.m N.F.kp N.b .nil pass0 (pa_cons (pv 0) pa_nil)))
      (pss_cons (ps_set (i := 1) scCodesOf.nd rfl (Or.inl rfl) (pe_op op_rep (pe_lst (pa_cons pe_non pa_nil)) (pe_callB call_len_seq (by rfl) T.len PySem.boot_len (pa_cons (pv 0) pa_nil))))
      (pss_cons (ps_set (i := 2) scCodesOf.nd rfl (Or.inl rfl) pe_int)
      (pss_cons (ps_for PassesOwn.never rfl (pi_range2 (by rfl) T.range (pa_cons pe_int (pa_cons (pe_op op_add (pe_glob (v := .int 12) (by rfl) hm ⟨tm, rfl⟩) pe_int) pa_nil))) (pg_name (i := 3) scCodesOf.nd rfl (Or.inl rfl))
        (pss_cons (ps_set (i := 2) scCodesOf.nd rfl (Or.inl rfl) (pe_op op_shl (pv 2) pe_int))
        (pss_one (ps_for PassesOwn.never rfl (pi_enum (by rfl) T.enum (pa_cons (pv 0) pa_nil)) (pg_tup rfl (pgs_cons (pg_name (i := 4) scCodesOf.nd rfl (Or.inl rfl)) (pgs_cons (pg_name (i := 5) scCodesOf.nd rfl (Or.inl rfl)) pgs_nil)))
          (pss_one (ps_if (pt_cmpR op_eq (pv 5) (pv 3) (nomark _))
            (pss_cons (ps_asg (pe_tup (pa_cons (pv 2) (pa_cons (pv 3) pa_nil))) (pg_sub (pv 1) (pv 4) set_list))
            (pss_one (ps_set (i := 2) scCodesOf.nd rfl (Or.inl rfl) (pe_op op_add (pv 2) pe_int)))) pss_nil))))))
      (pss_one (ps_ret (pv 1)))))), ?_⟩
    refine seq_g fun R1 g1 => ?_
    refine ⟨_, rfl, _, L, rfl, ⟨a, rfl, hB, hb⟩, G, fun H1 s1 => g1 _ _ ?_⟩
    clear g1
    have hl3 := G.le
    refine seq_g fun R1 g1 => ?_
    refine ⟨(by show 1 ≤ sizeLine; decide), fun l0 n0 => ?_⟩
    have s2 := same_new (o := .lst [.non]) n0
    refine ⟨_, rfl, a, _, rfl, .inl (SqL.of (s2 _ _ (s1 _ _ hB))), l0, _, _, rfl, rfl, upd_same, by omega, by rw [List.length_map]; omega, (by rw [List.length_map, Int.toNat_natCast]; exact sl2000 (by show 1 * _ ≤ _; omega)), fun l nl => g1 _ _ ?_⟩
    clear g1
    have s3 := same_new (o := .lst (List.replicate L.length V.non)) nl
    have ez : (List.replicate (((L.map vN).length : Nat) : Int).toNat [V.non]).flatten = List.replicate L.length V.non := by rw [List.length_map, Int.toNat_natCast, rep_one]
    try dsimp only
    rw [ez]
    have hl1 : (upd (upd H1 l0 (.lst [.non])) l (.lst (List.replicate L.length V.non))) l = some (.lst (List.replicate L.length V.non)) := upd_same
    have nlH : H l = none := none_of (s1.trans s2) nl
    have s03 := (s1.trans s2).trans s3
    generalize upd (upd H1 l0 (.lst [.non])) l (.lst (List.replicate L.length V.non)) = H3 at *
    refine seq_g fun R1 g1 => g1 _ _ ?_
    clear g1
    refine seq_g fun R1 g1 => ?_
    refine ⟨_, _, rfl, rfl, 1, 13, rfl, ⟨by omega, by omega, by omega, by omega⟩, ?_⟩
    have en : ((13 : Int) - 1).toNat = 12 := by decide
    try dsimp only
    rw [en]
    refine for_range (D := ⟨_, _, fun _ _ => False, fun _ _ => False⟩) (lo := 1) (n := 12) (fun j σ H2 => ∃ v3 v4 v5 : Option V, ∃ xs : List V, σ = [some (.ref a), some (.ref l), some (vN (ed L j)), v3, v4, v5] ∧ H2 l = some (.lst xs) ∧ CL H2 xs (row L j 0) ∧ Same H H2) ⟨none, none, none, _, rfl, hl1, by rw [row_zero]; exact CL.none _ _, s03⟩ ?_ ?_
    · clear g1 hl1 s03 s3 nl
      rintro j σ H2 hj ⟨v3, v4, v5, xs, rfl, hl2, hC, sm⟩
      have eb : (1 : Int) + ((j : Nat) : Int) = ((j + 1 : Nat) : Int) := by omega
      try dsimp only
      rw [eb]
      have hes := ed_small hl3 (show j ≤ 12 by omega)
      refine seq_g fun R2 g2 => ?_
      refine ⟨_, rfl, _, _, rfl, rfl, ⟨by omega, by omega, by omega⟩, g2 _ _ ?_⟩
      clear g2
      have ec : ((ed L j : Nat) : Int) * 2 ^ (1 : Int).toNat = ((cdAt L 0 (j + 1) : Nat) : Int) := by
        rw [cd_zero, show ((1 : Int).toNat) = 1 from rfl]
        omega
      try dsimp only
      rw [ec]
      refine ⟨_, rfl, a, _, rfl, SqL.of (sm _ _ hB), for_en (D := ⟨_, _, fun _ _ => False, fun _ _ => False⟩) (K := K) (a := a) (xs := L.map vN) (fun p σ H' => ∃ v4 v5 : Option V, ∃ xs : List V, σ = [some (.ref a), some (.ref l), some (vN (cdAt L p (j + 1))), some (vN (j + 1)), v4, v5] ∧ H' l = some (.lst xs) ∧ CL H' xs (row L j p) ∧ Same H H')
        ⟨v4, v5, xs, rfl, hl2, hC, sm⟩ (fun i σ H' _ ⟨_, _, _, _, _, _, e⟩ => SqL.of (e _ _ hB)) ?_ ?_⟩
      · rintro p y t σ H' hp ht ⟨v4, v5, xs, rfl, hl2, hC, sm⟩
        obtain ⟨b, hb1, rfl⟩ := map_get hp
        have hpl : p < L.length := (List.getElem?_eq_some_iff.mp hb1).1
        have st := same_new (o := .tup [vN p, vN b]) ht
        refine ⟨t, _, rfl, SqT.of upd_same, rfl, _, _, rfl, _, _, rfl, rfl, ?_⟩
        refine ⟨_, rfl, _, rfl, rfl, _, rfl, ite2 (fun h1 => ?_) (fun h1 => ?_)⟩
        · have e1 : b = j + 1 := vN_inj.mp (of_decide_eq_true h1)
          rw [e1] at hb1 st ⊢
          refine seq_g fun R3 g3 => ?_
          refine ⟨_, rfl, _, rfl, (by show 2 ≤ sizeLine; decide), fun q nq => ?_⟩
          have sq := same_new (o := .tup [vN (cdAt L p (j + 1)), vN (j + 1)]) nq
          have hlq := sq _ _ (st _ _ hl2)
          have hCq : CL _ xs (row L j p) := hC.keep fun t ys e => sq _ _ (st _ _ e)
          refine ⟨_, rfl, _, rfl, l, xs, _, p, rfl, rfl, hlq, ixN_nat (by rw [hC.1, row_length]; exact hpl), g3 _ _ ?_⟩
          clear g3
          refine ⟨_, rfl, _, _, rfl, rfl, ?_⟩
          have ec2 : ((cdAt L p (j + 1) : Nat) : Int) + 1 = ((cdAt L (p + 1) (j + 1) : Nat) : Int) := by rw [code_hit hb1]; omega
          try dsimp only
          rw [ec2]
          refine ⟨some (vN p), some (vN (j + 1)), xs.set p (.ref q), rfl, upd_same, ?_, fun c o e => ?_⟩
          · rw [row_hit hb1]
            refine (hCq.set (y := .ref q) (d := some (cdAt L p (j + 1), j + 1)) ⟨q, rfl, upd_same⟩).keep fun t2 ys e => ?_
            rw [upd_ne (ne_of e hlq (by intro z; cases z))]
            exact e
          · rw [upd_ne (ne_of_none e nlH)]
            exact sq _ _ (st _ _ (sm _ _ e))
        · have e1 : L[p]? ≠ some (j + 1) := by
            rw [hb1]
            intro z
            cases z
            exact h1 (decide_eq_true rfl)
          refine ⟨some (vN p), some (vN b), xs, ?_, st _ _ hl2, ?_, sm.trans st⟩
          · rw [code_pass e1]
            rfl
          · rw [row_pass e1]
            exact hC.keep fun t ys e => st _ _ e
      · rintro σ H' ⟨v4, v5, xs, rfl, hl2, hC, sm⟩
        rw [List.length_map] at hC ⊢
        rw [code_end]
        rw [row_next] at hC
        exact ⟨_, _, _, xs, rfl, hl2, hC, sm⟩
    · rintro σ H2 ⟨v3, v4, v5, xs, rfl, hl2, hC, sm⟩
      exact g1 _ _ ⟨_, rfl, k l xs H2 nlH sm hl2 hC⟩
end
end K10.C

set_option Elab.async false
set_option linter.all false
set_option maxRecDepth 100000
set_option maxHeartbeats 4000000
namespace K10.C
open PySem L2 QQ C9
seal PE PA PS PSs PT PW PG PI
section
variable {P : Program} {w : World} {K : PySem.W.Frag} {mg : Str → Option Value} {base : Heap}
def spCell (K : PySem.W.Frag) : Sp := fun vs H Q _ => ∃ (a : Addr) (ns : List Int) (k : Nat), vs = [.ref a, vN k] ∧ SqL K H a (ns.map V.int) ∧ Q (.int (ns.getD k 0)) H
theorem scCell : FnScope ["_law_script", "_law_k"] ["_law_script", "_law_k"] (defScope sCellAt) := ⟨rfl, rfl, rfl, by decide +kernel, rfl, by decide +kernel, by decide +kernel⟩
theorem ok_cell {f : Addr} {fd : FuncData} (F : Fn K mg "_law_cell_at" sCellAt ["_law_script", "_law_k"] f fd) (X : Txt K mg) : FnOk P w K mg base CX0 1 f fd ["_law_script", "_law_k"] (spCell K) := by
  refine F.F.ok scCell (fun vs H Q E h => ?_) (fun cdv A outer st H vs Q E hr h => ?_)
  · obtain ⟨a, ns, k, rfl, _⟩ := h
    rfl
  · obtain ⟨a, ns, k, rfl, hS, q⟩ := h
    refine ⟨_, pss_cons (ps_if (pt_cmpR op_lt (pv 1) (pe_callB call_len_seq (by rfl) X.len PySem.boot_len (pa_cons (pv 0) pa_nil)) (nomark _)) (pss_one (ps_ret (pe_ix ix_list (pv 0) (pv 1) (fun _ _ => rfl)))) pss_nil)
      (pss_one (ps_ret pe_int)), ?_⟩
    refine ⟨_, rfl, _, rfl, a, _, rfl, .inl hS, _, _, rfl, rfl, _, rfl, ?_⟩
    refine ite2 (fun h1 => ?_) (fun h1 => ?_)
    · have h2 : k < ns.length := by have := of_decide_eq_true h1; rw [List.length_map] at this; omega
      refine ⟨_, rfl, _, rfl, a, _, _, V.int (ns.getD k 0), rfl, rfl, hS, atI_nat ?_, q⟩
      rw [List.getElem?_map, List.getElem?_eq_getElem h2, List.getD_eq_getElem?_getD, List.getElem?_eq_getElem h2]
      rfl
    · have h1' : decide ((k : Int) < ((ns.map V.int).length : Int)) ≠ true := h1
      have h2 : ns.length ≤ k := by
        rw [List.length_map] at h1'
        by_cases h : (k : Int) < (ns.length : Int)
        · exact absurd (decide_eq_true h) h1'
        · omega
      try dsimp only
      rw [List.getD_eq_getElem?_getD, List.getElem?_eq_none h2] at q
      exact q
def spMixed : Sp := fun vs H Q _ => ∃ (c k : Int), vs = [.int c, .int k] ∧ 0 ≤ k ∧ k ≤ 1000 ∧ ∀ n : Nat, Q (vN n) H
theorem scMixed : FnScope ["_law_cell", "_law_k"] ["_law_cell", "_law_k"] (defScope sMixed) := ⟨rfl, rfl, rfl, by decide +kernel, rfl, by decide +kernel, by decide +kernel⟩
theorem ok_mixed {f : Addr} {fd : FuncData} (F : Fn K mg "_law_mixed" sMixed ["_law_cell", "_law_k"] f fd) : FnOk P w K mg base CX0 1 f fd ["_law_cell", "_law_k"] spMixed := by
  refine F.F.ok scMixed (fun vs H Q E h => ?_) (fun cdv A outer st H vs Q E hr h => ?_)
  · obtain ⟨c, k, rfl, _⟩ := h
    rfl
  · obtain ⟨c, k, rfl, h0, h1, q⟩ := h
    refine ⟨_, pss_one (ps_ret (pe_op op_mod (pe_op op_mul (pe_op op_mod (pe_op op_mul (pe_op op_add (pe_op op_add (pv 0) (pe_op op_mul (pe_op op_mul pe_int (pv 1)) (pv 1))) (pe_op op_mul pe_int (pv 1))) pe_int) pe_int) pe_int) pe_int)), ?_⟩
    refine ⟨_, rfl, _, rfl, _, _, rfl, rfl, .inl ⟨by decide, by decide⟩, _, rfl, _, _, rfl, rfl, .inr ⟨by omega, by omega⟩, _, _, rfl, rfl, _, rfl, _, _, rfl, rfl, .inl ⟨by decide, by decide⟩, _, _, rfl, rfl, ?_⟩
    refine ⟨_, _, rfl, rfl, .inr ⟨by decide, by decide⟩, _, _, rfl, rfl, (by show (0 : Int) < 2147483647; decide), _, _, rfl, rfl, .inr ⟨by decide, by decide⟩, _, _, rfl, rfl, (by show (0 : Int) < 2147483629; decide), ?_⟩
    try dsimp only
    generalize (c + 7919 * k * k + 104729 * k) * 48271 % 2147483647 * 69621 = z
    have e : z % 2147483629 = (((z % 2147483629).toNat : Nat) : Int) := (Int.toNat_of_nonneg (Int.emod_nonneg _ (by decide))).symm
    rw [e]
    exact q _
def spLCodes : Sp := fun vs H Q _ => ∃ (a : Addr) (L : List Nat), vs = [.ref a] ∧ H a = some (.lst (L.map vN)) ∧ L.length ≤ 300 ∧ ∀ l xs H', H l = none → Same H H' → H' l = some (.lst xs) → CL H' xs (codes L) → Q (.ref l) H'
abbrev nLCodes : List Str := ["_law_lengths_here", "_law_found", "_law_code", "_law_length", "_law_place"]
theorem scLCodes : FnScope nLCodes ["_law_lengths_here"] (defScope sLCodes) := ⟨rfl, rfl, rfl, by decide +kernel, rfl, by decide +kernel, by decide +kernel⟩
theorem ok_lcodes {f : Addr} {fd : FuncData} (F : Fn K mg "_law_codes" sLCodes ["_law_lengths_here"] f fd) (T : Txt K mg) : FnOk P w K mg base CX0 1 f fd ["_law_lengths_here"] spLCodes := by
  refine F.F.ok scLCodes (fun vs H Q E h => ?_) (fun cdv A outer st H vs Q E hr h => ?_)
  · obtain ⟨a, L, rfl, _⟩ := h
    rfl
  · obtain ⟨a, L, rfl, hB, hl3, k⟩ := h
    refine ⟨_, pss_cons (ps_set (i := 1) scLCodes.nd rfl (Or.inl rfl) (pe_op op_rep (pe_lst (pa_cons pe_non pa_nil)) (pe_callB call_len_seq (by rfl) T.len PySem.boot_len (pa_cons (pv 0) pa_nil))))
      (pss_cons (ps_set (i := 2) scLCodes.nd rfl (Or.inl rfl) pe_int)
      (pss_cons (ps_for PassesOwn.never rfl (pi_range2 (by rfl) T.range (pa_cons pe_int (pa_cons pe_int pa_nil))) (pg_name (i := 3) scLCodes.nd rfl (Or.inl rfl))
        (pss_cons (ps_set (i := 2) scLCodes.nd rfl (Or.inl rfl) (pe_op op_mul (pv 2) pe_int))
        (pss_one (ps_for PassesOwn.never rfl (pi_range1 (by rfl) T.range (pa_cons (pe_callB call_len_seq (by rfl) T.len PySem.boot_len (pa_cons (pv 0) pa_nil)) pa_nil)) (pg_name (i := 4) scLCodes.nd rfl (Or.inl rfl))
          (pss_one (ps_if (pt_cmpR op_eq (pe_ix ix_list (pv 0) (pv 4) (fun _ _ => rfl)) (pv 3) (nomark _))
            (pss_cons (ps_asg (pe_tup (pa_cons (pv 2) (pa_cons (pv 3) pa_nil))) (pg_sub (pv 1) (pv 4) set_list))
            (pss_one (ps_set (i := 2) scLCodes.nd rfl (Or.inl rfl) (pe_op op_add (pv 2) pe_int)))) pss_nil))))))
      (pss_one (ps_ret (pv 1))))), ?_⟩
    refine seq_g fun R1 g1 => ?_
    refine ⟨(by show 1 ≤ sizeLine; decide), fun l0 n0 => ?_⟩
    have s2 := same_new (o := .lst [.non]) n0
    refine ⟨_, rfl, a, _, rfl, .inl (SqL.of (s2 _ _ hB)), l0, _, _, rfl, rfl, upd_same, by omega, by rw [List.length_map]; omega, (by rw [List.length_map, Int.toNat_natCast]; exact sl2000 (by show 1 * _ ≤ _; omega)), fun l nl => g1 _ _ ?_⟩
    clear g1
    have s3 := same_new (o := .lst (List.replicate L.length V.non)) nl
    have ez : (List.replicate (((L.map vN).length : Nat) : Int).toNat [V.non]).flatten = List.replicate L.length V.non := by rw [List.length_map, Int.toNat_natCast, rep_one]
    try dsimp only
    rw [ez]
    have hl1 : (upd (upd H l0 (.lst [.non])) l (.lst (List.replicate L.length V.non))) l = some (.lst (List.replicate L.length V.non)) := upd_same
    have nlH : H l = none := none_of s2 nl
    have s03 := s2.trans s3
    generalize upd (upd H l0 (.lst [.non])) l (.lst (List.replicate L.length V.non)) = H3 at *
    refine seq_g fun R1 g1 => g1 _ _ ?_
    clear g1
    refine seq_g fun R1 g1 => ?_
    refine ⟨1, 13, rfl, ⟨by omega, by omega, by omega, by omega⟩, ?_⟩
    have en : ((13 : Int) - 1).toNat = 12 := by decide
    try dsimp only
    rw [en]
    refine for_range (D := ⟨_, _, fun _ _ => False, fun _ _ => False⟩) (lo := 1) (n := 12) (fun j σ H2 => ∃ v3 v4 : Option V, ∃ xs : List V, σ = [some (.ref a), some (.ref l), some (vN (ed L j)), v3, v4] ∧ H2 l = some (.lst xs) ∧ CL H2 xs (row L j 0) ∧ Same H H2) ⟨none, none, _, rfl, hl1, by rw [row_zero]; exact CL.none _ _, s03⟩ ?_ ?_
    · clear g1 hl1 s03 s3 nl
      rintro j σ H2 hj ⟨v3, v4, xs, rfl, hl2, hC, sm⟩
      have eb : (1 : Int) + ((j : Nat) : Int) = ((j + 1 : Nat) : Int) := by omega
      try dsimp only
      rw [eb]
      refine seq_g fun R2 g2 => ?_
      refine ⟨_, rfl, _, _, rfl, rfl, .inr ⟨by decide, by decide⟩, g2 _ _ ?_⟩
      clear g2
      have ec : ((ed L j : Nat) : Int) * 2 = ((cdAt L 0 (j + 1) : Nat) : Int) := by
        rw [cd_zero]
        omega
      try dsimp only
      rw [ec]
      refine ⟨_, rfl, a, _, rfl, .inl (SqL.of (sm _ _ hB)), ((L.length : Nat) : Int), by rw [List.length_map], by omega, by omega, ?_⟩
      try dsimp only
      rw [Int.toNat_natCast]
      refine for_range (D := ⟨_, _, fun _ _ => False, fun _ _ => False⟩) (lo := 0) (n := L.length) (fun p σ H' => ∃ v4 : Option V, ∃ xs : List V, σ = [some (.ref a), some (.ref l), some (vN (cdAt L p (j + 1))), some (vN (j + 1)), v4] ∧ H' l = some (.lst xs) ∧ CL H' xs (row L j p) ∧ Same H H')
        ⟨v4, xs, rfl, hl2, hC, sm⟩ ?_ ?_
      · rintro p σ H' hp ⟨v4, xs, rfl, hl2, hC, sm⟩
        have ep : (0 : Int) + ((p : Nat) : Int) = ((p : Nat) : Int) := by omega
        try dsimp only
        rw [ep]
        have hb1 : L[p]? = some L[p] := List.getElem?_eq_getElem hp
        refine ⟨_, rfl, _, rfl, a, _, _, _, rfl, rfl, SqL.of (sm _ _ hB), atI_nat (get_vN hp), _, rfl, rfl, _, rfl, ite2 (fun h1 => ?_) (fun h1 => ?_)⟩
        · have e1 : L[p] = j + 1 := vN_inj.mp (of_decide_eq_true h1)
          rw [e1] at hb1
          refine seq_g fun R3 g3 => ?_
          refine ⟨_, rfl, _, rfl, (by show 2 ≤ sizeLine; decide), fun q nq => ?_⟩
          have sq := same_new (o := .tup [vN (cdAt L p (j + 1)), vN (j + 1)]) nq
          have hlq := sq _ _ hl2
          have hCq : CL _ xs (row L j p) := hC.keep fun t ys e => sq _ _ e
          refine ⟨_, rfl, _, rfl, l, xs, _, p, rfl, rfl, hlq, ixN_nat (by rw [hC.1, row_length]; exact hp), g3 _ _ ?_⟩
          clear g3
          refine ⟨_, rfl, _, _, rfl, rfl, ?_⟩
          have ec2 : ((cdAt L p (j + 1) : Nat) : Int) + 1 = ((cdAt L (p + 1) (j + 1) : Nat) : Int) := by rw [code_hit hb1]; omega
          try dsimp only
          rw [ec2]
          refine ⟨some (vN p), xs.set p (.ref q), rfl, upd_same, ?_, fun c o e => ?_⟩
          · rw [row_hit hb1]
            refine (hCq.set (y := .ref q) (d := some (cdAt L p (j + 1), j + 1)) ⟨q, rfl, upd_same⟩).keep fun t2 ys e => ?_
            rw [upd_ne (ne_of e hlq (by intro z; cases z))]
            exact e
          · rw [upd_ne (ne_of_none e nlH)]
            exact sq _ _ (sm _ _ e)
        · have e1 : L[p]? ≠ some (j + 1) := by
            rw [hb1]
            intro z
            exact h1 (decide_eq_true (vN_inj.mpr (Option.some.inj z)))
          refine ⟨some (vN p), xs, ?_, hl2, ?_, sm⟩
          · rw [code_pass e1]
            rfl
          · rw [row_pass e1]
            exact hC
      · rintro σ H' ⟨v4, xs, rfl, hl2, hC, sm⟩
        rw [code_end]
        rw [row_next] at hC
        exact ⟨_, _, xs, rfl, hl2, hC, sm⟩
    · rintro σ H2 ⟨v3, v4, xs, rfl, hl2, hC, sm⟩
      exact g1 _ _ ⟨_, rfl, k l xs H2 nlH sm hl2 hC⟩
end
theorem two_at {m : Nat} {c : Bool} : atI [V.int 0, vN m] (if c = true then (1 : Int) else 0) = some (vN (if c = true then m else 0)) := by
  cases c with
  | true => exact atI_nat (j := 1) rfl
  | false => exact atI_nat (j := 0) rfl
theorem int_count (L : List Nat) : (L.map fun b => ((b : Nat) : Int)).count 0 = L.count 0 := by
  induction L with
  | nil => rfl
  | cons a L ih =>
    rw [List.map_cons, List.count_cons, List.count_cons, ih]
    congr 1
    by_cases h : a = 0
    · subst h; rfl
    · have : ((a : Nat) : Int) ≠ 0 := by omega
      simp [h]
theorem all_zero {L : List Nat} (h : L.count 0 = L.length) : L = List.replicate L.length 0 := by
  have := List.count_eq_length.mp h
  exact List.eq_replicate_iff.mpr ⟨rfl, fun b hb => (this b hb).symm⟩
theorem one_good {n j v : Nat} (h1 : 1 ≤ n) (h3 : n ≤ 300) (hj : j < n) (v1 : 1 ≤ v) (v2 : v ≤ 12) : Good ((List.replicate n 0).set j v) := by
  have e : (List.replicate n 0).set j v = List.replicate j 0 ++ ([v] ++ List.replicate (n - j - 1) 0) := by
    rw [List.set_eq_take_append_cons_drop, if_pos (by simpa using hj), List.take_replicate, List.drop_replicate]
    rw [Nat.min_eq_left (by omega)]
    simp
    omega
  have z : ∀ k, krf 12 (List.replicate k 0) = 0 := fun k => by
    unfold krf
    rw [List.filter_eq_nil_iff.mpr fun a ha => by rw [(List.mem_replicate.mp ha).2]; simp]
    rfl
  rw [e]
  refine ⟨by simp; omega, by simp; omega, fun l hl => ?_, ⟨v, by simp, by omega⟩, ?_⟩
  · rcases List.mem_append.mp hl with h | h
    · rw [(List.mem_replicate.mp h).2]; omega
    · rcases List.mem_append.mp h with h | h
      · simp at h; omega
      · rw [(List.mem_replicate.mp h).2]; omega
  · rw [krf_app, krf_app, z, z]
    have e2 : krf 12 [v] = 2 ^ (12 - v) := by
      unfold krf
      have : 0 < v := by omega
      simp [this]
    rw [e2]
    have : 2 ^ (12 - v) ≤ 2 ^ 12 := Nat.pow_le_pow_right (by decide) (by omega)
    omega
section
variable {P : Program} {w : World} {K : PySem.W.Frag} {mg : Str → Option Value} {base : Heap}
/-! ### _law_lengths -/
def spLengths (K : PySem.W.Frag) : Sp := fun vs H Q _ => ∃ (a : Addr) (ns : List Int) (f0 n m : Nat), vs = [.ref a, vN f0, vN n, vN m] ∧ SqL K H a (ns.map V.int) ∧ 1 ≤ n ∧ n ≤ 300 ∧ 1 ≤ m ∧ m ≤ 12 ∧ ∀ (l : Addr) (L : List Nat) (H' : Hp), H l = none → Same H H' → H' l = some (.lst (L.map vN)) → Good L → Q (.ref l) H'
abbrev nLengths : List Str := ["_law_script", "_law_first", "_law_many", "_law_most", "_law_room", "_law_lengths_here", "_law_k", "_law_number", "_law_length"]
theorem scLengths : FnScope nLengths ["_law_script", "_law_first", "_law_many", "_law_most"] (defScope sLengths) := ⟨rfl, rfl, rfl, by decide +kernel, rfl, by decide +kernel, by decide +kernel⟩
theorem shl_nat (d : Nat) : (1 : Int) * 2 ^ ((d : Nat) : Int).toNat = ((2 ^ d : Nat) : Int) := by rw [Int.toNat_natCast, Int.one_mul]; simp
theorem ok_lengths {f fC fM : Addr} {fd fdC fdM : FuncData} (F : Fn K mg "_law_lengths" sLengths ["_law_script", "_law_first", "_law_many", "_law_most"] f fd) (Ce : Fn K mg "_law_cell_at" sCellAt ["_law_script", "_law_k"] fC fdC) (Mi : Fn K mg "_law_mixed" sMixed ["_law_cell", "_law_k"] fM fdM) (T : Txt K mg) :
    FnOk P w K mg base CX0 2 f fd ["_law_script", "_law_first", "_law_many", "_law_most"] (spLengths K) := by
  have GC := ok_cell (P := P) (w := w) (base := base) Ce T
  have GM := ok_mixed (P := P) (w := w) (base := base) Mi
  refine F.F.ok scLengths (fun vs H Q E h => ?_) (fun cdv A outer st H vs Q E hr h => ?_)
  · obtain ⟨a, ns, f0, n, m, rfl, _⟩ := h
    rfl
  · obtain ⟨a, ns, f0, n, m, rfl, hS, hn1, hn3, hm1, hm2, k⟩ := h
    refine ⟨_, pss_cons (ps_set (i := 4) scLengths.nd rfl (Or.inl rfl) (pe_op op_shl pe_int (pv 3)))
      (pss_cons (ps_set (i := 5) scLengths.nd rfl (Or.inl rfl) (pe_lst pa_nil))
      (pss_cons (ps_for PassesOwn.never rfl (pi_range1 (by rfl) T.range (pa_cons (pv 2) pa_nil)) (pg_name (i := 6) scLengths.nd rfl (Or.inl rfl))
        (pss_cons (ps_set (i := 7) scLengths.nd rfl (Or.inl rfl) (pe_call GM hr (by rfl) Mi.m Mi.F.kp Mi.b .nil pass0 (pa_cons (pe_call GC hr (by rfl) Ce.m Ce.F.kp Ce.b .nil pass0 (pa_cons (pv 0) (pa_cons (pe_op op_add (pv 1) (pe_op op_mod (pv 6) pe_int)) pa_nil))) (pa_cons (pv 6) pa_nil))))
        (pss_cons (ps_set (i := 8) scLengths.nd rfl (Or.inl rfl) (pe_op op_mod (pe_op op_fdiv (pv 7) pe_int) (pe_op op_add (pv 3) pe_int)))
        (pss_cons (ps_if (pt_cmpR op_eq (pe_op op_mod (pv 7) pe_int) pe_int (nomark _)) (pss_one (ps_set (i := 8) scLengths.nd rfl (Or.inl rfl) pe_int)) pss_nil)
        (pss_cons (ps_if (PW.pt (pw_and (pt_cmpR op_gt (pv 8) pe_int (nomark _)) (pw_and1 (pt_cmpR op_gt (pe_op op_shl pe_int (pe_op op_sub (pv 3) (pv 8))) (pv 4) (nomark _)))))
          (pss_one (ps_set (i := 8) scLengths.nd rfl (Or.inl rfl) (pe_ix ix_list (pe_lst (pa_cons pe_int (pa_cons (pv 3) pa_nil))) (pe_callTy call_int1 (by rfl) T.int PyProof.Rows.boot_int (pa_cons (pe_cmpR op_gt (pv 4) pe_int (nomark _)) pa_nil)) (fun _ _ => rfl)))) pss_nil)
        (pss_cons (ps_if (pt_cmpR op_gt (pv 8) pe_int (nomark _)) (pss_one (ps_set (i := 4) scLengths.nd rfl (Or.inl rfl) (pe_op op_sub (pv 4) (pe_op op_shl pe_int (pe_op op_sub (pv 3) (pv 8)))))) pss_nil)
        (pss_one (ps_expr (pe_bm PySem.F.plainAttrs_list PySem.F.slot_list_append PySem.F.type_list_append mt_append (pv 5) (pa_cons (pv 8) pa_nil))))))))))
      (pss_cons (ps_if (pt_cmpR op_eq (pe_bm PySem.F.plainAttrs_list PySem.F.slot_list_count PySem.F.type_list_count mt_count (pv 5) (pa_cons pe_int pa_nil)) (pv 2) (nomark _))
        (pss_one (ps_asg (pe_op op_add pe_int (pe_op op_mod (pe_call GC hr (by rfl) Ce.m Ce.F.kp Ce.b .nil pass0 (pa_cons (pv 0) (pa_cons (pv 1) pa_nil))) (pv 3))) (pg_sub (pv 5) (pe_op op_mod (pe_call GC hr (by rfl) Ce.m Ce.F.kp Ce.b .nil pass0 (pa_cons (pv 0) (pa_cons (pv 1) pa_nil))) (pv 2)) set_list))) pss_nil)
      (pss_one (ps_ret (pv 5)))))), ?_⟩
    refine seq_g fun R1 g1 => ?_
    refine ⟨_, rfl, _, _, rfl, rfl, ⟨by omega, by omega, by decide⟩, g1 _ _ ?_⟩
    clear g1
    try dsimp only
    rw [shl_nat]
    refine seq_g fun R1 g1 => ?_
    refine ⟨(by show 0 ≤ sizeLine; decide), fun l nl => g1 _ _ ?_⟩
    clear g1
    have s1 := same_new (o := .lst []) nl
    refine seq_g fun R1 g1 => ?_
    refine ⟨_, rfl, ((n : Nat) : Int), rfl, by omega, by omega, ?_⟩
    try dsimp only
    rw [Int.toNat_natCast]
    refine for_range (D := ⟨_, _, fun _ _ => False, fun _ _ => False⟩) (lo := 0) (n := n) (fun i σ H2 => ∃ (r : Nat) (L : List Nat) (v6 v7 v8 : Option V), σ = [some (.ref a), some (vN f0), some (vN n), some (vN m), some (vN r), some (.ref l), v6, v7, v8] ∧ H2 l = some (.lst (L.map vN)) ∧ L.length = i ∧ (∀ b ∈ L, b ≤ m) ∧ krf m L + r = 2 ^ m ∧ Same H H2)
      ⟨2 ^ m, [], none, none, none, rfl, upd_same, rfl, (fun b hb => nomatch hb), (by rw [krf_nil]; omega), s1⟩ ?_ ?_
    · clear g1 s1
      rintro i σ H2 hi ⟨r, L, v6, v7, v8, rfl, hl2, hlen, hLm, hK, sm⟩
      have ei : (0 : Int) + ((i : Nat) : Int) = ((i : Nat) : Int) := by omega
      try dsimp only
      rw [ei]
      have hS2 : SqL K H2 a (ns.map V.int) := sm.seq hS
      refine seq_g fun R2 g2 => ?_
      refine ⟨_, rfl, _, rfl, _, rfl, _, _, rfl, rfl, (by show (0 : Int) < 20; decide), _, _, rfl, rfl, a, ns, f0 + i % 20, ?_, hS2, _, rfl, _, _, rfl, by omega, by omega, fun nb => g2 _ _ ?_⟩
      · show [V.ref a, V.int (((f0 : Nat) : Int) + ((i : Nat) : Int) % 20)] = _
        rw [show (((f0 : Nat) : Int) + ((i : Nat) : Int) % 20) = ((f0 + i % 20 : Nat) : Int) by omega]
      clear g2
      refine seq_g fun R2 g2 => ?_
      refine ⟨_, rfl, _, _, rfl, rfl, ⟨by decide, by decide⟩, _, rfl, _, _, rfl, rfl, _, _, rfl, rfl, by omega, g2 _ _ ?_⟩
      clear g2
      have el : ((nb : Nat) : Int) / 5 % (((m : Nat) : Int) + 1) = ((nb / 5 % (m + 1) : Nat) : Int) := by simp
      try dsimp only
      rw [el]
      have hlm : nb / 5 % (m + 1) ≤ m := by have := Nat.mod_lt (nb / 5) (show 0 < m + 1 by omega); omega
      generalize nb / 5 % (m + 1) = ln at *
      refine seq_g fun R2 g2 => ?_
      have J : ∀ ln : Nat, ln ≤ m → R2 [some (.ref a), some (vN f0), some (vN n), some (vN m), some (vN r), some (.ref l), some (vN i), some (vN nb), some (vN ln)] H2 := fun ln hln => by
        refine g2 _ _ ?_
        clear g2
        refine seq_g fun R3 g3 => ?_
        have J2 : ∀ (ln : Nat) (H3 : Hp), Same H2 H3 → ln ≤ m → (ln = 0 ∨ 2 ^ (m - ln) ≤ r) → R3 [some (.ref a), some (vN f0), some (vN n), some (vN m), some (vN r), some (.ref l), some (vN i), some (vN nb), some (vN ln)] H3 := fun ln H3 s3 hln hfit => by
          refine g3 _ _ ?_
          clear g3
          refine seq_g fun R4 g4 => ?_
          have J3 : ∀ r' : Nat, krf m (L ++ [ln]) + r' = 2 ^ m → R4 [some (.ref a), some (vN f0), some (vN n), some (vN m), some (vN r'), some (.ref l), some (vN i), some (vN nb), some (vN ln)] H3 := fun r' hr' => by
            refine g4 _ _ ?_
            clear g4
            refine ⟨_, rfl, .inl ⟨rfl, _, SqL.of (s3 _ _ hl2)⟩, _, rfl, l, _, _, rfl, rfl, s3 _ _ hl2, sl2000' (by rw [List.length_map]; omega), ?_⟩
            refine ⟨r', L ++ [ln], _, _, _, rfl, ?_, by rw [List.length_append, hlen]; rfl, fun b hb => ?_, hr', fun c o e => ?_⟩
            · rw [upd_same, List.map_append]; rfl
            · rcases List.mem_append.mp hb with h | h
              · exact hLm b h
              · simp at h; omega
            · rw [upd_ne (ne_of_none e nl)]; exact s3 _ _ (sm _ _ e)
          refine ⟨_, rfl, _, _, rfl, rfl, _, rfl, ite2 (fun h0 => ?_) (fun h0 => ?_)⟩
          · have h1 : 0 < ln := by have := of_decide_eq_true h0; omega
            have h2 : 2 ^ (m - ln) ≤ r := by rcases hfit with h | h <;> omega
            refine ⟨_, rfl, _, rfl, _, rfl, _, _, rfl, rfl, _, _, rfl, rfl, ⟨by omega, by omega, by decide⟩, _, _, rfl, rfl, ?_⟩
            have e1 : ((r : Nat) : Int) - 1 * 2 ^ (((m : Nat) : Int) - ((ln : Nat) : Int)).toNat = ((r - 2 ^ (m - ln) : Nat) : Int) := by
              rw [show ((m : Nat) : Int) - ((ln : Nat) : Int) = ((m - ln : Nat) : Int) by omega, shl_nat]
              omega
            try dsimp only
            rw [e1]
            exact J3 _ (by rw [krf_snoc, if_pos h1]; omega)
          · have h1 : ¬ 0 < ln := fun z => h0 (decide_eq_true (by omega))
            exact J3 r (by rw [krf_snoc, if_neg h1]; omega)
        refine ⟨_, rfl, _, _, rfl, rfl, _, rfl, ite2 (fun h0 => ?_) (fun h0 => ?_)⟩
        · have h1 : 0 < ln := by have := of_decide_eq_true h0; omega
          have e1 : (1 : Int) * 2 ^ (((m : Nat) : Int) - ((ln : Nat) : Int)).toNat = ((2 ^ (m - ln) : Nat) : Int) := by
            rw [show ((m : Nat) : Int) - ((ln : Nat) : Int) = ((m - ln : Nat) : Int) by omega, shl_nat]
          refine ⟨_, rfl, _, rfl, _, _, rfl, rfl, _, _, rfl, rfl, ⟨by omega, by omega, by decide⟩, _, rfl, _, _, rfl, rfl, _, rfl, ite2 (fun h2 => ?_) (fun h2 => ?_)⟩
          · refine ⟨_, rfl, (by show 2 ≤ sizeLine; decide), fun q nq => ?_⟩
            have sq := same_new (o := .lst [.int 0, vN m]) nq
            refine ⟨_, rfl, _, _, rfl, rfl, .inr ⟨_, rfl, q, _, _, _, rfl, rfl, SqL.of upd_same, two_at, ?_⟩⟩
            by_cases c : 0 < r
            · have e2 : decide ((0 : Int) < ((r : Nat) : Int)) = true := decide_eq_true (by omega)
              try dsimp only
              rw [e2]
              exact J2 m _ sq (Nat.le_refl _) (.inr (by rw [Nat.sub_self]; omega))
            · have e2 : decide ((0 : Int) < ((r : Nat) : Int)) = false := decide_eq_false (by omega)
              try dsimp only
              rw [e2]
              exact J2 0 _ sq (Nat.zero_le _) (.inl rfl)
          · refine J2 ln _ (Same.refl _) hln (.inr ?_)
            have h3 : ¬ (((r : Nat) : Int) < (1 : Int) * 2 ^ (((m : Nat) : Int) - ((ln : Nat) : Int)).toNat) := fun z => h2 (decide_eq_true z)
            rw [e1] at h3
            omega
        · have h1 : ln = 0 := by
            have : ¬ ((0 : Int) < ((ln : Nat) : Int)) := fun z => h0 (decide_eq_true z)
            omega
          exact iteF (J2 ln _ (Same.refl _) hln (.inl h1))
      refine ⟨_, rfl, _, _, rfl, rfl, (by show (0 : Int) < 5; decide), rfl, _, rfl, ite2 (fun _ => ?_) (fun _ => ?_)⟩
      · exact J 0 (Nat.zero_le _)
      · exact J ln hlm
    · rintro σ H2 ⟨r, L, v6, v7, v8, rfl, hl2, hlen, hLm, hK, sm⟩
      refine g1 _ _ ?_
      clear g1
      have hS2 : SqL K H2 a (ns.map V.int) := sm.seq hS
      refine seq_g fun R1 g1 => ?_
      have hl2' : H2 l = some (.lst ((L.map fun b => ((b : Nat) : Int)).map V.int)) := by rw [← mapI]; exact hl2
      refine ⟨_, rfl, .inl ⟨rfl, _, SqL.of hl2⟩, l, _, 0, rfl, rfl, hl2', _, rfl, rfl, ?_⟩
      try dsimp only
      rw [int_count]
      refine ⟨_, rfl, ite2 (fun h0 => ?_) (fun h0 => ?_)⟩
      · have h1 : L.count 0 = L.length := by have := vN_inj.mp (of_decide_eq_true h0); omega
        have hz := all_zero h1
        rw [hlen] at hz
        obtain ⟨d, hd⟩ : ∃ d : Nat, ns.getD f0 0 % ((m : Nat) : Int) = ((d : Nat) : Int) := ⟨(ns.getD f0 0 % ((m : Nat) : Int)).toNat, (Int.toNat_of_nonneg (Int.emod_nonneg _ (by omega))).symm⟩
        have hdm : d < m := by have := Int.emod_lt_of_pos (ns.getD f0 0) (show (0 : Int) < ((m : Nat) : Int) by omega); omega
        obtain ⟨j, hj⟩ : ∃ j : Nat, ns.getD f0 0 % ((n : Nat) : Int) = ((j : Nat) : Int) := ⟨(ns.getD f0 0 % ((n : Nat) : Int)).toNat, (Int.toNat_of_nonneg (Int.emod_nonneg _ (by omega))).symm⟩
        have hjn : j < n := by have := Int.emod_lt_of_pos (ns.getD f0 0) (show (0 : Int) < ((n : Nat) : Int) by omega); omega
        refine ⟨_, rfl, _, rfl, a, ns, f0, rfl, hS2, _, rfl, _, _, rfl, rfl, by omega, _, _, rfl, rfl, ?_⟩
        try dsimp only
        rw [hd]
        refine ⟨_, rfl, _, rfl, _, rfl, a, ns, f0, rfl, hS2, _, rfl, _, _, rfl, rfl, by omega, ?_⟩
        try dsimp only
        rw [hj]
        refine ⟨l, _, _, j, rfl, rfl, hl2, ixN_nat (by rw [List.length_map]; omega), g1 _ _ ⟨_, rfl, ?_⟩⟩
        have e1 : (1 : Int) + ((d : Nat) : Int) = ((1 + d : Nat) : Int) := by omega
        have e2 : (L.map vN).set j (vN (1 + d)) = (L.set j (1 + d)).map vN := by rw [List.map_set]
        refine k l (L.set j (1 + d)) _ nl (fun c o e => by rw [upd_ne (ne_of_none e nl)]; exact sm _ _ e) ?_ ?_
        · rw [upd_same]
          try dsimp only
          rw [e1, e2]
        · rw [hz]
          exact one_good hn1 hn3 hjn (by omega) (by omega)
      · have h1 : L.count 0 ≠ L.length := fun z => h0 (decide_eq_true (vN_inj.mpr (by omega)))
        refine g1 _ _ ⟨_, rfl, k l L H2 nl sm hl2 ⟨by omega, by omega, fun b hb => Nat.le_trans (hLm b hb) hm2, ?_, ?_⟩⟩
        · apply Classical.byContradiction
          intro hno
          apply h1
          rw [List.count_eq_length]
          intro b hb
          apply Classical.byContradiction
          intro hb0
          exact hno ⟨b, hb, by omega⟩
        · rw [krf_up hm2 L hLm]
          have h4 : krf m L ≤ 2 ^ m := by omega
          have h5 : 2 ^ (12 - m) * krf m L ≤ 2 ^ (12 - m) * 2 ^ m := Nat.mul_le_mul_left _ h4
          rw [← Nat.pow_add, show 12 - m + m = 12 by omega] at h5
          exact h5
end
end K10.C

set_option Elab.async false
set_option linter.all false
set_option maxRecDepth 100000
set_option maxHeartbeats 4000000
namespace K10
open PySem L2 QQ C9 C10
seal PE PA PS PSs PT PW PG PI
theorem u1 {k : Nat} {A : Around} (r : Room k A) : A.units + 1 < cLine := by have := r.un; omega
abbrev kk (a b : Nat) : List Key := [.inl ((a : Nat) : Int), .inl ((b : Nat) : Int)]
theorem kk_inj {a b c d : Nat} : kk a b = kk c d ↔ a = c ∧ b = d := by
  constructor
  · intro h
    injection h with h1 h2
    injection h2 with h2 _
    injection h1 with h1
    injection h2 with h2
    omega
  · rintro ⟨rfl, rfl⟩; rfl
/-! ### a CodeReader's attributes -/
theorem n_tb : ¬ (("things" : Str) = "beginnings") := by decide +kernel
def fC (d e : Addr) : List (Str × V) := [("things", .ref d), ("beginnings", .ref e)]
theorem fC_as (d e : Addr) : putF "beginnings" (.ref e) (putF "things" (.ref d) []) = fC d e := by
  show (if ("things" : Str) = "beginnings" then _ else (("things" : Str), V.ref d) :: [("beginnings", V.ref e)]) = _
  rw [if_neg n_tb]
  rfl
theorem fC_t (d e : Addr) : (fC d e).lookup ("things" : Str) = some (.ref d) := by
  rw [← fC_as, lookup_putF, if_neg n_tb, lookup_putF, if_pos rfl]
theorem fC_b (d e : Addr) : (fC d e).lookup ("beginnings" : Str) = some (.ref e) := by
  rw [← fC_as, lookup_putF, if_pos rfl]
theorem fC_no (d e : Addr) {m : Str} (h1 : ¬ m = "beginnings") (h2 : ¬ m = "things") : (fC d e).lookup m = none := by
  rw [← fC_as, lookup_putF, if_neg h1, lookup_putF, if_neg h2]
  rfl
/-- the dict of the things ahead of place n -/
def ThOk (L : List Nat) (n : Nat) (kvs : List (List Key × V)) : Prop := kvs.length ≤ n ∧ ∀ a b : Nat, (∀ q, q < n → L[q]? = some b → 1 ≤ b → cdAt L q b = a → valV kvs (kk a b) = some (vN q)) ∧ ((∀ q, q < n → L[q]? = some b → 1 ≤ b → cdAt L q b ≠ a) → valV kvs (kk a b) = none)
def BgOk (L : List Nat) (n : Nat) (kvs : List (List Key × V)) : Prop := kvs.length ≤ 12 * n ∧ ∀ a b : Nat, (valV kvs (kk a b)).isSome = true ↔ ∃ q s, q < n ∧ L[q]? = some s ∧ b < s ∧ cdAt L q s / 2 ^ (s - b) = a
/-- a CodeReader of the lengths L stands at p, its dicts at d and e -/
structure CdAt (C : Addr) (H : Hp) (p d e : Addr) (L : List Nat) : Prop where
  ob : ∃ dx, H p = some (.ins C dx (fC d e))
  th : ∃ kvs, H d = some (.dT kvs) ∧ ThOk L L.length kvs
  bg : ∃ kvs, H e = some (.dT kvs) ∧ BgOk L L.length kvs
structure CRc (K : PySem.W.Frag) (mg : Str → Option Value) (C : Addr) : Prop where
  cl : Cls K C
  nT : NoAttr K C "things"
  nB : NoAttr K C "beginnings"
section
variable {P : Program} {w : World} {K : PySem.W.Frag} {mg : Str → Option Value} {base : Heap} {C : Addr}
/-! ### BitReader.go -/
def spGo (C : Addr) : Sp := fun vs H Q _ => ∃ (p d : Addr) (R : List Nat) (t u : Nat), vs = [.ref p, vN u] ∧ ReadAt C H p d R t ∧ u ≤ 8 * R.length ∧
  ∀ H', ReadAt C H' p d R u → (∀ c o, H c = some o → c ≠ p → H' c = some o) → Q .non H'
theorem scGo : FnScope ["self", "place"] ["self", "place"] (defScope sGo) := ⟨rfl, rfl, rfl, by decide +kernel, rfl, by decide +kernel, by decide +kernel⟩
theorem ok_go {f fW' : Addr} {fd fdW : FuncData} (F : Fun K "go" "BitReader.go" sGo f fd) (W : Fn K mg "is_whole" sWhole ["thing", "least", "most"] fW' fdW) (T : CRd K mg C) (X : Txt K mg) :
    FnOk P w K mg base CX0 2 f fd ["self", "place"] (spGo C) := by
  have GW : FnOk P w K mg base CX0 1 fW' fdW ["thing", "least", "most"] spWhole := ok_whole W X
  refine F.ok scGo (fun vs H Q E h => ?_) (fun cdv A outer st H vs Q E hr h => ?_)
  · obtain ⟨p, d, R, t, s, rfl, _⟩ := h
    rfl
  · obtain ⟨p, d, R, t, u, rfl, S0, hu, q⟩ := h
    obtain ⟨⟨dx, hp⟩, hd, hb, ht⟩ := id S0
    have npd : p ≠ d := ne_of hp hd (by intro z; cases z)
    refine ⟨_, pss_cons (ps_if (pt_not (pt_val (pe_call GW hr (by rfl) W.m W.F.kp W.b .nil pass0 (pa_cons (pv 1) (pa_cons pe_int (pa_cons (pe_op op_mul pe_int (pe_callB call_len_seq (by rfl) X.len PySem.boot_len (pa_cons (pe_fld (pv 0) rfl) pa_nil))) pa_nil)))))) (pss_one ps_never) pss_nil)
      (pss_one (ps_fld (pv 0) (pv 1) rfl)), ?_⟩
    refine ⟨_, rfl, _, rfl, p, C, dx, _, _, rfl, hp, T.cl, T.nH, fR_get_h _ _, d, _, rfl, .inl (SqL.of hd), _, _, rfl, rfl, .inl ⟨by decide, by decide⟩, _, _, _, rfl, _, rfl, ?_⟩
    have e1 : (decide ((0 : Int) ≤ (u : Int)) && decide ((u : Int) ≤ 8 * ((R.map vN).length : Int))) = true := by
      rw [decide_eq_true (by omega), decide_eq_true (by rw [List.length_map]; omega)]; rfl
    try dsimp only
    rw [e1]
    refine iteF ⟨_, rfl, _, rfl, p, C, dx, _, rfl, hp, T.cl, T.nT, fR_len _ _, ?_⟩
    try dsimp only
    rw [fR_put]
    refine q _ ⟨⟨dx, upd_same⟩, by rw [upd_ne npd.symm]; exact hd, hb, hu⟩ fun c o e n1 => ?_
    rw [upd_ne n1]
    exact e
/-! ### CodeReader.keep_beginnings -/
def spKeep (C : Addr) : Sp := fun vs H Q _ => ∃ (p d e dx : Addr) (c s : Nat) (kvs : List (List Key × V)), vs = [.ref p, vN c, vN s] ∧ H p = some (.ins C dx (fC d e)) ∧ H e = some (.dT kvs) ∧ kvs.length ≤ 5000 ∧ s ≤ 12 ∧
  ∀ H' kvs', H' e = some (.dT kvs') → kvs'.length ≤ kvs.length + s → (∀ a b : Nat, (valV kvs' (kk a b)).isSome = true ↔ (valV kvs (kk a b)).isSome = true ∨ (b < s ∧ c / 2 ^ (s - b) = a)) →
    (∀ x o, H x = some o → x ≠ e → H' x = some o) → Q .non H'
theorem scKeep : FnScope ["self", "code", "length", "size"] ["self", "code", "length"] (defScope sKeep) := ⟨rfl, rfl, rfl, by decide +kernel, rfl, by decide +kernel, by decide +kernel⟩
theorem ok_keep {f : Addr} {fd : FuncData} (F : Fun K "keep_beginnings" "CodeReader.keep_beginnings" sKeep f fd) (T : CRc K mg C) (X : Txt K mg) : FnOk P w K mg base CX0 1 f fd ["self", "code", "length"] (spKeep C) := by
  refine F.ok scKeep (fun vs H Q E h => ?_) (fun cdv A outer st H vs Q E hr h => ?_)
  · obtain ⟨p, d, e, dx, c, s, kvs, rfl, _⟩ := h
    rfl
  · obtain ⟨p, d, e, dx, c, s, kvs, rfl, hp, he, hl, hs, q⟩ := h
    have npe : p ≠ e := ne_of hp he (by intro z; cases z)
    refine ⟨_, pss_one (ps_for PassesOwn.never rfl (pi_range1 (by rfl) X.range (pa_cons (pv 2) pa_nil)) (pg_name (i := 3) scKeep.nd rfl (Or.inl rfl))
      (pss_one (ps_dput (u1 hr) (pe_fld (pv 0) rfl) (pe_tup (pa_cons (pe_op op_shr (pv 1) (pe_op op_sub (pv 2) (pv 3))) (pa_cons (pv 3) pa_nil))) pe_bl rfl))), ?_⟩
    refine ⟨_, rfl, ((s : Nat) : Int), rfl, by omega, by omega, ?_⟩
    try dsimp only
    rw [Int.toNat_natCast]
    refine for_range (D := ⟨_, _, fun _ _ => False, fun _ _ => False⟩) (lo := 0) (n := s) (fun i σ H2 => ∃ (v : Option V) (kvs' : List (List Key × V)), σ = [some (.ref p), some (vN c), some (vN s), v] ∧ H2 e = some (.dT kvs') ∧ kvs'.length ≤ kvs.length + i ∧
        (∀ a b : Nat, (valV kvs' (kk a b)).isSome = true ↔ (valV kvs (kk a b)).isSome = true ∨ (b < i ∧ c / 2 ^ (s - b) = a)) ∧ ∀ x o, H x = some o → x ≠ e → H2 x = some o)
      ⟨none, kvs, rfl, he, by omega, fun a b => ⟨.inl, fun z => z.elim id fun z => absurd z.1 (by omega)⟩, fun x o e _ => e⟩ ?_ ?_
    · rintro i σ H2 hi ⟨v, kvs', rfl, he2, hl2, hv, oth⟩
      have ei : (0 : Int) + ((i : Nat) : Int) = ((i : Nat) : Int) := by omega
      try dsimp only
      rw [ei]
      have hp2 := oth _ _ hp npe
      refine ⟨_, rfl, p, C, dx, _, _, rfl, hp2, T.cl, T.nB, fC_b _ _, ?_⟩
      refine ⟨_, rfl, _, rfl, _, rfl, _, _, rfl, rfl, _, _, rfl, rfl, (by show (0 : Int) ≤ ((s : Nat) : Int) - ((i : Nat) : Int); omega), _, rfl, (by show 2 ≤ sizeLine; decide), fun t nt => ?_⟩
      have e1 : ((c : Nat) : Int) / 2 ^ (((s : Nat) : Int) - ((i : Nat) : Int)).toNat = ((c / 2 ^ (s - i) : Nat) : Int) := by
        rw [show (((s : Nat) : Int) - ((i : Nat) : Int)).toNat = s - i by omega]
        simp
      try dsimp only
      rw [e1]
      have net : e ≠ t := ne_of_none he2 nt
      refine ⟨e, _, rfl, DPut.t (b := t) (k := kk (c / 2 ^ (s - i)) i) (by rw [upd_ne net]; exact he2) upd_same (Nat.lt_of_le_of_lt (show _ ≤ 6000 by omega) (by decide)), ?_⟩
      refine ⟨_, _, rfl, upd_same, Nat.le_trans (length_putK _ _ _) (by omega), fun a b => ?_, fun x o ex hx => ?_⟩
      · rw [valV_put]
        by_cases c1 : kk a b = kk (c / 2 ^ (s - i)) i
        · rw [if_pos c1]
          obtain ⟨rfl, rfl⟩ := kk_inj.mp c1
          exact ⟨fun _ => .inr ⟨by omega, rfl⟩, fun _ => rfl⟩
        · rw [if_neg c1, hv]
          constructor
          · rintro (z | ⟨z1, z2⟩)
            · exact .inl z
            · exact .inr ⟨by omega, z2⟩
          · rintro (z | ⟨z1, z2⟩)
            · exact .inl z
            · refine .inr ⟨?_, z2⟩
              rcases Nat.lt_or_ge b i with h | h
              · exact h
              · have : b = i := by omega
                subst this
                exact absurd (kk_inj.mpr ⟨z2.symm, rfl⟩) c1
      · have h1 := oth x o ex hx
        rw [upd_ne hx, upd_ne (ne_of_none h1 nt)]
        exact h1
    · rintro σ H2 ⟨v, kvs', rfl, he2, hl2, hv, oth⟩
      exact q _ _ he2 hl2 hv oth
end
end K10

set_option Elab.async false
set_option linter.all false
set_option maxRecDepth 100000
set_option maxHeartbeats 4000000
namespace K10
open PySem L2 QQ C9 C10
seal PE PA PS PSs PT PW PG PI
theorem th_zero (L : List Nat) : ThOk L 0 [] := ⟨Nat.le_refl _, fun a b => ⟨fun q hq => absurd hq (by omega), fun _ => rfl⟩⟩
theorem bg_zero (L : List Nat) : BgOk L 0 [] := by
  refine ⟨Nat.zero_le _, fun a b => ⟨fun h => ?_, fun ⟨q, s, hq, _⟩ => absurd hq (by omega)⟩⟩
  cases h
theorem th_pass {L : List Nat} {n : Nat} {kvs : List (List Key × V)} (h : ThOk L n kvs) (h0 : ∀ s, L[n]? = some s → ¬ 1 ≤ s) : ThOk L (n + 1) kvs := by
  refine ⟨Nat.le_trans h.1 (Nat.le_succ _), fun a b => ⟨fun q hq hb h1 hc => ?_, fun hn => (h.2 a b).2 fun q hq => hn q (by omega)⟩⟩
  rcases Nat.lt_or_ge q n with z | z
  · exact (h.2 a b).1 q z hb h1 hc
  · have : q = n := by omega
    subst this
    exact absurd h1 (h0 b hb)
theorem bg_pass {L : List Nat} {n : Nat} {kvs : List (List Key × V)} (h : BgOk L n kvs) (h0 : ∀ s, L[n]? = some s → ¬ 1 ≤ s) : BgOk L (n + 1) kvs := by
  refine ⟨Nat.le_trans h.1 (by omega), fun a b => (h.2 a b).trans ⟨fun ⟨q, s, hq, r⟩ => ⟨q, s, by omega, r⟩, fun ⟨q, s, hq, h1, h2, h3⟩ => ?_⟩⟩
  rcases Nat.lt_or_ge q n with z | z
  · exact ⟨q, s, z, h1, h2, h3⟩
  · have : q = n := by omega
    subst this
    exact absurd (by omega) (h0 s h1)
theorem th_put {L : List Nat} {n s : Nat} {kvs : List (List Key × V)} (h : ThOk L n kvs) (hs : L[n]? = some s) (h1 : 1 ≤ s) : ThOk L (n + 1) (putK kvs (kk (cdAt L n s) s) (vN n)) := by
  refine ⟨Nat.le_trans (length_putK _ _ _) (by have := h.1; omega), fun a b => ⟨fun q hq hb hb1 hc => ?_, fun hn => ?_⟩⟩
  · rw [valV_put]
    by_cases c : kk a b = kk (cdAt L n s) s
    · obtain ⟨rfl, rfl⟩ := kk_inj.mp c
      rw [if_pos rfl, cd_inj hb hs hc]
    · rw [if_neg c]
      rcases Nat.lt_or_ge q n with z | z
      · exact (h.2 a b).1 q z hb hb1 hc
      · have : q = n := by omega
        subst this
        rw [hs] at hb
        cases hb
        exact absurd (kk_inj.mpr ⟨hc.symm, rfl⟩) c
  · rw [valV_put, if_neg]
    · exact (h.2 a b).2 fun q hq => hn q (by omega)
    · intro c
      obtain ⟨rfl, rfl⟩ := kk_inj.mp c
      exact hn n (by omega) hs h1 rfl
theorem bg_put {L : List Nat} {n s : Nat} {kvs kvs' : List (List Key × V)} (h : BgOk L n kvs) (hs : L[n]? = some s) (hs12 : s ≤ 12) (hl : kvs'.length ≤ kvs.length + s)
    (hv : ∀ a b : Nat, (valV kvs' (kk a b)).isSome = true ↔ (valV kvs (kk a b)).isSome = true ∨ (b < s ∧ cdAt L n s / 2 ^ (s - b) = a)) : BgOk L (n + 1) kvs' := by
  refine ⟨by have := h.1; omega, fun a b => (hv a b).trans ?_⟩
  rw [h.2 a b]
  constructor
  · rintro (⟨q, r, hq, z⟩ | ⟨z1, z2⟩)
    · exact ⟨q, r, by omega, z⟩
    · exact ⟨n, s, by omega, hs, z1, z2⟩
  · rintro ⟨q, r, hq, z1, z2, z3⟩
    rcases Nat.lt_or_ge q n with z | z
    · exact .inl ⟨q, r, z, z1, z2, z3⟩
    · have : q = n := by omega
      subst this
      rw [hs] at z1
      cases z1
      exact .inr ⟨z2, z3⟩
section
variable {P : Program} {w : World} {K : PySem.W.Frag} {mg : Str → Option Value} {base : Heap} {C : Addr}
/-! ### CodeReader.__init__ -/
def spCInit (C : Addr) : Sp := fun vs H Q _ => ∃ (p dx a : Addr) (L : List Nat), vs = [.ref p, .ref a] ∧ H p = some (.ins C dx []) ∧ H a = some (.lst (L.map vN)) ∧ Good L ∧
  ∀ (d e : Addr) (H' : Hp), H d = none → H e = none → CdAt C H' p d e L → (∀ b o, H b = some o → b ≠ p → H' b = some o) → Q .non H'
theorem scCInit : FnScope ["self", "lengths", "place", "pair"] ["self", "lengths"] (defScope sCInit) := ⟨rfl, rfl, rfl, by decide +kernel, rfl, by decide +kernel, by decide +kernel⟩
/-- all that CodeReader's making calls -/
structure Mks (K : PySem.W.Frag) (mg : Str → Option Value) (C : Addr) : Prop where
  X : Txt K mg
  Y : K10.C.Lns K mg
  need : ∃ f fd, Fn K mg "need_lengths" sNeedLen ["lengths"] f fd
  cof : ∃ f fd, Fn K mg "codes_of" sCodesOf ["lengths"] f fd
  keep : ∃ f fd, Me K C "keep_beginnings" "CodeReader.keep_beginnings" sKeep ["self", "code", "length"] f fd
  R : CRc K mg C
theorem ok_cinit {f : Addr} {fd : FuncData} (F : Fun K "__init__" "CodeReader.__init__" sCInit f fd) (M : Mks K mg C) : FnOk P w K mg base CX0 34 f fd ["self", "lengths"] (spCInit C) := by
  obtain ⟨X, Y, ⟨_, _, N⟩, ⟨_, _, O⟩, ⟨_, _, Ke⟩, T⟩ := M
  have GO := K10.C.ok_codesof (P := P) (w := w) (base := base) O N Y
  have GK := ok_keep (P := P) (w := w) (base := base) Ke.F T X
  refine F.ok scCInit (fun vs H Q E h => ?_) (fun cdv A outer st H vs Q E hr h => ?_)
  · obtain ⟨p, dx, a, L, rfl, _⟩ := h
    rfl
  · obtain ⟨p, dx, a, L, rfl, hp, ha, G, q⟩ := h
    have hr1 : Room 1 _ := hr.mono (by decide)
    refine ⟨_, pss_cons (ps_fld (pv 0) pe_dnewT rfl) (pss_cons (ps_fld (pv 0) pe_dnewT rfl)
      (pss_one (ps_for PassesOwn.never rfl (pi_enum (by rfl) Y.X.enum (pa_cons (pe_call GO hr (by rfl) O.m O.F.kp O.b .nil pass0 (pa_cons (pv 1) pa_nil)) pa_nil)) (pg_tup rfl (pgs_cons (pg_name (i := 2) scCInit.nd rfl (Or.inl rfl)) (pgs_cons (pg_name (i := 3) scCInit.nd rfl (Or.inl rfl)) pgs_nil)))
        (pss_one (ps_if (pt_cmp (pc_notN (pv 3)))
          (pss_cons (ps_dput (u1 hr) (pe_fld (pv 0) rfl) (pv 3) (pv 2) rfl)
          (pss_one (ps_expr (pe_meth (pv 0) T.cl Ke.m GK hr1 Ke.b .nil pass0 (pa_cons (pe_ix ix_tup (pv 3) pe_int (fun _ _ => rfl)) (pa_cons (pe_ix ix_tup (pv 3) pe_int (fun _ _ => rfl)) pa_nil)))))) pss_nil))))), ?_⟩
    refine seq_g fun R1 g1 => ?_
    intro d nd
    have npd : p ≠ d := ne_of_none hp nd
    refine ⟨_, rfl, p, C, dx, [], rfl, (by rw [upd_ne npd]; exact hp), T.cl, T.nT, (by show 0 < 1000; decide), g1 _ _ ?_⟩
    clear g1
    refine seq_g fun R1 g1 => ?_
    intro e ne
    have npe : p ≠ e := by
      rintro rfl
      rw [upd_same] at ne
      cases ne
    have nde : d ≠ e := by
      rintro rfl
      rw [upd_ne npd.symm, upd_same] at ne
      cases ne
    refine ⟨_, rfl, p, C, dx, _, rfl, (by rw [upd_ne npe, upd_same]), T.cl, T.nB, (by show 1 < 1000; decide), g1 _ _ ?_⟩
    clear g1
    have neH : H e = none := by
      rw [upd_ne npe.symm, upd_ne nde.symm] at ne
      exact ne
    try dsimp only
    rw [fC_as]
    have kp : ∀ b o, H b = some o → b ≠ p → upd (upd (upd (upd H d (.dT [])) p (.ins C dx (putF "things" (.ref d) []))) e (.dT [])) p (.ins C dx (fC d e)) b = some o := fun b o ez hn => by
      rw [upd_ne hn, upd_ne (ne_of_none ez neH), upd_ne hn, upd_ne (ne_of_none ez nd)]
      exact ez
    have hp0 : upd (upd (upd (upd H d (.dT [])) p (.ins C dx (putF "things" (.ref d) []))) e (.dT [])) p (.ins C dx (fC d e)) p = some (.ins C dx (fC d e)) := upd_same
    have hd0 : upd (upd (upd (upd H d (.dT [])) p (.ins C dx (putF "things" (.ref d) []))) e (.dT [])) p (.ins C dx (fC d e)) d = some (.dT []) := by
      rw [upd_ne npd.symm, upd_ne nde, upd_ne npd.symm, upd_same]
    have he0 : upd (upd (upd (upd H d (.dT [])) p (.ins C dx (putF "things" (.ref d) []))) e (.dT [])) p (.ins C dx (fC d e)) e = some (.dT []) := by
      rw [upd_ne npe.symm, upd_same]
    generalize upd (upd (upd (upd H d (.dT [])) p (.ins C dx (putF "things" (.ref d) []))) e (.dT [])) p (.ins C dx (fC d e)) = H0 at *
    have nap : a ≠ p := ne_of ha hp (by intro z; cases z)
    refine ⟨_, rfl, _, L, rfl, ⟨a, rfl, kp _ _ ha nap, G.most⟩, G, fun l xs H1 nl s1 hl1 hC1 => ?_⟩
    have nlp : l ≠ p := fun z => by rw [z, hp0] at nl; cases nl
    have nld : l ≠ d := fun z => by rw [z, hd0] at nl; cases nl
    have nle : l ≠ e := fun z => by rw [z, he0] at nl; cases nl
    refine ⟨l, _, rfl, SqL.of hl1, for_en (D := ⟨_, _, fun _ _ => False, fun _ _ => False⟩) (K := K) (a := l) (xs := xs) (fun i σ H2 => ∃ (v2 v3 : Option V) (k1 k2 : List (List Key × V)), σ = [some (.ref p), some (.ref a), v2, v3] ∧ H2 p = some (.ins C dx (fC d e)) ∧ H2 d = some (.dT k1) ∧ H2 e = some (.dT k2) ∧ ThOk L i k1 ∧ BgOk L i k2 ∧ H2 l = some (.lst xs) ∧ K10.C.CL H2 xs (codes L) ∧
        ∀ b o, H b = some o → b ≠ p → H2 b = some o) ⟨none, none, [], [], rfl, s1 _ _ hp0, s1 _ _ hd0, s1 _ _ he0, th_zero L, bg_zero L, hl1, hC1, fun b o ez hn => s1 _ _ (kp b o ez hn)⟩ (fun i σ H' _ ⟨_, _, _, _, _, _, _, _, _, _, z, _⟩ => SqL.of z) ?_ ?_⟩
    · rintro i x t σ H2 hx nt ⟨v2, v3, k1, k2, rfl, hp2, hd2, he2, hT, hB, hl2, hC, oth⟩
      have hil : i < (codes L).length := by rw [← hC.1]; exact (List.getElem?_eq_some_iff.mp hx).1
      have hiL : i < L.length := by
        unfold codes at hil
        rwa [row_length] at hil
      have hLle := G.le
      have st := same_new (o := .tup [vN i, x]) nt
      refine ⟨t, _, rfl, SqT.of upd_same, rfl, _, _, rfl, _, _, rfl, rfl, ?_⟩
      have ot := hC.2 i x _ hx (List.getElem?_eq_getElem hil)
      have hpT := st _ _ hp2
      have hdT := st _ _ hd2
      have heT := st _ _ he2
      have hlT := st _ _ hl2
      have hCT : K10.C.CL _ xs (codes L) := hC.keep fun t2 ys ez => st _ _ ez
      have othT : ∀ b o, H b = some o → b ≠ p → upd H2 t (.tup [vN i, x]) b = some o := fun b o ez hn => st _ _ (oth b o ez hn)
      generalize upd H2 t (.tup [vN i, x]) = H3 at *
      cases eo : (codes L)[i] with
      | none =>
        rw [eo] at ot
        have ex : x = .non := ot
        subst ex
        have h0 : ∀ s, L[i]? = some s → ¬ 1 ≤ s := fun s hs h1 => by
          have := codes_of_get G hs h1
          rw [List.getElem?_eq_getElem hil, eo] at this
          cases this
        refine ⟨_, rfl, _, rfl, iteF ?_⟩
        exact ⟨_, _, k1, k2, rfl, hpT, hdT, heT, th_pass hT h0, bg_pass hB h0, hlT, hCT, othT⟩
      | some c =>
        rw [eo] at ot
        have hcs := codes_some G (c := c) (q := i) (by rw [List.getElem?_eq_getElem hil, eo])
        obtain ⟨u, ex, hu⟩ := hC.keep (H' := H3) (fun t2 ys ez => by exact (st _ _ ez)) |>.2 i x _ hx (by rw [List.getElem?_eq_getElem hil, eo])
        subst ex
        refine ⟨_, rfl, _, rfl, iteT ?_⟩
        refine seq_g fun R2 g2 => ?_
        refine ⟨_, rfl, _, rfl, p, C, dx, _, _, rfl, hpT, T.cl, T.nT, fC_t _ _, _, rfl, d, _, rfl, DPut.t (b := u) (k := kk c.1 c.2) hdT hu (Nat.lt_of_le_of_lt (show _ ≤ 300 by have := hT.1; omega) (by decide)), g2 _ _ ?_⟩
        clear g2
        have nud : u ≠ d := ne_of hu hdT (by intro z; cases z)
        have hu4 : upd H3 d (.dT (putK k1 (kk c.1 c.2) (vN i))) u = some (.tup [vN c.1, vN c.2]) := by rw [upd_ne nud]; exact hu
        refine ⟨_, rfl, p, dx, _, rfl, (by rw [upd_ne npd]; exact hpT), fC_no _ _ (by decide +kernel) (by decide +kernel), ?_⟩
        refine ⟨_, rfl, u, _, _, _, rfl, rfl, SqT.of hu4, atI_nat (j := 0) rfl, _, rfl, u, _, _, _, rfl, rfl, SqT.of hu4, atI_nat (j := 1) rfl, ?_⟩
        have hc12 : c.2 ≤ 12 := get_le G hcs.1
        refine ⟨p, d, e, dx, c.1, c.2, k2, rfl, (by rw [upd_ne npd]; exact hpT), (by rw [upd_ne nde.symm]; exact heT), (by have := hB.1; omega), hc12, fun H5 k2' he5 hl5 hv5 oth5 => ?_⟩
        refine ⟨_, _, _, k2', rfl, oth5 _ _ (by rw [upd_ne npd]; exact hpT) npe, oth5 _ _ upd_same nde, he5, ?_, ?_, oth5 _ _ (by rw [upd_ne nld]; exact hlT) nle, ?_, fun b o ez hn => ?_⟩
        · have := th_put hT hcs.1 hcs.2.1
          rw [← hcs.2.2] at this
          exact this
        · refine bg_put hB hcs.1 hc12 hl5 fun a b => ?_
          rw [← hcs.2.2]
          exact hv5 a b
        · refine hCT.keep fun t2 ys ez => ?_
          refine oth5 _ _ ?_ (ne_of ez heT (by intro z; cases z))
          rw [upd_ne (ne_of ez hdT (by intro z; cases z))]
          exact ez
        · have h3 := othT b o ez hn
          refine oth5 _ _ ?_ (ne_of_none ez neH)
          rw [upd_ne (ne_of_none ez nd)]
          exact h3
    · rintro σ H2 ⟨v2, v3, k1, k2, rfl, hp2, hd2, he2, hT, hB, hl2, hC, oth⟩
      have e1 : xs.length = L.length := by rw [hC.1]; unfold codes; rw [row_length]
      rw [e1] at hT hB
      exact q d e H2 nd neH ⟨⟨dx, hp2⟩, ⟨k1, hd2, hT⟩, ⟨k2, he2, hB⟩⟩ oth
end
end K10

set_option Elab.async false
set_option linter.all false
set_option maxRecDepth 100000
set_option maxHeartbeats 4000000
namespace K10
open PySem L2 QQ C9 C10
seal PE PA PS PSs PT PW PG PI
/-! ### the bits of a row -/
def bt (R : List Nat) : List Bool := BP.dig (BP.val R) (8 * R.length)
theorem bt_length (R : List Nat) : (bt R).length = 8 * R.length := BP.dig_length _ _
theorem dig_get (n : Nat) : ∀ (m i : Nat), i < m → (BP.dig n m)[i]? = some (decide (n / 2 ^ (m - 1 - i) % 2 = 1))
  | m + 1, 0, _ => by
    show some _ = some _
    rfl
  | m + 1, i + 1, h => by
    show (BP.dig n m)[i]? = _
    rw [dig_get n m i (by omega), show m + 1 - 1 - (i + 1) = m - 1 - i by omega]
theorem bt_bit {R : List Nat} {t s : Nat} (h : t + s < 8 * R.length) : ∃ b : Bool, ((bt R).drop t).take (s + 1) = ((bt R).drop t).take s ++ [b] ∧ BP.val R / 2 ^ (8 * R.length - (t + s + 1)) % 2 ^ 1 = b.toNat := by
  refine ⟨decide (BP.val R / 2 ^ (8 * R.length - 1 - (t + s)) % 2 = 1), ?_, ?_⟩
  · rw [List.take_add_one, List.getElem?_drop]
    unfold bt
    rw [dig_get _ _ _ h]
    rfl
  · rw [show 8 * R.length - (t + s + 1) = 8 * R.length - 1 - (t + s) by omega, Nat.pow_one]
    have h2 := Nat.mod_lt (BP.val R / 2 ^ (8 * R.length - 1 - (t + s))) (show 0 < 2 by decide)
    by_cases c : BP.val R / 2 ^ (8 * R.length - 1 - (t + s)) % 2 = 1
    · rw [decide_eq_true c, c]; rfl
    · rw [decide_eq_false c]
      show _ = 0
      omega
theorem ReadAt.same {C : Addr} {H H' : Hp} {p d : Addr} {R : List Nat} {t : Nat} (h : ReadAt C H p d R t) (s : Same H H') : ReadAt C H' p d R t := by
  obtain ⟨⟨dx, h1⟩, h2, h3, h4⟩ := h
  exact ⟨⟨dx, s _ _ h1⟩, s _ _ h2, h3, h4⟩
theorem n_th : ¬ (("things" : Str) = "held") := by decide +kernel
theorem cd_rd {C B : Addr} {H : Hp} {p d e r g : Addr} {L R : List Nat} {t : Nat} (h : CdAt C H p d e L) (h' : ReadAt B H r g R t) : p ≠ r ∧ d ≠ r ∧ e ≠ r ∧ p ≠ g ∧ d ≠ g ∧ e ≠ g := by
  obtain ⟨⟨dx, h1⟩, ⟨k1, h2, _⟩, ⟨k2, h3, _⟩⟩ := h
  obtain ⟨⟨dy, r1⟩, r2, _, _⟩ := h'
  refine ⟨ne_of h1 r1 ?_, ne_of h2 r1 (by intro z; cases z), ne_of h3 r1 (by intro z; cases z), ne_of h1 r2 (by intro z; cases z), ne_of h2 r2 (by intro z; cases z), ne_of h3 r2 (by intro z; cases z)⟩
  intro z
  injection z with _ _ z
  unfold fC fR at z
  injection z with z _
  injection z with z _
  exact n_th z
theorem CdAt.keep {C : Addr} {H H' : Hp} {p d e : Addr} {L : List Nat} (h : CdAt C H p d e L) (s : ∀ c o, H c = some o → (c = p ∨ c = d ∨ c = e) → H' c = some o) : CdAt C H' p d e L := by
  obtain ⟨⟨dx, h1⟩, ⟨k1, h2, h2'⟩, ⟨k2, h3, h3'⟩⟩ := h
  exact ⟨⟨dx, s _ _ h1 (.inl rfl)⟩, ⟨k1, s _ _ h2 (.inr (.inl rfl)), h2'⟩, ⟨k2, s _ _ h3 (.inr (.inr rfl)), h3'⟩⟩
theorem CdAt.same {C : Addr} {H H' : Hp} {p d e : Addr} {L : List Nat} (h : CdAt C H p d e L) (s : Same H H') : CdAt C H' p d e L := h.keep fun c o e _ => s _ _ e
theorem CdAt.but {C B : Addr} {H H' : Hp} {p d e r g : Addr} {L R : List Nat} {t : Nat} (h : CdAt C H p d e L) (h' : ReadAt B H r g R t) (s : ∀ c o, H c = some o → c ≠ r → H' c = some o) : CdAt C H' p d e L := by
  obtain ⟨n1, n2, n3, _⟩ := cd_rd h h'
  exact h.keep fun c o ez hc => s c o ez (by rcases hc with rfl | rfl | rfl <;> assumption)
/-- the dict of the beginnings tells of the words that begin a code -/
theorem bg_word {L : List Nat} {kvs : List (List Key × V)} (h : BgOk L L.length kvs) (u : List Bool) : (valV kvs (kk (BP.num u) u.length)).isSome = true ↔ Beg L u := by
  rw [h.2]
  constructor
  · rintro ⟨q, s, _, h1, h2, h3⟩; exact ⟨q, s, h1, h2, h3⟩
  · rintro ⟨q, s, h1, h2, h3⟩; exact ⟨q, s, (List.getElem?_eq_some_iff.mp h1).1, h1, h2, h3⟩
theorem th_word {L : List Nat} {kvs : List (List Key × V)} (h : ThOk L L.length kvs) (u : List Bool) : (∀ q, IsCode L u q → valV kvs (kk (BP.num u) u.length) = some (vN q)) ∧ ((∀ q, ¬ IsCode L u q) → valV kvs (kk (BP.num u) u.length) = none) := by
  refine ⟨fun q ⟨h1, h2, h3⟩ => (h.2 _ _).1 q (List.getElem?_eq_some_iff.mp h1).1 h1 h2 h3, fun hn => (h.2 _ _).2 fun q _ h1 h2 h3 => hn q ⟨h1, h2, h3⟩⟩
section
variable {P : Program} {w : World} {K : PySem.W.Frag} {mg : Str → Option Value} {base : Heap} {C B cP cN cB : Addr}
/-- the error classes of the reading -/
structure Er2 (K : PySem.W.Frag) (mg : Str → Option Value) (cN cB : Addr) : Prop where
  mN : mg "NoBits" = some (.ref cN)
  xN : ExC K cN
  mB : mg "BadCode" = some (.ref cB)
  xB : ExC K cB
/-- all that reading calls of a BitReader -/
structure Rds (K : PySem.W.Frag) (mg : Str → Option Value) (B : Addr) : Prop where
  X : Txt K mg
  whole : ∃ f fd, Fn K mg "is_whole" sWhole ["thing", "least", "most"] f fd
  size : ∃ f fd, Fn K mg "need_size" sNeedSize ["size"] f fd
  ones : ∃ f fd, Fn K mg "ones" sOnes ["size"] f fd
  bits : ∃ f fd, Fn K mg "bits_at" sBitsAt ["row", "place", "size"] f fd
  take : ∃ f fd, Me K B "take" "BitReader.take" sTake ["self", "size"] f fd
  left : ∃ f fd, Me K B "left" "BitReader.left" sLeft ["self"] f fd
  place : ∃ f fd, Me K B "place" "BitReader.place" sPlace ["self"] f fd
  go : ∃ f fd, Me K B "go" "BitReader.go" sGo ["self", "place"] f fd
  R : CRd K mg B
/-! ### CodeReader.thing -/
def ResK (B : Addr) (H : Hp) (r g : Addr) (R : List Nat) (t : Nat) (Q : VK) (E : XK) (cN cB : Addr) : Res → Prop
  | .thing q s => ∀ H', ReadAt B H' r g R (t + s) → (∀ c o, H c = some o → c ≠ r → H' c = some o) → Q (vN q) H'
  | .bad => ∀ H', ReadAt B H' r g R t → (∀ c o, H c = some o → c ≠ r → H' c = some o) → E (.ref cB) none H'
  | .none => ∀ H', ReadAt B H' r g R t → (∀ c o, H c = some o → c ≠ r → H' c = some o) → E (.ref cN) none H'
def spThing (C B cN cB : Addr) : Sp := fun vs H Q E => ∃ (p d e r g : Addr) (L R : List Nat) (t : Nat) (res : Res), vs = [.ref p, .ref r] ∧ CdAt C H p d e L ∧ Good L ∧ ReadAt B H r g R t ∧ Due L ((bt R).drop t) res ∧ ResK B H r g R t Q E cN cB res
abbrev nThing : List Str := ["self", "reader", "begin", "code", "size"]
theorem scThing : FnScope nThing ["self", "reader"] (defScope sThing) := ⟨rfl, rfl, rfl, by decide +kernel, rfl, by decide +kernel, by decide +kernel⟩
theorem ok_thing {f : Addr} {fd : FuncData} (F : Fun K "thing" "CodeReader.thing" sThing f fd) (T : CRc K mg C) (D : Rds K mg B) (Z : Er2 K mg cN cB) : FnOk P w K mg base (CXE P w) 31 f fd ["self", "reader"] (spThing C B cN cB) := by
  obtain ⟨X, ⟨_, _, W⟩, ⟨_, _, S⟩, ⟨_, _, O⟩, ⟨_, _, Bi⟩, ⟨_, _, Ta⟩, ⟨_, _, Le⟩, ⟨_, _, Pl⟩, ⟨_, _, Go⟩, TB⟩ := D
  have GT := ok_take (P := P) (w := w) (base := base) Ta.F S W Bi O Le TB X
  have GL := ok_left (P := P) (w := w) (base := base) Le.F TB X
  have GP := ok_place (P := P) (w := w) (base := base) Pl.F TB
  have GG := ok_go (P := P) (w := w) (base := base) Go.F W TB X
  refine F.okE scThing (fun vs H Q E h => ?_) (fun cdv A outer st H vs Q E hr h => ?_)
  · obtain ⟨p, d, e, r, g, L, R, t, res, rfl, _⟩ := h
    rfl
  · obtain ⟨p, d, e, r, g, L, R, t, res, rfl, hC, G, hR, hD, k⟩ := h
    have hr1 : Room 1 _ := hr.mono (by decide)
    have hr2 : Room 2 _ := hr.mono (by decide)
    have hr3 : Room 3 _ := hr.mono (by decide)
    refine ⟨_, pss_cons (ps_set (i := 2) scThing.nd rfl (Or.inl rfl) (pe_meth0 (pv 1) TB.cl Pl.m GP hr1 Pl.b .nil pass0))
      (pss_cons (ps_set (i := 3) scThing.nd rfl (Or.inl rfl) pe_int)
      (pss_cons (ps_set (i := 4) scThing.nd rfl (Or.inl rfl) pe_int)
      (pss_cons (ps_while PassesOwn.leaving (pt_cmp (pc_din (u1 hr) (pe_tup (pa_cons (pv 3) (pa_cons (pv 4) pa_nil))) (pe_fld (pv 0) rfl)))
        (pss_cons (ps_if (pt_cmpR op_eq (pe_meth0 (pv 1) TB.cl Le.m GL hr1 Le.b .nil pass0) pe_int (nomark _))
          (pss_cons (ps_expr (pe_meth (pv 1) TB.cl Go.m GG hr2 Go.b .nil pass0 (pa_cons (pv 2) pa_nil))) (pss_one (ps_raise passE (hr.hd (by decide)) (by rfl) Z.mN Z.xN pe_str))) pss_nil)
        (pss_cons (ps_set (i := 3) scThing.nd rfl (Or.inl rfl) (pe_op op_or (pe_op op_shl (pv 3) pe_int) (pe_meth (pv 1) TB.cl Ta.m GT hr3 Ta.b .nil pass0 (pa_cons pe_int pa_nil))))
        (pss_one (ps_set (i := 4) scThing.nd rfl (Or.inl rfl) (pe_op op_add (pv 4) pe_int))))))
      (pss_cons (ps_if (pt_cmp (pc_dnotin (u1 hr) (pe_tup (pa_cons (pv 3) (pa_cons (pv 4) pa_nil))) (pe_fld (pv 0) rfl)))
          (pss_cons (ps_expr (pe_meth (pv 1) TB.cl Go.m GG hr2 Go.b .nil pass0 (pa_cons (pv 2) pa_nil))) (pss_one (ps_raise passE (hr.hd (by decide)) (by rfl) Z.mB Z.xB pe_str))) pss_nil)
      (pss_one (ps_ret (pe_dget (u1 hr) (pe_fld (pv 0) rfl) (pe_tup (pa_cons (pv 3) (pa_cons (pv 4) pa_nil))) (fun _ _ => rfl)))))))), ?_⟩
    have ht := hR.le
    have hrl : ((bt R).drop t).length = 8 * R.length - t := by rw [List.length_drop, bt_length]
    refine seq_g fun R1 g1 => ?_
    obtain ⟨dx, hr0⟩ := hR.ob
    refine ⟨_, rfl, r, dx, _, rfl, hr0, fR_no _ _ (by decide +kernel) (by decide +kernel), r, g, R, t, rfl, hR, g1 _ _ ?_⟩
    clear g1
    refine seq_g fun R1 g1 => g1 _ _ ?_
    clear g1
    refine seq_g fun R1 g1 => g1 _ _ ?_
    clear g1
    refine seq_g fun R1 g1 => ?_
    refine ⟨fun m σ H2 => ∃ s, m = (8 * R.length - t) - s ∧ t + s ≤ 8 * R.length ∧ (∀ j < s, Beg L (((bt R).drop t).take j)) ∧ σ = [some (.ref p), some (.ref r), some (vN t), some (vN (BP.num (((bt R).drop t).take s))), some (vN s)] ∧ ReadAt B H2 r g R (t + s) ∧ CdAt C H2 p d e L ∧ ∀ c o, H c = some o → c ≠ r → H2 c = some o,
      ⟨_, 0, rfl, by omega, fun j hj => absurd hj (by omega), rfl, hR, hC, fun c o z _ => z⟩, ?_⟩
    rintro m σ H2 ⟨s, rfl, hs, hbg, rfl, hR2, hC2, oth⟩
    have hus : (((bt R).drop t).take s).length = s := by rw [List.length_take, hrl]; omega
    obtain ⟨k2, hk2, hB2⟩ := hC2.bg
    obtain ⟨dy, hp2⟩ := hC2.ob
    refine ⟨_, rfl, _, rfl, (by show 2 ≤ sizeLine; decide), fun u nu => ?_⟩
    have su := same_new (o := .tup [vN (BP.num (((bt R).drop t).take s)), vN s]) nu
    have hu : upd H2 u (.tup [vN (BP.num (((bt R).drop t).take s)), vN s]) u = some (.tup ((kk (BP.num (((bt R).drop t).take s)) s).map kV)) := upd_same
    have hR3 := hR2.same su
    have hC3 := hC2.same su
    have oth3 : ∀ c o, H c = some o → c ≠ r → upd H2 u (.tup [vN (BP.num (((bt R).drop t).take s)), vN s]) c = some o := fun c o z hn => su _ _ (oth c o z hn)
    have hk3 := su _ _ hk2
    have hp3 := su _ _ hp2
    generalize upd H2 u (.tup [vN (BP.num (((bt R).drop t).take s)), vN s]) = H3 at *
    refine ⟨_, rfl, p, C, dy, _, _, rfl, hp3, T.cl, T.nB, fC_b _ _, e, _, rfl, DGet.t hk3 hu, _, rfl, ?_⟩
    have hw := bg_word hB2 (((bt R).drop t).take s)
    rw [hus] at hw
    by_cases c1 : Beg L (((bt R).drop t).take s)
    · rw [hw.mpr c1]
      refine iteT ?_
      refine ⟨fun σ' H' => ∃ m', m' < 8 * R.length - t - s ∧ ∃ s', m' = (8 * R.length - t) - s' ∧ t + s' ≤ 8 * R.length ∧ (∀ j < s', Beg L (((bt R).drop t).take j)) ∧ σ' = [some (.ref p), some (.ref r), some (vN t), some (vN (BP.num (((bt R).drop t).take s'))), some (vN s')] ∧ ReadAt B H' r g R (t + s') ∧ CdAt C H' p d e L ∧ ∀ c o, H c = some o → c ≠ r → H' c = some o, fun σ' H' h => h, ?_⟩
      have hbg' : ∀ j < s + 1, Beg L (((bt R).drop t).take j) := fun j hj => by
        rcases Nat.lt_or_ge j s with z | z
        · exact hbg j z
        · have : j = s := by omega
          subst this; exact c1
      refine seq_g fun R2 g2 => ?_
      obtain ⟨dx3, hr3'⟩ := hR3.ob
      refine ⟨_, rfl, r, dx3, _, rfl, hr3', fR_no _ _ (by decide +kernel) (by decide +kernel), r, g, R, t + s, rfl, hR3, rfl, _, rfl, ite2 (fun h1 => ?_) (fun h1 => ?_)⟩
      · have h0 : 8 * R.length - (t + s) = 0 := vN_inj.mp (of_decide_eq_true h1)
        have hn : Due L ((bt R).drop t) .none := fun j hj => hbg' j (by rw [hrl] at hj; omega)
        obtain rfl := hD.uniq hn
        refine seq_g fun R3 g3 => ?_
        refine ⟨_, rfl, r, dx3, _, rfl, hr3', fR_no _ _ (by decide +kernel) (by decide +kernel), _, rfl, r, g, R, t + s, t, rfl, hR3, ht, fun H4 hR4 oth4 => g3 _ _ ?_⟩
        exact k H4 hR4 fun c o z hn => oth4 c o (oth3 c o z hn) hn
      · have h0 : t + s < 8 * R.length := by
          rcases Nat.lt_or_ge (t + s) (8 * R.length) with z | z
          · exact z
          · exact absurd (decide_eq_true (vN_inj.mpr (show 8 * R.length - (t + s) = 0 by omega))) h1
        refine g2 _ _ ?_
        clear g2
        obtain ⟨b, hb1, hb2⟩ := bt_bit h0
        refine seq_g fun R2 g2 => ?_
        have hs12 : s ≤ 12 := by
          obtain ⟨q1, s1, z1, z2, _⟩ := c1
          have := get_le G z1
          omega
        have es : BP.num (((bt R).drop t).take s) < 2 ^ s := by have := BP.num_lt (((bt R).drop t).take s); rwa [hus] at this
        have es2 : 2 ^ s ≤ 2 ^ 12 := Nat.pow_le_pow_right (by decide) hs12
        refine ⟨_, rfl, _, _, rfl, rfl, ⟨by omega, by omega, by omega⟩, ?_⟩
        refine ⟨_, rfl, r, dx3, _, rfl, hr3', fR_no _ _ (by decide +kernel) (by decide +kernel), r, g, R, t + s, 1, rfl, hR3, by omega, by omega, fun H4 hR4 oth4 => ?_⟩
        refine ⟨_, _, rfl, rfl, g2 _ _ ?_⟩
        clear g2
        have hb3 : b.toNat < 2 ^ 1 := by cases b <;> decide
        have e1 : Builtin.bitOr (((BP.num (((bt R).drop t).take s) : Nat) : Int) * 2 ^ (1 : Int).toNat) ((BP.val R / 2 ^ (8 * R.length - (t + s + 1)) % 2 ^ 1 : Nat) : Int) = ((BP.num (((bt R).drop t).take (s + 1)) : Nat) : Int) := by
          rw [hb2]
          have := or_low (BP.num (((bt R).drop t).take s)) b.toNat 1 hb3
          rw [hb1, BP.num_snoc]
          rw [show ((1 : Int)) = ((1 : Nat) : Int) from rfl, this]
          omega
        try dsimp only
        rw [e1]
        refine ⟨_, rfl, _, _, rfl, rfl, ?_⟩
        have e2 : ((s : Nat) : Int) + 1 = ((s + 1 : Nat) : Int) := by omega
        try dsimp only
        rw [e2]
        exact ⟨_, by omega, s + 1, rfl, by omega, hbg', rfl, hR4, hC3.but hR3 oth4, fun c o z hn => oth4 c o (oth3 c o z hn) hn⟩
    · rw [Bool.eq_false_iff.mpr (fun z => c1 (hw.mp z))]
      refine iteF (g1 _ _ ?_)
      clear g1
      obtain ⟨k1, hk1, hT1⟩ := hC3.th
      obtain ⟨dx3, hr3'⟩ := hR3.ob
      obtain ⟨tw1, tw2⟩ := th_word hT1 (((bt R).drop t).take s)
      rw [hus] at tw1 tw2
      refine seq_g fun R2 g2 => ?_
      refine ⟨_, rfl, _, rfl, (by show 2 ≤ sizeLine; decide), fun v nv => ?_⟩
      have sv := same_new (o := .tup [vN (BP.num (((bt R).drop t).take s)), vN s]) nv
      have hv : upd H3 v (.tup [vN (BP.num (((bt R).drop t).take s)), vN s]) v = some (.tup ((kk (BP.num (((bt R).drop t).take s)) s).map kV)) := upd_same
      have hR4 := hR3.same sv
      have hC4 := hC3.same sv
      have oth4 : ∀ c o, H c = some o → c ≠ r → upd H3 v (.tup [vN (BP.num (((bt R).drop t).take s)), vN s]) c = some o := fun c o z hn => sv _ _ (oth3 c o z hn)
      have hk4 := sv _ _ hk1
      have hp4 := sv _ _ hp3
      have hr4 := sv _ _ hr3'
      generalize upd H3 v (.tup [vN (BP.num (((bt R).drop t).take s)), vN s]) = H4 at *
      refine ⟨_, rfl, p, C, dy, _, _, rfl, hp4, T.cl, T.nT, fC_t _ _, d, _, rfl, DGet.t hk4 hv, _, rfl, ?_⟩
      by_cases c2 : ∃ q, IsCode L (((bt R).drop t).take s) q
      · obtain ⟨q, hq⟩ := c2
        rw [tw1 q hq]
        refine iteF (g2 _ _ ?_)
        clear g2
        have hn : Due L ((bt R).drop t) (.thing q s) := ⟨by rw [hrl]; omega, hq, hbg⟩
        obtain rfl := hD.uniq hn
        refine ⟨_, rfl, p, C, dy, _, _, rfl, hp4, T.cl, T.nT, fC_t _ _, _, rfl, _, rfl, (by show 2 ≤ sizeLine; decide), fun x nx => ?_⟩
        have sx := same_new (o := .tup [vN (BP.num (((bt R).drop t).take s)), vN s]) nx
        refine ⟨d, _, rfl, ?_, k _ (hR4.same sx) fun c o z hn => sx _ _ (oth4 c o z hn)⟩
        have := DGet.t (sx _ _ hk4) (show upd H4 x (.tup [vN (BP.num (((bt R).drop t).take s)), vN s]) x = some (.tup ((kk (BP.num (((bt R).drop t).take s)) s).map kV)) from upd_same)
        rw [tw1 q hq] at this
        exact this
      · have c3 : ∀ q, ¬ IsCode L (((bt R).drop t).take s) q := fun q hq => c2 ⟨q, hq⟩
        rw [tw2 c3]
        refine iteT ?_
        have hn : Due L ((bt R).drop t) .bad := ⟨s, by rw [hrl]; omega, hbg, c1, c3⟩
        obtain rfl := hD.uniq hn
        refine seq_g fun R3 g3 => ?_
        refine ⟨_, rfl, r, dx3, _, rfl, hr4, fR_no _ _ (by decide +kernel) (by decide +kernel), _, rfl, r, g, R, t + s, t, rfl, hR4, ht, fun H5 hR5 oth5 => g3 _ _ ?_⟩
        exact k H5 hR5 fun c o z hn => oth5 c o (oth4 c o z hn) hn
end
end K10

set_option Elab.async false
set_option linter.all false
set_option maxRecDepth 100000
set_option maxHeartbeats 4000000
namespace K10
open PySem L2 QQ C9 C10
seal PE PA PS PSs PT PW PG PI
/-- the text of a code -/
def cT : Option (Nat × Nat) → Str
  | none => "none"
  | some c => txt (wd c)
def texts (L : List Nat) : List Str := (codes L).map cT
theorem texts_at {L : List Nat} (g : Good L) {u : List Bool} {q : Nat} : (texts L)[q]? = some (txt u) ↔ IsCode L u q := by
  unfold texts
  rw [List.getElem?_map, isCode_wd g]
  constructor
  · intro h
    cases e : (codes L)[q]? with
    | none => rw [e] at h; cases h
    | some o =>
      rw [e] at h
      have h' : cT o = txt u := Option.some.inj h
      cases o with
      | none => exact absurd h'.symm (none_txt u)
      | some c => exact ⟨c, rfl, txt_inj.mp h'⟩
  · rintro ⟨c, h, rfl⟩
    rw [h]
    rfl
theorem texts_beg {L : List Nat} (g : Good L) {u : List Bool} (hu : u ≠ []) (hn : ∀ q, ¬ IsCode L u q) : Beg L u ↔ ∃ z ∈ texts L, Txt.startswith z (txt u) = true := by
  rw [beg_wd g hn]
  constructor
  · rintro ⟨q, c, h, hp⟩
    refine ⟨txt (wd c), List.mem_map.mpr ⟨some c, List.mem_of_getElem? h, rfl⟩, ?_⟩
    rw [starts_txt, decide_eq_true hp]
  · rintro ⟨z, hz, hs⟩
    obtain ⟨o, ho, rfl⟩ := List.mem_map.mp hz
    obtain ⟨q, hq⟩ := List.mem_iff_getElem?.mp ho
    cases o with
    | none =>
      exfalso
      have : Txt.startswith ("none" : Str) (txt u) = true := hs
      rw [starts_none u hu] at this
      cases this
    | some c =>
      refine ⟨q, c, hq, ?_⟩
      have : Txt.startswith (txt (wd c)) (txt u) = true := hs
      rw [starts_txt] at this
      exact of_decide_eq_true this
theorem inV_strs (z : Str) (ns : List Str) : inV (.str z) (ns.map V.str) = decide (z ∈ ns) := by
  unfold inV
  rw [List.any_map]
  by_cases h : z ∈ ns
  · rw [decide_eq_true h, List.any_eq_true]
    exact ⟨z, h, by show (z == z) = true; simp⟩
  · rw [decide_eq_false h, List.any_eq_false]
    intro y hy
    show ¬ (y == z) = true
    intro e
    exact h (eq_of_beq e ▸ hy)
theorem flat_strs (ns : List Str) : (ns.map V.str).all flatV = true := by simp [flatV]
theorem ndD1 : (["_law_code", "_law_word_here"] : List Str).Nodup := by decide +kernel
/-- what the law's own look tells -/
def Told (H : Hp) (x : V) (t : Nat) : Res → Nat → Prop
  | .thing q s, u => x = vN q ∧ u = t + s
  | .bad, u => u = t ∧ ∃ p l, x = .ref p ∧ H p = some (.tup [.str "refused", .ref l]) ∧ H l = some (.lst [.bl true, .bl false])
  | .none, u => u = t ∧ ∃ p l, x = .ref p ∧ H p = some (.tup [.str "refused", .ref l]) ∧ H l = some (.lst [.bl false, .bl true])
section
variable {P : Program} {w : World} {K : PySem.W.Frag} {mg : Str → Option Value} {base : Heap}
/-! ### _law_due -/
def spDue : Sp := fun vs H Q _ => ∃ (a : Addr) (L : List Nat) (bs : List Bool) (t : Nat) (res : Res), vs = [.ref a, .str (txt bs), vN t] ∧ H a = some (.lst ((texts L).map V.str)) ∧ Good L ∧ t ≤ bs.length ∧ bs.length ≤ 2000 ∧ Due L (bs.drop t) res ∧
  ∀ (p : Addr) (x : V) (u : Nat) (H' : Hp), H' p = some (.tup [x, vN u]) → Told H' x t res u → Same H H' → Q (.ref p) H'
abbrev nDue : List Str := ["_law_codes_here", "_law_bits_here", "_law_at", "_law_word_here", "_law_bit", "_law_begun"]
theorem scDue : FnScope nDue ["_law_codes_here", "_law_bits_here", "_law_at"] (defScope sDue) := ⟨rfl, rfl, rfl, by decide +kernel, rfl, by decide +kernel, by decide +kernel⟩
abbrev ttBeg (K : PySem.W.Frag) : TT := tB (tBM K "str" rStarts (tVar 0) (tCons (tVar 1) tNil))
theorem empty_txt : ("" : Str) = txt [] := by decide +kernel
theorem ok_due {f : Addr} {fd : FuncData} (F : Fn K mg "_law_due" sDue ["_law_codes_here", "_law_bits_here", "_law_at"] f fd) (T : Txt K mg) : FnOk P w K mg base CX0 31 f fd ["_law_codes_here", "_law_bits_here", "_law_at"] spDue := by
  refine F.F.ok scDue (fun vs H Q E h => ?_) (fun cdv A outer st H vs Q E hr h => ?_)
  · obtain ⟨a, L, bs, t, res, rfl, _⟩ := h
    rfl
  · obtain ⟨a, L, bs, t, res, rfl, ha, G, ht, hbs, hD, k⟩ := h
    have hu := hr.units
    have hcaps : ∀ (x : Str), ((x, NameKind.cell) ∈ ([(".0", .local), ("_law_code", .local), ("_law_word_here", .cell)] : List (Str × NameKind)) → x = "_law_word_here") ∧ (x, NameKind.free) ∉ ([(".0", .local), ("_law_code", .local), ("_law_word_here", .cell)] : List (Str × NameKind)) := fun x => ⟨fun m => by simpa using m, fun m => by simp at m⟩
    refine ⟨_, pss_cons (ps_set (i := 3) scDue.nd rfl (Or.inr rfl) pe_str)
      (pss_cons (ps_for PassesOwn.never rfl (pi_str (pe_slice sl_str (pv 1) (po_some (pv 2)) po_none)) (pg_name (i := 4) scDue.nd rfl (Or.inl rfl))
        (pss_cons (ps_set (i := 3) scDue.nd rfl (Or.inr rfl) (pe_op op_add_str (pv 3) (pv 4)))
        (pss_cons (ps_setCCI (i := 5) (N := ["_law_code", "_law_word_here"]) (js := [none, some 3]) (cl := [("_law_word_here", st.heap.objs.size + 1)]) (g := gName 0) (tt := ttBeg K) (te := tVar 0) scDue.nd rfl (Or.inl rfl) rfl
          ⟨rfl, by decide +kernel, by decide +kernel, by rfl, fun x c h => (by obtain ⟨rfl, rfl⟩ := lookup_one h; rfl), fun x hx => ?c1, rfl, fun i x j h1 h2 => ?c2⟩
          (pi_list (pv 0)) (fun fp s H => pg_name (i := 0) ndD1 rfl (Or.inl rfl)) (fun fp s H => pt_val (pe_bm PySem.F.plainAttrs_str PySem.F.slot_str_startswith PySem.F.type_str_startswith mt_starts (pv 0) (pa_cons (pv 1) pa_nil))) (fun fp s H => pv 0) (by rfl))
        (pss_cons (ps_if (pt_cmpR op_in_seq (pv 3) (pv 0) rfl)
          (pss_one (ps_ret (pe_tup (pa_cons (pe_bm PySem.F.plainAttrs_list PySem.F.slot_list_index PySem.F.type_list_index mt_indexS (pv 0) (pa_cons (pv 3) pa_nil)) (pa_cons (pe_op op_add (pv 2) (pe_callB call_len_str (by rfl) T.len PySem.boot_len (pa_cons (pv 3) pa_nil))) pa_nil))))) pss_nil)
        (pss_one (ps_if (pt_cmpR ((op_eqGs hu).either (op_eqNo hu)) (pv 5) (pe_lst pa_nil) (nomark _))
          (pss_one (ps_ret (pe_tup (pa_cons (pe_tup (pa_cons pe_str (pa_cons (pe_lst (pa_cons pe_bl (pa_cons pe_bl pa_nil))) pa_nil))) (pa_cons (pv 2) pa_nil))))) pss_nil))))))
      (pss_one (ps_ret (pe_tup (pa_cons (pe_tup (pa_cons pe_str (pa_cons (pe_lst (pa_cons pe_bl (pa_cons pe_bl pa_nil))) pa_nil))) (pa_cons (pv 2) pa_nil)))))), ?_⟩
    case c1 =>
      rcases hx with hx | hx
      · have e := (hcaps x).1 (PySem.mem_of_lookup hx)
        subst e
        exact ⟨_, rfl⟩
      · exact absurd (PySem.mem_of_lookup hx) (hcaps x).2
    case c2 =>
      match i, h1, h2 with
      | 0, _, h2 => cases h2
      | 1, h1, h2 =>
        cases h1
        cases h2
        exact ⟨rfl, rfl, rfl, fun c h => h⟩
      | i + 2, h1, _ => cases h1
    have hrl : (bs.drop t).length = bs.length - t := List.length_drop
    have hTl : (texts L).length = L.length := by unfold texts codes; rw [List.length_map, row_length]
    have hL3 := G.le
    refine seq_g fun R1 g1 => g1 _ _ ?_
    clear g1
    try dsimp only
    rw [empty_txt]
    refine seq_g fun R1 g1 => ?_
    refine ⟨_, rfl, _, rfl, _, rfl, ⟨_, rfl, (by rw [txt_length]; exact Nat.le_trans hbs (by decide)), ?_⟩⟩
    try dsimp only
    rw [txt_sliceR ht]
    refine ⟨_, rfl, ?_⟩
    refine for_str (D := ⟨_, _, fun _ _ => False, fun _ _ => False⟩) (y := txt (bs.drop t)) (fun i σ H2 => ∃ v4 v5 : Option V, σ = [some (.ref a), some (.str (txt bs)), some (vN t), some (.str (txt ((bs.drop t).take i))), v4, v5] ∧ (∀ j ≤ i, Beg L ((bs.drop t).take j)) ∧ Same H H2)
      ⟨none, none, rfl, fun j hj => by rw [show j = 0 by omega]; exact beg_nil G, Same.refl H⟩ ?_ ?_
    · rintro i ch σ H2 hi ⟨v4, v5, rfl, hbg, sm⟩
      obtain ⟨b, hb, ech⟩ := txt_get hi
      rw [ech]
      have hil : i < (bs.drop t).length := (List.getElem?_eq_some_iff.mp hb).1
      have ha2 := sm _ _ ha
      have e1 : (bs.drop t).take (i + 1) = (bs.drop t).take i ++ [b] := by rw [List.take_add_one, hb]; rfl
      have hwl : ((bs.drop t).take (i + 1)).length = i + 1 := by rw [List.length_take]; omega
      refine seq_g fun R2 g2 => ?_
      refine ⟨_, rfl, _, rfl, _, _, rfl, rfl, Nat.le_trans (show _ ≤ 2000 by rw [txt_length, txt_length, List.length_take]; show _ + 1 ≤ _; omega) (by decide), g2 _ _ ?_⟩
      clear g2
      try dsimp only
      rw [txt_append, ← e1]
      have hne : (bs.drop t).take (i + 1) ≠ [] := fun z => by rw [z] at hwl; cases hwl
      generalize hw : (bs.drop t).take (i + 1) = u at *
      refine seq_g fun R2 g2 => ?_
      refine ⟨_, rfl, a, rfl, ⟨_, SqL.of ha2⟩, fun l nl => ?_⟩
      refine compCI_li (K := K) (a := a) (l := l) (xs := (texts L).map V.str) (g := gName 0) (tt := ttBeg K) (te := tVar 0)
        (fun n ys σ' H' => ∃ v0 : Option V, ys = (((texts L).take n).filter (fun z => Txt.startswith z (txt u))).map V.str ∧ σ' = [v0, some (.str (txt u))] ∧ H' l = some (.lst ys) ∧ Same H2 H') ⟨none, rfl, rfl, upd_same, same_new nl⟩ (fun n ys σ' H' _ ⟨_, _, _, _, z⟩ => SqL.of (z _ _ ha2)) ?_ ?_ ?_ ?_ ?_
      · rintro n x ys σ' H' hx ⟨v0, rfl, rfl, hl, s2⟩
        obtain ⟨z, hz, rfl⟩ : ∃ z, (texts L)[n]? = some z ∧ x = .str z := by
          rw [List.getElem?_map] at hx
          cases e : (texts L)[n]? with
          | none => rw [e] at hx; cases hx
          | some z => rw [e] at hx; exact ⟨z, rfl, (Option.some.inj hx).symm⟩
        have et : (texts L).take (n + 1) = (texts L).take n ++ [z] := by rw [List.take_add_one, hz]; rfl
        have hnl : (((texts L).take n).filter (fun z => Txt.startswith z (txt u))).length ≤ 300 := Nat.le_trans (List.length_filter_le _ _) (by rw [List.length_take]; omega)
        refine ⟨_, rfl, rfl, _, rfl, _, _, rfl, rfl, _, rfl, ?_⟩
        rw [et, List.filter_append]
        cases c : Txt.startswith z (txt u) with
        | true =>
          rw [if_pos rfl]
          refine ⟨_, rfl, hl, K10.C.sl2000' (by rw [List.length_map]; omega), _, ?_, rfl, upd_same, fun c o e => ?_⟩
          · rw [List.filter_cons_of_pos (by simpa using c), List.map_append]; rfl
          · rw [upd_ne (ne_of_none e nl)]; exact s2 _ _ e
        | false =>
          rw [if_neg Bool.false_ne_true]
          refine ⟨_, ?_, rfl, hl, s2⟩
          rw [List.filter_cons_of_neg (by simp [c])]; simp
      rotate_left
      · exact fun x σ H A B h z => h _ _ z
      · exact fun σ H A B h ⟨v, e1, e2, v2, e3, z1, z2, e4, e5, c, e6, z⟩ => ⟨v, e1, e2, v2, e3, z1, z2, e4, e5, c, e6, h _ _ z⟩
      · exact fun σ H A B h ⟨v, e1, z⟩ => ⟨v, e1, h _ _ z⟩
      rintro ys σ' H3 ⟨v0, rfl, _, hl, s2⟩
      rw [List.length_map, List.take_length] at hl
      refine g2 _ _ ?_
      clear g2
      have s03 := sm.trans s2
      have ha3 := s03 _ _ ha
      refine seq_g fun R2 g2 => ?_
      refine ⟨_, rfl, _, rfl, a, _, rfl, .inl (SqL.of ha3), rfl, flat_strs _, _, rfl, ?_⟩
      try dsimp only
      rw [if_neg Bool.false_ne_true, inV_strs]
      by_cases c1 : txt u ∈ texts L
      · rw [decide_eq_true c1]
        refine iteT ?_
        clear g2
        obtain ⟨q, hq⟩ := List.mem_iff_getElem?.mp c1
        have hcode := (texts_at G).mp hq
        have hth : Due L (bs.drop t) (.thing q (i + 1)) := ⟨by omega, by rw [hw]; exact hcode, fun j hj => hbg j (by omega)⟩
        obtain rfl := hD.uniq hth
        refine ⟨_, rfl, .inl ⟨rfl, _, SqL.of ha3⟩, _, rfl, a, texts L, txt u, q, rfl, rfl, ha3, hq, fun j hj z => ?_, ?_⟩
        · have := isCode_inj ((texts_at G).mp z) hcode
          omega
        refine ⟨_, rfl, _, rfl, _, rfl, (by rw [txt_length, hwl]; exact K10.C.sl2000 (by omega)), _, _, rfl, rfl, (by show 2 ≤ sizeLine; decide), fun p np => ?_⟩
        have e2 : ((t : Nat) : Int) + ((txt u).length : Int) = ((t + (i + 1) : Nat) : Int) := by rw [txt_length, hwl]; omega
        try dsimp only
        rw [e2]
        exact k p _ _ _ upd_same ⟨rfl, rfl⟩ (s03.trans (same_new np))
      · rw [decide_eq_false c1]
        refine iteF (g2 _ _ ?_)
        clear g2
        have hnc : ∀ q, ¬ IsCode L u q := fun q hq => c1 (List.mem_of_getElem? ((texts_at G).mpr hq))
        have hB := texts_beg G hne hnc
        refine ⟨_, rfl, (by show 0 ≤ sizeLine; decide), fun l2 nl2 => ?_⟩
        have s4 := same_new (o := .lst []) nl2
        by_cases c2 : Beg L u
        · obtain ⟨z, hz, hs⟩ := hB.mp c2
          refine .inr ⟨l2, [], rfl, SqL.of upd_same, ?_, _, rfl, iteF ?_⟩
          · refine .inr (.inr (.inr (.inr (.inr ⟨l, _, rfl, SqL.of (s4 _ _ hl), ?_⟩))))
            have : z ∈ (texts L).filter (fun z => Txt.startswith z (txt u)) := List.mem_filter.mpr ⟨hz, hs⟩
            intro e0
            rw [List.length_map] at e0
            rw [List.length_eq_zero_iff.mp e0] at this
            cases this
          · refine ⟨_, _, rfl, fun j hj => ?_, s03.trans s4⟩
            rcases Nat.lt_or_ge j (i + 1) with z | z
            · exact hbg j (by omega)
            · rw [show j = i + 1 by omega, hw]; exact c2
        · have hem : (texts L).filter (fun z => Txt.startswith z (txt u)) = [] := List.filter_eq_nil_iff.mpr fun z hz hs => c2 (hB.mpr ⟨z, hz, hs⟩)
          rw [hem] at hl
          refine .inl ⟨l, l2, rfl, rfl, ⟨[], [], SqL.of (s4 _ _ hl), SqL.of upd_same, rfl, fun i x y z => nomatch z⟩, _, rfl, iteT ?_⟩
          have hbad : Due L (bs.drop t) .bad := ⟨i + 1, by omega, fun j hj => hbg j (by omega), by rw [hw]; exact c2, by rw [hw]; exact hnc⟩
          obtain rfl := hD.uniq hbad
          refine ⟨(by show 2 ≤ sizeLine; decide), fun l5 nl5 => ⟨(by show 2 ≤ sizeLine; decide), fun p5 np5 => ⟨_, rfl, (by show 2 ≤ sizeLine; decide), fun p np => ?_⟩⟩⟩
          have s5 := same_new (o := .lst [.bl true, .bl false]) nl5
          have s6 := same_new (o := .tup [.str "refused", .ref l5]) np5
          have s7 := same_new (o := .tup [.ref p5, vN t]) np
          exact k p _ _ _ upd_same ⟨rfl, p5, l5, rfl, s7 _ _ upd_same, s7 _ _ (s6 _ _ upd_same)⟩ ((((s03.trans s4).trans s5).trans s6).trans s7)
    · rintro σ H2 ⟨v4, v5, rfl, hbg, sm⟩
      refine g1 _ _ ?_
      clear g1
      rw [txt_size] at hbg
      have hno : Due L (bs.drop t) .none := hbg
      obtain rfl := hD.uniq hno
      refine ⟨(by show 2 ≤ sizeLine; decide), fun l5 nl5 => ⟨(by show 2 ≤ sizeLine; decide), fun p5 np5 => ⟨_, rfl, (by show 2 ≤ sizeLine; decide), fun p np => ?_⟩⟩⟩
      have s5 := same_new (o := .lst [.bl false, .bl true]) nl5
      have s6 := same_new (o := .tup [.str "refused", .ref l5]) np5
      have s7 := same_new (o := .tup [.ref p5, vN t]) np
      exact k p _ _ _ upd_same ⟨rfl, p5, l5, rfl, s7 _ _ upd_same, s7 _ _ (s6 _ _ upd_same)⟩ (((sm.trans s5).trans s6).trans s7)
end
end K10

set_option Elab.async false
set_option linter.all false
set_option maxRecDepth 100000
set_option maxHeartbeats 4000000
namespace K10
open PySem L2 QQ C9 C10
seal PE PA PS PSs PT PW PG PI
/-- the other error classes, in the order in which they are asked -/
def names : List Str := ["BadBits", "BadBody", "BadCheck", "BadLengths", "BadHead", "BadShares", "BadLetters", "BadMark", "BadPieces", "BadRow", "BadTable", "BadTail", "Behind", "Cut", "NoRange", "Over"]
/-- a class of errors that is raised: of these two it is the one or the other -/
structure Er1 (K : PySem.W.Frag) (cP cN cB : Addr) (cs : List Addr) (c : Addr) (b1 b2 : Bool) : Prop where
  x : ExC K c
  i : ExI K c
  n : c ≠ cP
  s : PySem.W.mroIn K c (.ref cP) = some true
  v : PySem.W.kitOne K (.ref c) (.type "ValueError") = some true
  b1 : PySem.W.kitOne K (.ref c) (.ref cB) = some b1
  b2 : PySem.W.kitOne K (.ref c) (.ref cN) = some b2
  k : ∀ (i : Nat) (d : Addr), cs[i]? = some d → PySem.W.kitOne K (.ref c) (.ref d) = some false
structure Ers (K : PySem.W.Frag) (mg : Str → Option Value) (cP cN cB : Addr) (cs : List Addr) : Prop where
  mP : mg "PressError" = some (.ref cP)
  xP : ExC K cP
  mN : mg "NoBits" = some (.ref cN)
  mB : mg "BadCode" = some (.ref cB)
  eN : Er1 K cP cN cB cs cN false true
  eB : Er1 K cP cN cB cs cB true false
  len : ∃ c0 c1 c2 c3 c4 c5 c6 c7 c8 c9 c10 c11 c12 c13 c14 c15 : Addr, cs = [c0, c1, c2, c3, c4, c5, c6, c7, c8, c9, c10, c11, c12, c13, c14, c15]
  m : ∀ (i : Nat) (x : Str) (c : Addr), names[i]? = some x → cs[i]? = some c → mg x = some (.ref c)
/-- the error in hand -/
def InH (H : Hp) (a C : Addr) : Prop := ∃ vx, H a = some (.frz (exO (.ref C) vx) (.own a))
section
variable {P : Program} {w : World} {K : PySem.W.Frag} {mg : Str → Option Value} {base : Heap} {C B cP cN cB : Addr} {cs : List Addr}
/-! ### _law_word -/
def spWord (K : PySem.W.Frag) (cP cN cB : Addr) (cs : List Addr) : Sp := fun vs H Q _ => ∃ (a c : Addr) (b1 b2 : Bool), vs = [.ref a] ∧ InH H a c ∧ Er1 K cP cN cB cs c b1 b2 ∧ ∀ p l H', H' p = some (.tup [.str "refused", .ref l]) → H' l = some (.lst [.bl b1, .bl b2]) → Same H H' → Q (.ref p) H'
theorem scWord : FnScope ["_law_e", "_law_some"] ["_law_e"] (defScope sWord) := ⟨rfl, rfl, rfl, by decide +kernel, rfl, by decide +kernel, by decide +kernel⟩
theorem ok_word {f : Addr} {fd : FuncData} (F : Fn K mg "_law_word" sWord ["_law_e"] f fd) (T : K10.C.Txt K mg) (Z : Ers K mg cP cN cB cs) : FnOk P w K mg base CX0 5 f fd ["_law_e"] (spWord K cP cN cB cs) := by
  obtain ⟨c0, c1, c2, c3, c4, c5, c6, c7, c8, c9, c10, c11, c12, c13, c14, c15, rfl⟩ := Z.len
  refine F.F.ok scWord (fun vs H Q E h => ?_) (fun cdv A outer st H vs Q E hr h => ?_)
  · obtain ⟨a, c, b1, b2, rfl, _⟩ := h
    rfl
  · obtain ⟨a, c, b1, b2, rfl, ⟨vx, hE⟩, W, k⟩ := h
    refine ⟨_, (pss_cons (ps_set (i := 1) scWord.nd rfl (Or.inl rfl) (pe_lst (pa_cons (pe_callB call_isiE (by rfl) T.isi PyProof.Rows.boot_isinstance (pa_cons (pv 0) (pa_cons (pe_glob (v := .ref c0) (by rfl) (Z.m 0 _ _ rfl rfl) rfl) pa_nil)))
          (pa_cons (pe_callB call_isiE (by rfl) T.isi PyProof.Rows.boot_isinstance (pa_cons (pv 0) (pa_cons (pe_glob (v := .ref c1) (by rfl) (Z.m 1 _ _ rfl rfl) rfl) pa_nil)))
          (pa_cons (pe_callB call_isiE (by rfl) T.isi PyProof.Rows.boot_isinstance (pa_cons (pv 0) (pa_cons (pe_glob (v := .ref c2) (by rfl) (Z.m 2 _ _ rfl rfl) rfl) pa_nil)))
          (pa_cons (pe_callB call_isiE (by rfl) T.isi PyProof.Rows.boot_isinstance (pa_cons (pv 0) (pa_cons (pe_glob (v := .ref c3) (by rfl) (Z.m 3 _ _ rfl rfl) rfl) pa_nil)))
          pa_nil))))))
      (pss_cons (ps_set (i := 1) scWord.nd rfl (Or.inl rfl) (pe_op op_cat (pv 1) (pe_lst (pa_cons (pe_callB call_isiE (by rfl) T.isi PyProof.Rows.boot_isinstance (pa_cons (pv 0) (pa_cons (pe_glob (v := .ref c4) (by rfl) (Z.m 4 _ _ rfl rfl) rfl) pa_nil)))
          (pa_cons (pe_callB call_isiE (by rfl) T.isi PyProof.Rows.boot_isinstance (pa_cons (pv 0) (pa_cons (pe_glob (v := .ref c5) (by rfl) (Z.m 5 _ _ rfl rfl) rfl) pa_nil)))
          (pa_cons (pe_callB call_isiE (by rfl) T.isi PyProof.Rows.boot_isinstance (pa_cons (pv 0) (pa_cons (pe_glob (v := .ref c6) (by rfl) (Z.m 6 _ _ rfl rfl) rfl) pa_nil)))
          pa_nil))))))
      (pss_cons (ps_set (i := 1) scWord.nd rfl (Or.inl rfl) (pe_op op_cat (pv 1) (pe_lst (pa_cons (pe_callB call_isiE (by rfl) T.isi PyProof.Rows.boot_isinstance (pa_cons (pv 0) (pa_cons (pe_glob (v := .ref c7) (by rfl) (Z.m 7 _ _ rfl rfl) rfl) pa_nil)))
          (pa_cons (pe_callB call_isiE (by rfl) T.isi PyProof.Rows.boot_isinstance (pa_cons (pv 0) (pa_cons (pe_glob (v := .ref c8) (by rfl) (Z.m 8 _ _ rfl rfl) rfl) pa_nil)))
          (pa_cons (pe_callB call_isiE (by rfl) T.isi PyProof.Rows.boot_isinstance (pa_cons (pv 0) (pa_cons (pe_glob (v := .ref c9) (by rfl) (Z.m 9 _ _ rfl rfl) rfl) pa_nil)))
          (pa_cons (pe_callB call_isiE (by rfl) T.isi PyProof.Rows.boot_isinstance (pa_cons (pv 0) (pa_cons (pe_glob (v := .ref c10) (by rfl) (Z.m 10 _ _ rfl rfl) rfl) pa_nil)))
          pa_nil)))))))
      (pss_cons (ps_set (i := 1) scWord.nd rfl (Or.inl rfl) (pe_op op_cat (pv 1) (pe_lst (pa_cons (pe_callB call_isiE (by rfl) T.isi PyProof.Rows.boot_isinstance (pa_cons (pv 0) (pa_cons (pe_glob (v := .ref c11) (by rfl) (Z.m 11 _ _ rfl rfl) rfl) pa_nil)))
          (pa_cons (pe_callB call_isiE (by rfl) T.isi PyProof.Rows.boot_isinstance (pa_cons (pv 0) (pa_cons (pe_glob (v := .ref c12) (by rfl) (Z.m 12 _ _ rfl rfl) rfl) pa_nil)))
          (pa_cons (pe_callB call_isiE (by rfl) T.isi PyProof.Rows.boot_isinstance (pa_cons (pv 0) (pa_cons (pe_glob (v := .ref c13) (by rfl) (Z.m 13 _ _ rfl rfl) rfl) pa_nil)))
          (pa_cons (pe_callB call_isiE (by rfl) T.isi PyProof.Rows.boot_isinstance (pa_cons (pv 0) (pa_cons (pe_glob (v := .ref c14) (by rfl) (Z.m 14 _ _ rfl rfl) rfl) pa_nil)))
          pa_nil)))))))
      (pss_cons (ps_if (PW.pt (pw_or (pt_cmpR op_in_seq pe_bl (pe_op op_cat (pv 1) (pe_lst (pa_cons (pe_callB call_isiE (by rfl) T.isi PyProof.Rows.boot_isinstance (pa_cons (pv 0) (pa_cons (pe_glob (v := .ref c15) (by rfl) (Z.m 15 _ _ rfl rfl) rfl) pa_nil)))
          pa_nil))) (by rfl)) (pw_or1 (pt_not (pt_val (pe_callB call_isiE (by rfl) T.isi PyProof.Rows.boot_isinstance (pa_cons (pv 0) (pa_cons (pe_bltn (v := .ty "ValueError") (by rfl) T.verr PyProof.Rows.Boot.«ValueError» rfl) pa_nil)))))))) (pss_one (ps_ret (pe_tup (pa_cons pe_str (pa_cons pe_str pa_nil))))) pss_nil)
      (pss_one (ps_ret (pe_tup (pa_cons pe_str (pa_cons (pe_lst (pa_cons (pe_callB call_isiE (by rfl) T.isi PyProof.Rows.boot_isinstance (pa_cons (pv 0) (pa_cons (pe_glob (v := .ref cB) (by rfl) (Z.mB) rfl) pa_nil))) (pa_cons (pe_callB call_isiE (by rfl) T.isi PyProof.Rows.boot_isinstance (pa_cons (pv 0) (pa_cons (pe_glob (v := .ref cN) (by rfl) (Z.mN) rfl) pa_nil))) pa_nil))) pa_nil)))))))))), ?_⟩
    have q1 : ∀ (i : Nat) (d : Addr), [c0, c1, c2, c3, c4, c5, c6, c7, c8, c9, c10, c11, c12, c13, c14, c15][i]? = some d → PySem.W.kitOne K (.ref c) (.ref d) = some false := W.k
    refine seq_g fun R1 g1 => ?_
    refine ⟨_, rfl, a, c, vx, _, _, rfl, ⟨c0, .inl rfl⟩, hE, W.i, q1 0 _ rfl, _, rfl, a, c, vx, _, _, rfl, ⟨c1, .inl rfl⟩, hE, W.i, q1 1 _ rfl, _, rfl, a, c, vx, _, _, rfl, ⟨c2, .inl rfl⟩, hE, W.i, q1 2 _ rfl, _, rfl, a, c, vx, _, _, rfl, ⟨c3, .inl rfl⟩, hE, W.i, q1 3 _ rfl, (by show 4 ≤ sizeLine; decide), fun l1 n1 => g1 _ _ ?_⟩
    clear g1
    have s1 := same_new (o := .lst [.bl false, .bl false, .bl false, .bl false]) n1
    have hl1 : (upd H l1 (.lst [.bl false, .bl false, .bl false, .bl false])) l1 = some (.lst (List.replicate 4 (V.bl false))) := upd_same
    have Sl1 : Same H _ := s1
    have El1 := s1 _ _ hE
    generalize upd H l1 (.lst [.bl false, .bl false, .bl false, .bl false]) = H1 at *
    refine seq_g fun R1 g1 => ?_
    refine ⟨_, rfl, _, rfl, a, c, vx, _, _, rfl, ⟨c4, .inl rfl⟩, El1, W.i, q1 4 _ rfl, _, rfl, a, c, vx, _, _, rfl, ⟨c5, .inl rfl⟩, El1, W.i, q1 5 _ rfl, _, rfl, a, c, vx, _, _, rfl, ⟨c6, .inl rfl⟩, El1, W.i, q1 6 _ rfl, (by show 3 ≤ sizeLine; decide), fun l2 nl2 => ?_⟩
    have sl2 := same_new (o := .lst [.bl false, .bl false, .bl false]) nl2
    refine ⟨l1, l2, _, _, rfl, rfl, sl2 _ _ hl1, upd_same, (by show 7 ≤ sizeLine; decide), fun l3 nl3 => g1 _ _ ?_⟩
    clear g1
    have e7 : List.replicate 4 (V.bl false) ++ [V.bl false, V.bl false, V.bl false] = List.replicate 7 (V.bl false) := rfl
    try dsimp only
    rw [e7]
    have sl3 := same_new (o := .lst (List.replicate 7 (V.bl false))) nl3
    have hl3 : (upd (upd H1 l2 (.lst [.bl false, .bl false, .bl false])) l3 (.lst (List.replicate 7 (V.bl false)))) l3 = some (.lst (List.replicate 7 (V.bl false))) := upd_same
    have Sl3 := (Sl1).trans (sl2.trans sl3)
    have El3 := Sl3 _ _ hE
    clear sl2 sl3
    generalize upd (upd H1 l2 (.lst [.bl false, .bl false, .bl false])) l3 (.lst (List.replicate 7 (V.bl false))) = H3 at *
    refine seq_g fun R1 g1 => ?_
    refine ⟨_, rfl, _, rfl, a, c, vx, _, _, rfl, ⟨c7, .inl rfl⟩, El3, W.i, q1 7 _ rfl, _, rfl, a, c, vx, _, _, rfl, ⟨c8, .inl rfl⟩, El3, W.i, q1 8 _ rfl, _, rfl, a, c, vx, _, _, rfl, ⟨c9, .inl rfl⟩, El3, W.i, q1 9 _ rfl, _, rfl, a, c, vx, _, _, rfl, ⟨c10, .inl rfl⟩, El3, W.i, q1 10 _ rfl, (by show 4 ≤ sizeLine; decide), fun l4 nl4 => ?_⟩
    have sl4 := same_new (o := .lst [.bl false, .bl false, .bl false, .bl false]) nl4
    refine ⟨l3, l4, _, _, rfl, rfl, sl4 _ _ hl3, upd_same, (by show 11 ≤ sizeLine; decide), fun l5 nl5 => g1 _ _ ?_⟩
    clear g1
    have e11 : List.replicate 7 (V.bl false) ++ [V.bl false, V.bl false, V.bl false, V.bl false] = List.replicate 11 (V.bl false) := rfl
    try dsimp only
    rw [e11]
    have sl5 := same_new (o := .lst (List.replicate 11 (V.bl false))) nl5
    have hl5 : (upd (upd H3 l4 (.lst [.bl false, .bl false, .bl false, .bl false])) l5 (.lst (List.replicate 11 (V.bl false)))) l5 = some (.lst (List.replicate 11 (V.bl false))) := upd_same
    have Sl5 := (Sl3).trans (sl4.trans sl5)
    have El5 := Sl5 _ _ hE
    clear sl4 sl5
    generalize upd (upd H3 l4 (.lst [.bl false, .bl false, .bl false, .bl false])) l5 (.lst (List.replicate 11 (V.bl false))) = H5 at *
    refine seq_g fun R1 g1 => ?_
    refine ⟨_, rfl, _, rfl, a, c, vx, _, _, rfl, ⟨c11, .inl rfl⟩, El5, W.i, q1 11 _ rfl, _, rfl, a, c, vx, _, _, rfl, ⟨c12, .inl rfl⟩, El5, W.i, q1 12 _ rfl, _, rfl, a, c, vx, _, _, rfl, ⟨c13, .inl rfl⟩, El5, W.i, q1 13 _ rfl, _, rfl, a, c, vx, _, _, rfl, ⟨c14, .inl rfl⟩, El5, W.i, q1 14 _ rfl, (by show 4 ≤ sizeLine; decide), fun l6 nl6 => ?_⟩
    have sl6 := same_new (o := .lst [.bl false, .bl false, .bl false, .bl false]) nl6
    refine ⟨l5, l6, _, _, rfl, rfl, sl6 _ _ hl5, upd_same, (by show 15 ≤ sizeLine; decide), fun l7 nl7 => g1 _ _ ?_⟩
    clear g1
    have e15 : List.replicate 11 (V.bl false) ++ [V.bl false, V.bl false, V.bl false, V.bl false] = List.replicate 15 (V.bl false) := rfl
    try dsimp only
    rw [e15]
    have sl7 := same_new (o := .lst (List.replicate 15 (V.bl false))) nl7
    have hl7 : (upd (upd H5 l6 (.lst [.bl false, .bl false, .bl false, .bl false])) l7 (.lst (List.replicate 15 (V.bl false)))) l7 = some (.lst (List.replicate 15 (V.bl false))) := upd_same
    have Sl7 := (Sl5).trans (sl6.trans sl7)
    have El7 := Sl7 _ _ hE
    clear sl6 sl7
    generalize upd (upd H5 l6 (.lst [.bl false, .bl false, .bl false, .bl false])) l7 (.lst (List.replicate 15 (V.bl false))) = H7 at *
    refine seq_g fun R1 g1 => ?_
    refine ⟨_, rfl, _, rfl, a, c, vx, _, _, rfl, ⟨c15, .inl rfl⟩, El7, W.i, q1 15 _ rfl, (by show 1 ≤ sizeLine; decide), fun l8 nl8 => ?_⟩
    have sl8 := same_new (o := .lst [.bl false]) nl8
    refine ⟨l7, l8, _, _, rfl, rfl, sl8 _ _ hl7, upd_same, (by show 16 ≤ sizeLine; decide), fun l9 nl9 => ?_⟩
    have e16 : List.replicate 15 (V.bl false) ++ [V.bl false] = List.replicate 16 (V.bl false) := rfl
    try dsimp only
    rw [e16]
    have sl9 := same_new (o := .lst (List.replicate 16 (V.bl false))) nl9
    have S9 := (Sl7).trans (sl8.trans sl9)
    have E9 := S9 _ _ hE
    refine ⟨l9, _, rfl, .inl (SqL.of upd_same), rfl, rfl, _, rfl, ?_⟩
    rw [show (if false = true then !inV (V.bl true) (List.replicate 16 (V.bl false)) else inV (V.bl true) (List.replicate 16 (V.bl false))) = false from rfl]
    refine iteF ⟨_, rfl, a, c, vx, .type "ValueError", _, rfl, ⟨c, .inr ⟨_, rfl⟩⟩, E9, W.i, W.v, _, rfl, iteF (g1 _ _ ?_)⟩
    clear g1
    refine ⟨_, rfl, a, c, vx, _, _, rfl, ⟨cB, .inl rfl⟩, E9, W.i, W.b1, _, rfl, a, c, vx, _, _, rfl, ⟨cN, .inl rfl⟩, E9, W.i, W.b2, (by show 2 ≤ sizeLine; decide), fun lr nlr => ⟨(by show 2 ≤ sizeLine; decide), fun p np => ?_⟩⟩
    have sA := same_new (o := .lst [.bl b1, .bl b2]) nlr
    have sB := same_new (o := .tup [.str "refused", .ref lr]) np
    exact k p lr _ upd_same (sB _ _ upd_same) ((S9.trans sA).trans sB)
/-! ### _law_asked -/
structure Asks (K : PySem.W.Frag) (mg : Str → Option Value) (C B cP cN cB : Addr) (cs : List Addr) : Prop where
  X : K10.C.Txt K mg
  Z : Ers K mg cP cN cB cs
  R : CRc K mg C
  D : Rds K mg B
  thing : ∃ f fd, Me K C "thing" "CodeReader.thing" sThing ["self", "reader"] f fd
  word : ∃ f fd, Fn K mg "_law_word" sWord ["_law_e"] f fd
/-- what is told of an asking -/
def AskK (B : Addr) (H : Hp) (r g : Addr) (R : List Nat) (t : Nat) (Q : VK) (res : Res) : Prop := ∀ (x : V) (u : Nat) (H' : Hp), Told H' x t res u → ReadAt B H' r g R u → (∀ c o, H c = some o → c ≠ r → H' c = some o) → Q x H'
def spAsked (C B : Addr) : Sp := fun vs H Q _ => ∃ (p d e r g : Addr) (L R : List Nat) (t : Nat) (res : Res), vs = [.ref p, .ref r] ∧ CdAt C H p d e L ∧ Good L ∧ ReadAt B H r g R t ∧ Due L ((bt R).drop t) res ∧ AskK B H r g R t Q res
theorem scAsked : FnScope ["_law_codes_here", "_law_reader", "_law_e"] ["_law_codes_here", "_law_reader"] (defScope sAsked) := ⟨rfl, rfl, rfl, by decide +kernel, rfl, by decide +kernel, by decide +kernel⟩
theorem ok_asked {f : Addr} {fd : FuncData} (F : Fn K mg "_law_asked" sAsked ["_law_codes_here", "_law_reader"] f fd) (D : Asks K mg C B cP cN cB cs) : FnOk P w K mg base CX0 36 f fd ["_law_codes_here", "_law_reader"] (spAsked C B) := by
  obtain ⟨X, Z, R', D', ⟨_, _, Th⟩, ⟨_, _, Wo⟩⟩ := D
  have GT := ok_thing (P := P) (w := w) (base := base) Th.F R' D' (⟨Z.mN, Z.eN.x, Z.mB, Z.eB.x⟩ : Er2 K mg cN cB)
  have GW := ok_word (P := P) (w := w) (base := base) Wo X Z
  refine F.F.ok scAsked (fun vs H Q E h => ?_) (fun cdv A outer st H vs Q E hr h => ?_)
  · obtain ⟨p, d, e, r, g, L, R, t, res, rfl, _⟩ := h
    rfl
  · obtain ⟨p, d, e, r, g, L, R, t, res, rfl, hC, G, hR, hD, k⟩ := h
    have hr31 : Room 31 _ := hr.mono (by decide)
    refine ⟨_, pss_one (ps_try (i := 2) scAsked.nd rfl rfl (by rfl) Z.mP Z.xP rfl rfl rfl
        (fun pn σ0 E => pss_one (ps_ret (pe_methX (pv 0) R'.cl Th.m GT hr31 Th.b .nil (passT rfl) (pa_cons (pv 1) pa_nil))))
        (fun e o => pss_one (ps_ret (pe_call GW (hr.hand (by decide) (by decide)) (by rfl) Wo.m Wo.F.kp Wo.b .nil pass0 (pa_cons (pv 2) pa_nil))))), ?_⟩
    obtain ⟨dx, hp⟩ := hC.ob
    refine ⟨rfl, _, rfl, p, dx, _, rfl, hp, fC_no _ _ (by decide +kernel) (by decide +kernel), _, rfl, p, d, e, r, g, L, R, t, res, rfl, hC, G, hR, hD, ?_⟩
    cases res with
    | thing q s => exact fun H' hR' oth => k _ _ _ ⟨rfl, rfl⟩ hR' oth
    | bad =>
      refine fun H' hR' oth => ⟨cB, rfl, Z.eB.x, Z.eB.n, Z.eB.s, fun e vs he => ?_⟩
      refine ⟨_, rfl, e, cB, true, false, rfl, ⟨vs, upd_same⟩, Z.eB, fun p' l' H1 h1 h2 s1 => ?_⟩
      have ss := (same_new he).trans s1
      exact k _ _ _ ⟨rfl, p', l', rfl, h1, h2⟩ (hR'.same ss) fun c o z hn => ss _ _ (oth c o z hn)
    | none =>
      refine fun H' hR' oth => ⟨cN, rfl, Z.eN.x, Z.eN.n, Z.eN.s, fun e vs he => ?_⟩
      refine ⟨_, rfl, e, cN, false, true, rfl, ⟨vs, upd_same⟩, Z.eN, fun p' l' H1 h1 h2 s1 => ?_⟩
      have ss := (same_new he).trans s1
      exact k _ _ _ ⟨rfl, p', l', rfl, h1, h2⟩ (hR'.same ss) fun c o z hn => ss _ _ (oth c o z hn)
end
end K10

set_option Elab.async false
set_option linter.all false
set_option maxRecDepth 100000
set_option maxHeartbeats 4000000
namespace K10
open PySem L2 QQ C9 C10
seal PE PA PS PSs PT PW PG PI
/-- names of the text's top that only the law's own defs ask for -/
structure TxL (K : PySem.W.Frag) (mg : Str → Option Value) : Prop where
  X : K10.C.Txt K mg
  str : mg "str" = none
/-! ### texts of bits -/
theorem join_bits (B : List Bool) : Txt.join (Str.ofString "") (B.map fun b => txt [b]) = txt B := by
  have e0 : (Str.ofString "") = ⟨#[]⟩ := by decide +kernel
  show Builtin.Str.glued _ _ = _
  rw [StrLaws.glued_eq_join, e0]
  have key : ∀ (B : List Bool) (b : Bool), Str.join ⟨#[]⟩ ((b :: B).map fun b => txt [b]) = txt (b :: B) := by
    intro B
    induction B with
    | nil => intro b; rfl
    | cons a B ih =>
      intro b
      show txt [b] ++ ⟨#[]⟩ ++ Str.join ⟨#[]⟩ ((a :: B).map fun b => txt [b]) = _
      rw [ih a]
      have e : txt [b] ++ (⟨#[]⟩ : Str) = txt [b] := Str.append_right_empty rfl
      rw [e, txt_append]
      rfl
  cases B with
  | nil => rfl
  | cons b B => exact key B b
theorem sum_bits (B : List Bool) : ((B.map fun b => txt [b]).map (·.length)).sum = B.length := by
  induction B with
  | nil => rfl
  | cons b B ih =>
    have e : (txt [b]).length = 1 := txt_length [b]
    rw [List.map_cons, List.map_cons, List.sum_cons, ih, e, List.length_cons]
    omega
theorem join_ok {B : List Bool} (h : B.length ≤ 1000) : JoinOk (Str.ofString "") (B.map fun b => txt [b]) = true := by
  refine PyProof.Rows.joinOk_of_weight ?_ (by decide +kernel)
  rw [sum_bits, List.length_map]
  omega
/-- the bits of a number, the lowest first -/
def low (c s : Nat) : List Bool := (List.range s).map fun k => decide (c / 2 ^ k % 2 = 1)
theorem low_rev (c : Nat) : ∀ s, (low c s).reverse = BP.dig c s
  | 0 => rfl
  | s + 1 => by
    unfold low
    rw [List.range_succ, List.map_append, List.reverse_append]
    show decide (c / 2 ^ s % 2 = 1) :: (low c s).reverse = _
    rw [low_rev c s]
    rfl
theorem low_length (c s : Nat) : (low c s).length = s := by simp [low]
theorem low_snoc (c s : Nat) : low c (s + 1) = low c s ++ [decide (c / 2 ^ s % 2 = 1)] := by
  unfold low
  rw [List.range_succ, List.map_append]
  rfl
theorem str_bit (c k : Nat) : (Str.ofString (toString (Builtin.bitAnd (((c / 2 ^ k : Nat) : Int)) 1))) = txt [decide (c / 2 ^ k % 2 = 1)] := by
  have e := and_mask (c / 2 ^ k) 1
  have e1 : ((2 ^ 1 - 1 : Nat) : Int) = 1 := by decide
  rw [e1] at e
  rw [e, Nat.pow_one]
  have h2 := Nat.mod_lt (c / 2 ^ k) (show 0 < 2 by decide)
  by_cases h : c / 2 ^ k % 2 = 1
  · rw [h]; decide +kernel
  · rw [show c / 2 ^ k % 2 = 0 by omega]; decide +kernel
theorem log_bit (c k : Nat) : (Builtin.bitAnd (((c / 2 ^ k : Nat) : Int)) 1).natAbs.log2 < 1920 := by
  have e := and_mask (c / 2 ^ k) 1
  have e1 : ((2 ^ 1 - 1 : Nat) : Int) = 1 := by decide
  rw [e1] at e
  rw [e, Nat.pow_one]
  have h2 := Nat.mod_lt (c / 2 ^ k) (show 0 < 2 by decide)
  by_cases h : c / 2 ^ k % 2 = 1
  · rw [h]; decide +kernel
  · rw [show c / 2 ^ k % 2 = 0 by omega]; decide +kernel
theorem ndT1 : (["_law_k", "_law_one"] : List Str).Nodup := by decide +kernel
section
variable {P : Program} {w : World} {K : PySem.W.Frag} {mg : Str → Option Value} {base : Heap}
/-! ### _law_texts -/
def spTexts : Sp := fun vs H Q _ => ∃ (a : Addr) (L : List Nat), vs = [.ref a] ∧ H a = some (.lst (L.map vN)) ∧ Good L ∧ ∀ l H', H l = none → Same H H' → H' l = some (.lst ((texts L).map V.str)) → Q (.ref l) H'
abbrev nTexts : List Str := ["_law_lengths_here", "_law_found", "_law_one", "_law_bits_here"]
theorem scTexts : FnScope nTexts ["_law_lengths_here"] (defScope sTexts) := ⟨rfl, rfl, rfl, by decide +kernel, rfl, by decide +kernel, by decide +kernel⟩
abbrev teBit (K : PySem.W.Frag) : TE := tCB (fun xs H Q => ∃ i : Int, xs = [.int i] ∧ i.natAbs.log2 < 1920 ∧ Q (.str (toString i)) H) (tCons (tOp (rI0 fun i j => .int (Builtin.bitAnd i j)) (tOp (rI (fun _ j => 0 ≤ j) fun i j => .int (i / 2 ^ j.toNat)) (tOp (rIxT K) (tVar 1) (tC (.int 0))) (tVar 0)) (tC (.int 1))) tNil)
theorem ok_texts {f fC : Addr} {fd fdC : FuncData} (F : Fn K mg "_law_texts" sTexts ["_law_lengths_here"] f fd) (Lc : Fn K mg "_law_codes" sLCodes ["_law_lengths_here"] fC fdC) (T : TxL K mg) : FnOk P w K mg base CX0 31 f fd ["_law_lengths_here"] spTexts := by
  have GC := K10.C.ok_lcodes (P := P) (w := w) (base := base) Lc T.X
  refine F.F.ok scTexts (fun vs H Q E h => ?_) (fun cdv A outer st H vs Q E hr h => ?_)
  · obtain ⟨a, L, rfl, _⟩ := h
    rfl
  · obtain ⟨a, L, rfl, ha, G, k⟩ := h
    have hr1 : Room 1 _ := hr.mono (by decide)
    have hcaps : ∀ (x : Str), ((x, NameKind.cell) ∈ ([(".0", .local), ("_law_k", .local), ("str", .globalImplicit), ("_law_one", .cell)] : List (Str × NameKind)) → x = "_law_one") ∧ (x, NameKind.free) ∉ ([(".0", .local), ("_law_k", .local), ("str", .globalImplicit), ("_law_one", .cell)] : List (Str × NameKind)) := fun x => ⟨fun m => by simpa using m, fun m => by simp at m⟩
    refine ⟨_, pss_cons (ps_set (i := 1) scTexts.nd rfl (Or.inl rfl) (pe_lst pa_nil))
      (pss_cons (ps_for PassesOwn.never rfl (pi_list (pe_call GC hr1 (by rfl) Lc.m Lc.F.kp Lc.b .nil pass0 (pa_cons (pv 0) pa_nil))) (pg_name (i := 2) scTexts.nd rfl (Or.inr rfl))
        (pss_one (ps_if (pt_cmp (pc_isN (pv 2)))
          (pss_one (ps_expr (pe_bm PySem.F.plainAttrs_list PySem.F.slot_list_append PySem.F.type_list_append mt_append (pv 1) (pa_cons pe_str pa_nil))))
          (pss_cons (ps_set (i := 3) scTexts.nd rfl (Or.inl rfl) (pe_bm PySem.F.plainAttrs_str PySem.F.slot_str_join PySem.F.type_str_join mt_join pe_str (pa_cons
            (pe_compC (N := ["_law_k", "_law_one"]) (js := [none, some 2]) (cl := [("_law_one", st.heap.objs.size + 1)]) (g := gName 0) (te := teBit K) rfl
              ⟨rfl, by decide +kernel, by decide +kernel, by rfl, fun x c h => (by obtain ⟨rfl, rfl⟩ := lookup_one h; rfl), fun x hx => ?c1, rfl, fun i x j h1 h2 => ?c2⟩
              (pi_range1 (by rfl) T.X.range (pa_cons (pe_ix ix_tup (pv 2) pe_int (fun _ _ => rfl)) pa_nil)) (fun fp s H => pg_name (i := 0) ndT1 rfl (Or.inl rfl))
              (fun fp s H => pe_callTy call_str_int (by rfl) T.str PyProof.Rows.boot_str (pa_cons (pe_op op_and (pe_op op_shr (pe_ix (ix_tupK (K := K) rfl) (pv 1) pe_int (fun _ _ => rfl)) (pv 0)) pe_int) pa_nil))) pa_nil)))
          (pss_one (ps_expr (pe_bm PySem.F.plainAttrs_list PySem.F.slot_list_append PySem.F.type_list_append mt_append (pv 1) (pa_cons (pe_revS (pv 3) (pe_un un_neg pe_int)) pa_nil))))))))
      (pss_one (ps_ret (pv 1)))), ?_⟩
    case c1 =>
      rcases hx with hx | hx
      · have e := (hcaps x).1 (PySem.mem_of_lookup hx)
        subst e
        exact ⟨_, rfl⟩
      · exact absurd (PySem.mem_of_lookup hx) (hcaps x).2
    case c2 =>
      match i, h1, h2 with
      | 0, _, h2 => cases h2
      | 1, h1, h2 =>
        cases h1
        cases h2
        exact ⟨rfl, rfl, rfl, fun c h => h⟩
      | i + 2, h1, _ => cases h1
    have hcl : (codes L).length = L.length := by unfold codes; rw [row_length]
    have hL3 := G.le
    refine seq_g fun R1 g1 => ?_
    refine ⟨(by show 0 ≤ sizeLine; decide), fun l nl => g1 _ _ ?_⟩
    clear g1
    have s1 := same_new (o := .lst []) nl
    refine seq_g fun R1 g1 => ?_
    refine ⟨_, rfl, a, L, rfl, s1 _ _ ha, G.le, fun lc xs H1 nlc s2 hlc hC => ?_⟩
    have nll : l ≠ lc := fun z => by rw [← z, upd_same] at nlc; cases nlc
    have nlcH : H lc = none := none_of s1 nlc
    refine ⟨lc, rfl, ⟨_, SqL.of hlc⟩, for_list (D := ⟨_, _, fun _ _ => False, fun _ _ => False⟩) (K := K) (a := lc) (xs := xs) (fun i σ H2 => ∃ v2 v3 : Option V, σ = [some (.ref a), some (.ref l), v2, v3] ∧ H2 l = some (.lst (((texts L).take i).map V.str)) ∧ H2 lc = some (.lst xs) ∧ K10.C.CL H2 xs (codes L) ∧ Same H H2)
      ⟨none, none, rfl, s2 _ _ upd_same, hlc, hC, s1.trans s2⟩ (fun i σ H' _ ⟨_, _, _, _, z, _⟩ => SqL.of z) ?_ ?_⟩
    · clear g1
      rintro i x σ H2 hx ⟨v2, v3, rfl, hl2, hlc2, hC2, sm⟩
      have hil : i < (codes L).length := by rw [← hC2.1]; exact (List.getElem?_eq_some_iff.mp hx).1
      have ot := hC2.2 i x _ hx (List.getElem?_eq_getElem hil)
      have het : (texts L)[i]? = some (cT (codes L)[i]) := by unfold texts; rw [List.getElem?_map, List.getElem?_eq_getElem hil]; rfl
      have etk : (texts L).take (i + 1) = (texts L).take i ++ [cT (codes L)[i]] := by rw [List.take_add_one, het]; rfl
      have hlen : ((texts L).take i).length ≤ 300 := by rw [List.length_take]; unfold texts; rw [List.length_map]; omega
      have fin : ∀ (v3 : Option V) (H3 : Hp), Same H2 H3 → ∃ w2 w3 : Option V, [some (V.ref a), some (V.ref l), some x, v3] = [some (.ref a), some (.ref l), w2, w3] ∧ (upd H3 l (.lst (((texts L).take (i + 1)).map V.str))) l = some (.lst (((texts L).take (i + 1)).map V.str)) ∧ (upd H3 l (.lst (((texts L).take (i + 1)).map V.str))) lc = some (.lst xs) ∧ K10.C.CL (upd H3 l (.lst (((texts L).take (i + 1)).map V.str))) xs (codes L) ∧ Same H (upd H3 l (.lst (((texts L).take (i + 1)).map V.str))) := fun v3 H3 s3 =>
        ⟨_, _, rfl, upd_same, by rw [upd_ne nll.symm]; exact s3 _ _ hlc2, hC2.keep fun t ys e => by rw [upd_ne (ne_of e hl2 (by intro z; cases z))]; exact s3 _ _ e, fun c o e => by rw [upd_ne (ne_of_none e nl)]; exact s3 _ _ (sm _ _ e)⟩
      cases eo : (codes L)[i] with
      | none =>
        rw [eo] at ot
        have ex : x = .non := ot
        subst ex
        refine ⟨_, rfl, _, rfl, iteT ?_⟩
        refine ⟨_, rfl, .inl ⟨rfl, _, SqL.of hl2⟩, l, _, _, rfl, rfl, hl2, K10.C.sl2000' (by rw [List.length_map]; omega), ?_⟩
        have e1 : (((texts L).take i).map V.str) ++ [V.str (Str.ofString "none")] = ((texts L).take (i + 1)).map V.str := by
          rw [etk, eo, List.map_append]; rfl
        try dsimp only
        rw [e1]
        exact fin v3 H2 (Same.refl H2)
      | some c =>
        rw [eo] at ot
        obtain ⟨u, rfl, hu⟩ := ot
        have hcs := codes_some G (c := c) (q := i) (by rw [List.getElem?_eq_getElem hil, eo])
        have hc12 := get_le G hcs.1
        refine ⟨_, rfl, _, rfl, iteF ?_⟩
        refine seq_g fun R2 g2 => ?_
        refine ⟨rfl, _, rfl, u, _, _, _, rfl, rfl, SqT.of hu, atI_nat (j := 1) rfl, ((c.2 : Nat) : Int), rfl, by omega, by omega, ?_⟩
        try dsimp only
        rw [Int.toNat_natCast]
        intro lj nlj
        refine compC_rng (lo := 0) (l := lj) (k := c.2) (g := gName 0) (te := teBit K) (fun n ys σ' H' => ∃ v0 : Option V, ys = ((low c.1 n).map fun b => txt [b]).map V.str ∧ σ' = [v0, some (.ref u)] ∧ H' lj = some (.lst ys) ∧ Same H2 H')
          ⟨none, rfl, rfl, upd_same, same_new nlj⟩ ?_ ?_ ?_ ?_
        · rintro n ys σ' H' hn ⟨v0, rfl, rfl, hlj, s3⟩
          have en : (0 : Int) + ((n : Nat) : Int) = ((n : Nat) : Int) := by omega
          try dsimp only
          rw [en]
          refine ⟨_, rfl, u, _, _, _, rfl, rfl, SqT.of (s3 _ _ hu), atI_nat (j := 0) rfl, _, rfl, _, _, rfl, rfl, (by show (0 : Int) ≤ ((n : Nat) : Int); omega), _, _, rfl, rfl, ?_⟩
          try dsimp only
          rw [shr_nat]
          refine ⟨_, rfl, log_bit _ _, hlj, K10.C.sl2000' (by rw [List.length_map, List.length_map, low_length]; omega), _, ?_, rfl, upd_same, fun d o e => ?_⟩
          · rw [low_snoc, List.map_append, List.map_append]
            have := str_bit c.1 n
            try dsimp only
            exact congrArg (fun z => List.map V.str (List.map (fun b => txt [b]) (low c.1 n)) ++ [V.str z]) this
          · rw [upd_ne (ne_of_none e nlj)]; exact s3 _ _ e
        · rintro ys σ' H3 ⟨v0, rfl, rfl, hlj, s3⟩
          refine ⟨_, lj, _, rfl, rfl, hlj, join_ok (by rw [low_length]; omega), g2 _ _ ?_⟩
          clear g2
          try dsimp only
          rw [join_bits]
          have hl3 := s3 _ _ hl2
          refine ⟨_, rfl, .inl ⟨rfl, _, SqL.of hl3⟩, _, rfl, _, rfl, _, rfl, rfl, (by rw [txt_length, low_length]; exact K10.C.sl2000 (by omega)), l, _, _, rfl, rfl, hl3, K10.C.sl2000' (by rw [List.length_map]; omega), ?_⟩
          have e1 : (((texts L).take i).map V.str) ++ [V.str (revS (txt (low c.1 c.2)))] = ((texts L).take (i + 1)).map V.str := by
            rw [etk, eo, List.map_append, txt_rev, low_rev]; rfl
          try dsimp only
          rw [e1]
          exact fin _ H3 s3
        · exact fun x σ H A B h z => h _ _ z
        · exact fun σ H A B h ⟨v, e1, p1, p2, p3, p4, e2, e3, z1, z2, v2, e4, i1, j1, e5, e6, c1, i2, j2, e7, e8, i3, e9, c2, z⟩ => ⟨v, e1, p1, p2, p3, p4, e2, e3, z1, z2, v2, e4, i1, j1, e5, e6, c1, i2, j2, e7, e8, i3, e9, c2, h _ _ z⟩
    · rintro σ H2 ⟨v2, v3, rfl, hl2, hlc2, hC2, sm⟩
      have e1 : (texts L).take xs.length = texts L := by
        apply List.take_of_length_le
        unfold texts
        rw [List.length_map, hC2.1]
        exact Nat.le_refl _
      rw [e1] at hl2
      exact g1 _ _ ⟨_, rfl, k l H2 nl sm hl2⟩
end
end K10

set_option Elab.async false
set_option linter.all false
set_option maxRecDepth 100000
set_option maxHeartbeats 4000000
namespace K10
open PySem L2 QQ C9 C10
seal PE PA PS PSs PT PW PG PI
/-- the words of the codes that are there -/
def ws (cs : List (Option (Nat × Nat))) : List (List Bool) := cs.filterMap fun o => o.map wd
theorem ws_len {L : List Nat} (g : Good L) {u : List Bool} (h : u ∈ ws (codes L)) : 1 ≤ u.length ∧ u.length ≤ 12 := by
  obtain ⟨o, ho, e⟩ := List.mem_filterMap.mp h
  cases o with
  | none => cases e
  | some c =>
    cases e
    obtain ⟨q, hq⟩ := List.mem_iff_getElem?.mp ho
    have hc := codes_some g hq
    rw [wd_length]
    exact ⟨hc.2.1, get_le g hc.1⟩
theorem ws_ne {L : List Nat} (g : Good L) : ws (codes L) ≠ [] := by
  obtain ⟨l, hl, h0⟩ := g.some
  obtain ⟨q, hq⟩ := List.mem_iff_getElem?.mp hl
  have := codes_of_get g hq h0
  have hm : wd (cdAt L q l, l) ∈ ws (codes L) := List.mem_filterMap.mpr ⟨_, List.mem_of_getElem? this, rfl⟩
  intro e
  rw [e] at hm
  cases hm
theorem pick {WS : List (List Bool)} (h : WS ≠ []) (i : Int) : ∃ u ∈ WS, atI ((WS.map txt).map V.str) (i % ((((WS.map txt).map V.str).length : Nat) : Int)) = some (.str (txt u)) := by
  have hl : 0 < WS.length := List.length_pos_iff.mpr h
  rw [List.length_map, List.length_map]
  obtain ⟨j, hj, ej⟩ : ∃ j : Nat, j < WS.length ∧ i % ((WS.length : Nat) : Int) = ((j : Nat) : Int) := by
    have h1 := Int.emod_nonneg i (show ((WS.length : Nat) : Int) ≠ 0 by omega)
    have h2 := Int.emod_lt_of_pos i (show (0 : Int) < ((WS.length : Nat) : Int) by omega)
    exact ⟨(i % ((WS.length : Nat) : Int)).toNat, by omega, by omega⟩
  refine ⟨WS[j], List.getElem_mem hj, ?_⟩
  rw [ej]
  refine atI_nat (j := j) ?_
  simp [hj]
theorem t101 : (Str.ofString "101" : Str) = txt [true, false, true] := by decide +kernel
theorem ndB0 : (["_law_text"] : List Str).Nodup := by decide +kernel
theorem ndB1 : (["_law_k", "_law_number"] : List Str).Nodup := by decide +kernel
section
variable {P : Program} {w : World} {K : PySem.W.Frag} {mg : Str → Option Value} {base : Heap}
/-! ### _law_bits -/
def spBits (K : PySem.W.Frag) : Sp := fun vs H Q _ => ∃ (a l : Addr) (ns : List Int) (L : List Nat), vs = [.ref a, .ref l] ∧ SqL K H a (ns.map V.int) ∧ H l = some (.lst ((texts L).map V.str)) ∧ Good L ∧ ∀ (p : Addr) (bs : List Bool) (z : Nat) (H' : Hp), H' p = some (.tup [.str (txt bs), vN z]) → z ≤ 3 → z ≤ bs.length → bs.length ≤ 200 → Same H H' → Q (.ref p) H'
abbrev nBits : List Str := ["_law_script", "_law_texts_here", "_law_some", "_law_bits_here", "_law_ahead", "_law_k", "_law_number", "_law_text"]
theorem scBits : FnScope nBits ["_law_script", "_law_texts_here"] (defScope sBits) := ⟨rfl, rfl, rfl, by decide +kernel, rfl, by decide +kernel, by decide +kernel⟩
abbrev ttNone : TT := tTest (tOp rNe (tVar 0) (tC (.str (Str.ofString "none"))))
abbrev teBitN : TE := tCB (fun xs H Q => ∃ i : Int, xs = [.int i] ∧ i.natAbs.log2 < 1920 ∧ Q (.str (toString i)) H) (tCons (tOp (rI0 fun i j => .int (Builtin.bitAnd i j)) (tOp (rI (fun _ j => 0 ≤ j) fun i j => .int (i / 2 ^ j.toNat)) (tVar 1) (tVar 0)) (tC (.int 1))) tNil)
theorem ok_bits {f fC fM : Addr} {fd fdC fdM : FuncData} (F : Fn K mg "_law_bits" sBits ["_law_script", "_law_texts_here"] f fd) (Ce : Fn K mg "_law_cell_at" sCellAt ["_law_script", "_law_k"] fC fdC) (Mi : Fn K mg "_law_mixed" sMixed ["_law_cell", "_law_k"] fM fdM) (T : TxL K mg) : FnOk P w K mg base CX0 31 f fd ["_law_script", "_law_texts_here"] (spBits K) := by
  have GC := K10.C.ok_cell (P := P) (w := w) (base := base) Ce T.X
  have GM := K10.C.ok_mixed (P := P) (w := w) (base := base) Mi
  refine F.F.ok scBits (fun vs H Q E h => ?_) (fun cdv A outer st H vs Q E hr h => ?_)
  · obtain ⟨a, l, ns, L, rfl, _⟩ := h
    rfl
  · obtain ⟨a, l, ns, L, rfl, hS, hl, G, k⟩ := h
    have hr1 : Room 1 _ := hr.mono (by decide)
    have hcaps : ∀ (x : Str), ((x, NameKind.cell) ∈ ([(".0", .local), ("_law_k", .local), ("str", .globalImplicit), ("_law_number", .cell)] : List (Str × NameKind)) → x = "_law_number") ∧ (x, NameKind.free) ∉ ([(".0", .local), ("_law_k", .local), ("str", .globalImplicit), ("_law_number", .cell)] : List (Str × NameKind)) := fun x => ⟨fun m => by simpa using m, fun m => by simp at m⟩
    refine ⟨_, pss_cons (ps_setCI (i := 2) (N := ["_law_text"]) (g := gName 0) (tt := ttNone) (te := tVar 0) scBits.nd rfl (Or.inl rfl) rfl rfl (by decide +kernel) (by decide +kernel) (by decide +kernel) (pi_list (pv 1)) (fun fp s H => pg_name (i := 0) ndB0 rfl (Or.inl rfl)) (fun fp s H => pt_cmpR op_ne (pv 0) pe_str (nomark _)) (fun fp s H => pv 0) (by rfl))
      (pss_cons (ps_set (i := 3) scBits.nd rfl (Or.inl rfl) (pe_slice sl_str pe_str po_none (po_some (pe_op op_mod (pe_call GC hr1 (by rfl) Ce.m Ce.F.kp Ce.b .nil pass0 (pa_cons (pv 0) (pa_cons pe_int pa_nil))) pe_int))))
      (pss_cons (ps_set (i := 4) scBits.nd rfl (Or.inl rfl) (pe_callB call_len_str (by rfl) T.X.len PySem.boot_len (pa_cons (pv 3) pa_nil)))
      (pss_cons (ps_for PassesOwn.never rfl (pi_range1 (by rfl) T.X.range (pa_cons (pe_op op_mod (pe_op op_fdiv (pe_call GC hr1 (by rfl) Ce.m Ce.F.kp Ce.b .nil pass0 (pa_cons (pv 0) (pa_cons pe_int pa_nil))) pe_int) pe_int) pa_nil)) (pg_name (i := 5) scBits.nd rfl (Or.inl rfl))
        (pss_one (ps_set (i := 3) scBits.nd rfl (Or.inl rfl) (pe_op op_add_str (pv 3) (pe_ix ix_list (pv 2) (pe_op op_mod (pe_op op_fdiv (pe_call GM hr1 (by rfl) Mi.m Mi.F.kp Mi.b .nil pass0 (pa_cons (pe_op op_fdiv (pe_call GC hr1 (by rfl) Ce.m Ce.F.kp Ce.b .nil pass0 (pa_cons (pv 0) (pa_cons pe_int pa_nil))) pe_int) (pa_cons (pe_op op_add (pv 5) pe_int) pa_nil))) pe_int) (pe_callB call_len_seq (by rfl) T.X.len PySem.boot_len (pa_cons (pv 2) pa_nil))) (fun _ _ => rfl))))))
      (pss_cons (ps_set (i := 6) scBits.nd rfl (Or.inr rfl) (pe_call GM hr1 (by rfl) Mi.m Mi.F.kp Mi.b .nil pass0 (pa_cons (pe_op op_fdiv (pe_call GC hr1 (by rfl) Ce.m Ce.F.kp Ce.b .nil pass0 (pa_cons (pv 0) (pa_cons pe_int pa_nil))) pe_int) (pa_cons pe_int pa_nil))))
      (pss_cons (ps_set (i := 3) scBits.nd rfl (Or.inl rfl) (pe_op op_add_str (pv 3) (pe_bm PySem.F.plainAttrs_str PySem.F.slot_str_join PySem.F.type_str_join mt_join pe_str (pa_cons
          (pe_compC (N := ["_law_k", "_law_number"]) (js := [none, some 6]) (cl := [("_law_number", st.heap.objs.size + 1)]) (g := gName 0) (te := teBitN) rfl
            ⟨rfl, by decide +kernel, by decide +kernel, by rfl, fun x c h => (by obtain ⟨rfl, rfl⟩ := lookup_one h; rfl), fun x hx => ?c1, rfl, fun i x j h1 h2 => ?c2⟩
            (pi_range1 (by rfl) T.X.range (pa_cons (pe_op op_mod (pe_op op_fdiv (pv 6) pe_int) pe_int) pa_nil)) (fun fp s H => pg_name (i := 0) ndB1 rfl (Or.inl rfl))
            (fun fp s H => pe_callTy call_str_int (by rfl) T.str PyProof.Rows.boot_str (pa_cons (pe_op op_and (pe_op op_shr (pv 1) (pv 0)) pe_int) pa_nil))) pa_nil))))
      (pss_cons (ps_if (pt_cmpR op_eq (pe_op op_mod (pe_op op_fdiv (pv 6) pe_int) pe_int) pe_int (nomark _))
        (pss_cons (ps_set (i := 7) scBits.nd rfl (Or.inl rfl) (pe_ix ix_list (pv 2) (pe_op op_mod (pe_op op_fdiv (pv 6) pe_int) (pe_callB call_len_seq (by rfl) T.X.len PySem.boot_len (pa_cons (pv 2) pa_nil))) (fun _ _ => rfl)))
        (pss_one (ps_set (i := 3) scBits.nd rfl (Or.inl rfl) (pe_op op_add_str (pv 3) (pe_slice sl_str (pv 7) po_none (po_some (pe_op op_mod (pe_op op_fdiv (pv 6) pe_int) (pe_callB call_len_str (by rfl) T.X.len PySem.boot_len (pa_cons (pv 7) pa_nil))))))))) pss_nil)
      (pss_one (ps_ret (pe_tup (pa_cons (pv 3) (pa_cons (pv 4) pa_nil))))))))))), ?_⟩
    case c1 =>
      rcases hx with hx | hx
      · have e := (hcaps x).1 (PySem.mem_of_lookup hx)
        subst e
        exact ⟨_, rfl⟩
      · exact absurd (PySem.mem_of_lookup hx) (hcaps x).2
    case c2 =>
      match i, h1, h2 with
      | 0, _, h2 => cases h2
      | 1, h1, h2 =>
        cases h1
        cases h2
        exact ⟨rfl, rfl, rfl, fun c h => h⟩
      | i + 2, h1, _ => cases h1
    have hcl : (codes L).length = L.length := by unfold codes; rw [row_length]
    have hL3 := G.le
    -- the codes that are there
    refine seq_g fun R1 g1 => ?_
    refine ⟨_, rfl, l, rfl, ⟨_, SqL.of hl⟩, fun lw nlw => ?_⟩
    refine compI_li (K := K) (a := l) (l := lw) (xs := (texts L).map V.str) (n := 1) (g := gName 0) (tt := ttNone) (te := tVar 0)
      (fun i ys H' => ys = ((ws ((codes L).take i)).map txt).map V.str ∧ H' lw = some (.lst ys) ∧ Same H H') ⟨rfl, upd_same, same_new nlw⟩ (fun i ys H' _ ⟨_, _, sm⟩ => SqL.of (sm _ _ hl)) ?_ ?_ ?_ ?_ ?_
    · clear g1
      rintro i x ys σ H' hx ⟨rfl, hlw, sm⟩ hσ
      obtain ⟨u0, rfl⟩ : ∃ u0, σ = [u0] := match σ, hσ with | [u0], _ => ⟨u0, rfl⟩
      obtain ⟨o, ho, rfl⟩ : ∃ o, (codes L)[i]? = some o ∧ x = .str (cT o) := by
        unfold texts at hx
        rw [List.getElem?_map, List.getElem?_map] at hx
        cases e : (codes L)[i]? with
        | none => rw [e] at hx; cases hx
        | some o => rw [e] at hx; exact ⟨o, rfl, (Option.some.inj hx).symm⟩
      have hil : i < (codes L).length := (List.getElem?_eq_some_iff.mp ho).1
      have et : ws ((codes L).take (i + 1)) = ws ((codes L).take i) ++ ws [o] := by
        unfold ws
        rw [List.take_add_one, ho, List.filterMap_append]
        rfl
      have hlen : (ws ((codes L).take i)).length ≤ 300 := by
        unfold ws
        exact Nat.le_trans (List.length_filterMap_le _ _) (by rw [List.length_take]; omega)
      refine ⟨_, rfl, rfl, _, rfl, ?_⟩
      cases o with
      | none =>
        have e1 : (!decide (V.str (cT none) = V.str (Str.ofString "none"))) = false := by rw [decide_eq_true (show V.str (cT none) = V.str (Str.ofString "none") from rfl)]; rfl
        try dsimp only
        rw [e1, if_neg Bool.false_ne_true, et]
        refine ⟨rfl, ?_, hlw, sm⟩
        show _ = ((_ ++ []).map txt).map V.str
        rw [List.append_nil]
      | some c =>
        have e1 : (!decide (V.str (cT (some c)) = V.str (Str.ofString "none"))) = true := by
          show (!decide (V.str (txt (wd c)) = V.str (Str.ofString "none"))) = true
          rw [decide_eq_false (fun z => none_txt (wd c) (V.str.inj z))]
          rfl
        try dsimp only
        rw [e1, if_pos rfl, et]
        refine ⟨_, rfl, hlw, K10.C.sl2000' (by rw [List.length_map, List.length_map]; omega), rfl, ?_, upd_same, fun c o e => ?_⟩
        · rw [List.map_append, List.map_append]; rfl
        · rw [upd_ne (ne_of_none e nlw)]; exact sm _ _ e
    rotate_left
    · exact fun x σ H A B h z => h _ _ z
    · exact fun σ H A B h ⟨v, e1, s, c, e2, z⟩ => ⟨v, e1, s, c, e2, h _ _ z⟩
    · exact fun σ H A B h ⟨v, e1, z⟩ => ⟨v, e1, h _ _ z⟩
    rintro ys H1 ⟨rfl, hlw, s1⟩
    have e0 : (codes L).take ((texts L).map V.str).length = codes L := by
      apply List.take_of_length_le
      unfold texts
      rw [List.length_map, List.length_map]
      exact Nat.le_refl _
    rw [e0] at hlw
    have hlm : ∀ u ∈ ws (codes L), 1 ≤ u.length ∧ u.length ≤ 12 := fun u hu => ws_len G hu
    have hwn := ws_ne G
    have hwl : (ws (codes L)).length ≤ 300 := by
      unfold ws
      exact Nat.le_trans (List.length_filterMap_le _ _) (by omega)
    have hS1 := s1.seq hS
    generalize ws (codes L) = WS at *
    refine g1 _ _ ?_
    clear g1
    have hlen0 : (0 : Int) < ((((WS.map txt).map V.str).length : Nat) : Int) := by
      rw [List.length_map, List.length_map]
      have := List.length_pos_iff.mpr hwn
      omega
    have hlenU : ((((WS.map txt).map V.str).length : Nat) : Int) < 1000 := by rw [List.length_map, List.length_map]; omega
    obtain ⟨z, hz, ez⟩ : ∃ z : Nat, z ≤ 3 ∧ ns.getD 2 0 % 4 = ((z : Nat) : Int) := ⟨(ns.getD 2 0 % 4).toNat, by omega, by omega⟩
    obtain ⟨m, hm, em⟩ : ∃ m : Nat, m ≤ 9 ∧ ns.getD 2 0 / 4 % 10 = ((m : Nat) : Int) := ⟨(ns.getD 2 0 / 4 % 10).toNat, by omega, by omega⟩
    -- the bits ahead
    refine seq_g fun R1 g1 => ?_
    refine ⟨_, rfl, a, ns, 2, rfl, hS1, _, _, rfl, rfl, (by show (0 : Int) < 4; decide), _, rfl, ?_⟩
    try dsimp only
    rw [ez]
    refine ⟨_, rfl, K10.C.sl2000 (by decide +kernel), ?_⟩
    try dsimp only
    rw [t101, txt_sliceL (show z ≤ 3 from hz)]
    refine g1 _ _ ?_
    clear g1
    have hb0 : ([true, false, true].take z).length = z := by rw [List.length_take]; show min z 3 = z; omega
    generalize [true, false, true].take z = b0 at *
    refine seq_g fun R1 g1 => ?_
    refine ⟨_, rfl, _, rfl, (by rw [txt_length]; exact K10.C.sl2000 (by omega)), g1 _ _ ?_⟩
    clear g1
    try dsimp only
    rw [txt_length, hb0]
    -- the things
    refine seq_g fun R1 g1 => ?_
    refine ⟨_, rfl, a, ns, 2, rfl, hS1, _, _, rfl, rfl, ⟨by decide, by decide⟩, _, _, rfl, rfl, (by show (0 : Int) < 10; decide), ?_⟩
    try dsimp only
    rw [em]
    refine ⟨_, rfl, by omega, by omega, ?_⟩
    try dsimp only
    rw [Int.toNat_natCast]
    refine for_range (D := ⟨_, _, fun _ _ => False, fun _ _ => False⟩) (lo := 0) (n := m) (fun i σ H2 => ∃ (v5 : Option V) (bs : List Bool), σ = [some (.ref a), some (.ref l), some (.ref lw), some (.str (txt bs)), some (vN z), v5, none, none] ∧ bs.length ≤ 3 + 12 * i ∧ z ≤ bs.length ∧ H2 = H1) ⟨none, b0, rfl, by omega, by omega, rfl⟩ ?_ ?_
    · clear g1
      rintro i σ H2 hi ⟨v5, bs, rfl, hbl, hzb, e2⟩
      subst e2
      have ei : (0 : Int) + ((i : Nat) : Int) = ((i : Nat) : Int) := by omega
      try dsimp only
      rw [ei]
      refine ⟨_, rfl, _, rfl, _, rfl, a, ns, 2, rfl, hS1, _, _, rfl, rfl, ⟨by decide, by decide⟩, _, rfl, _, _, rfl, rfl, _, _, rfl, (by omega), (by omega), fun n => ?_⟩
      refine ⟨_, _, rfl, rfl, ⟨by decide, by decide⟩, _, rfl, lw, _, rfl, .inl (SqL.of hlw), _, _, rfl, rfl, hlen0, ?_⟩
      obtain ⟨u, hu, hat⟩ := pick hwn (((n : Nat) : Int) / 7)
      have hul := hlm u hu
      refine ⟨lw, _, _, _, rfl, rfl, SqL.of hlw, hat, _, _, rfl, rfl, (by rw [txt_length, txt_length]; exact K10.C.sl2000 (by omega)), ?_⟩
      try dsimp only
      rw [txt_append]
      exact ⟨_, _, rfl, by rw [List.length_append]; omega, by rw [List.length_append]; omega, rfl⟩
    · rintro σ H2 ⟨v5, bs, rfl, hbl, hzb, e2⟩
      subst e2
      have hbl2 : bs.length ≤ 111 := by omega
      refine g1 _ _ ?_
      clear g1
      refine seq_g fun R1 g1 => ?_
      refine ⟨_, rfl, a, ns, 2, rfl, hS1, _, _, rfl, rfl, ⟨by decide, by decide⟩, _, 31, rfl, by decide, by decide, fun n => g1 _ _ ?_⟩
      clear g1
      refine seq_g fun R1 g1 => ?_
      obtain ⟨m8, hm8, em8⟩ : ∃ m : Nat, m ≤ 7 ∧ ((n : Nat) : Int) / 128 % 8 = ((m : Nat) : Int) := ⟨n / 128 % 8, by omega, by omega⟩
      refine ⟨_, rfl, rfl, _, rfl, _, _, rfl, rfl, ⟨by decide, by decide⟩, _, _, rfl, rfl, (by show (0 : Int) < 8; decide), ?_⟩
      try dsimp only
      rw [em8]
      refine ⟨_, rfl, by omega, by omega, ?_⟩
      try dsimp only
      rw [Int.toNat_natCast]
      intro lj nlj
      refine compC_rng (lo := 0) (l := lj) (k := m8) (g := gName 0) (te := teBitN) (fun i ys σ' H' => ∃ v0 : Option V, ys = ((low n i).map fun b => txt [b]).map V.str ∧ σ' = [v0, some (vN n)] ∧ H' lj = some (.lst ys) ∧ Same H2 H')
        ⟨none, rfl, rfl, upd_same, same_new nlj⟩ ?_ ?_ ?_ ?_
      · rintro i ys σ' H' hi ⟨v0, rfl, rfl, hlj, s3⟩
        have en : (0 : Int) + ((i : Nat) : Int) = ((i : Nat) : Int) := by omega
        try dsimp only
        rw [en]
        refine ⟨_, rfl, _, rfl, _, _, rfl, rfl, (by show (0 : Int) ≤ ((i : Nat) : Int); omega), _, _, rfl, rfl, ?_⟩
        try dsimp only
        rw [shr_nat]
        refine ⟨_, rfl, log_bit _ _, hlj, K10.C.sl2000' (by rw [List.length_map, List.length_map, low_length]; omega), _, ?_, rfl, upd_same, fun d o e => ?_⟩
        · rw [low_snoc, List.map_append, List.map_append]
          have := str_bit n i
          try dsimp only
          exact congrArg (fun z => List.map V.str (List.map (fun b => txt [b]) (low n i)) ++ [V.str z]) this
        · rw [upd_ne (ne_of_none e nlj)]; exact s3 _ _ e
      · rintro ys σ' H3 ⟨v0, rfl, rfl, hlj, s3⟩
        refine ⟨_, lj, _, rfl, rfl, hlj, join_ok (by rw [low_length]; omega), ?_⟩
        try dsimp only
        rw [join_bits]
        refine ⟨_, _, rfl, rfl, (by rw [txt_length, txt_length, low_length]; exact K10.C.sl2000 (by omega)), g1 _ _ ?_⟩
        clear g1
        try dsimp only
        rw [txt_append]
        have hb3 : (bs ++ low n m8).length ≤ 118 := by rw [List.length_append, low_length]; omega
        have hz3 : z ≤ (bs ++ low n m8).length := by rw [List.length_append]; omega
        generalize bs ++ low n m8 = cs at *
        have s13 := s1.trans s3
        have hlw3 := s3 _ _ hlw
        refine seq_g fun R1 g1 => ?_
        have J : ∀ (ds : List Bool) (v7 : Option V), ds.length ≤ 130 → z ≤ ds.length → R1 [some (.ref a), some (.ref l), some (.ref lw), some (.str (txt ds)), some (vN z), v5, some (vN n), v7] H3 := by
          intro ds v7 h1 h2
          refine g1 _ _ ⟨_, rfl, _, rfl, (by show 2 ≤ sizeLine; decide), fun p np => ?_⟩
          exact k p ds z _ upd_same hz h2 (by omega) (s13.trans (same_new np))
        clear g1
        refine ⟨_, rfl, _, _, rfl, rfl, ⟨by decide, by decide⟩, _, _, rfl, rfl, (by show (0 : Int) < 3; decide), rfl, _, rfl, ite2 (fun _ => ?_) (fun _ => J cs none (by omega) hz3)⟩
        refine seq_g fun R2 g2 => ?_
        refine ⟨_, rfl, _, rfl, _, _, rfl, rfl, ⟨by decide, by decide⟩, _, rfl, lw, _, rfl, .inl (SqL.of hlw3), _, _, rfl, rfl, hlen0, ?_⟩
        obtain ⟨u, hu, hat⟩ := pick hwn (((n : Nat) : Int) / 4096)
        have hul := hlm u hu
        refine ⟨lw, _, _, _, rfl, rfl, SqL.of hlw3, hat, g2 _ _ ?_⟩
        clear g2
        obtain ⟨y, hy, ey⟩ : ∃ y : Nat, y ≤ u.length ∧ ((n : Nat) : Int) / 65536 % ((u.length : Nat) : Int) = ((y : Nat) : Int) := by
          have h1 := Int.emod_nonneg (((n : Nat) : Int) / 65536) (show ((u.length : Nat) : Int) ≠ 0 by omega)
          have h2 := Int.emod_lt_of_pos (((n : Nat) : Int) / 65536) (show (0 : Int) < ((u.length : Nat) : Int) by omega)
          exact ⟨(((n : Nat) : Int) / 65536 % ((u.length : Nat) : Int)).toNat, by omega, by omega⟩
        refine ⟨_, rfl, _, rfl, _, rfl, _, _, rfl, rfl, ⟨by decide, by decide⟩, _, rfl, _, rfl, (by rw [txt_length]; exact K10.C.sl2000 (by omega)), _, _, rfl, rfl, (by show (0 : Int) < (((txt u).length : Nat) : Int); rw [txt_length]; omega), _, rfl, ?_⟩
        try dsimp only
        rw [txt_length, ey]
        refine ⟨_, rfl, (by rw [txt_length]; exact K10.C.sl2000 (by omega)), ?_⟩
        try dsimp only
        rw [txt_sliceL hy]
        refine ⟨_, _, rfl, rfl, (by rw [txt_length, txt_length, List.length_take]; exact K10.C.sl2000 (by omega)), ?_⟩
        try dsimp only
        rw [txt_append]
        exact J _ _ (by rw [List.length_append, List.length_take]; omega) (by rw [List.length_append]; omega)
      · exact fun x σ H A B h z => h _ _ z
      · exact fun σ H A B h ⟨v, e1, v2, e4, i1, j1, e5, e6, c1, i2, j2, e7, e8, i3, e9, c2, z⟩ => ⟨v, e1, v2, e4, i1, j1, e5, e6, c1, i2, j2, e7, e8, i3, e9, c2, h _ _ z⟩
end
end K10

set_option Elab.async false
set_option linter.all false
set_option maxRecDepth 100000
set_option maxHeartbeats 4000000
namespace K10
open PySem L2 QQ C9 C10
seal PE PA PS PSs PT PW PG PI
/-! ### slices that go beyond the end -/
theorem slice_over (x : Str) (a : Nat) {b : Nat} (h : x.length ≤ b) : Txt.slice x (some (a : Int)) (some (b : Int)) = Txt.slice x (some (a : Int)) (some (x.length : Int)) := by
  have e : Builtin.Str.strSliceIndices (some (a : Int)) (some (b : Int)) 1 x.length = Builtin.Str.strSliceIndices (some (a : Int)) (some (x.length : Int)) 1 x.length := by
    unfold Builtin.Str.strSliceIndices
    simp only []
    congr 1
    simp
    omega
  unfold Txt.slice
  rw [e]
theorem txt_sliceG {bs : List Bool} {a b : Nat} (hab : a ≤ b) (ha : a ≤ bs.length) : Txt.slice (txt bs) (some (a : Int)) (some (b : Int)) = txt ((bs.drop a).take (b - a)) := by
  rcases Nat.le_total b bs.length with h | h
  · exact txt_slice hab h
  · rw [slice_over _ _ (by rw [txt_length]; exact h), txt_length, txt_slice ha (Nat.le_refl _), List.take_of_length_le (by rw [List.length_drop]; exact Nat.le_refl _), List.take_of_length_le (by rw [List.length_drop]; omega)]
theorem s_one : (Str.ofString "1" : Str) = txt [true] := by decide +kernel
theorem eq_one (b : Bool) : decide (V.str (txt [b]) = V.str (Str.ofString "1")) = b := by
  rw [s_one]
  cases b with
  | true => exact decide_eq_true rfl
  | false => exact decide_eq_false fun e => absurd (txt_inj.mp (V.str.inj e)) (by decide)
/-- the bits of a row that was made of bits: these, then noughts -/
theorem bt_row {bs : List Bool} {R : List Nat} (h : BP.RowOf (BP.num bs) bs.length R) : bt R = bs ++ List.replicate (8 * R.length - bs.length) false := by
  have hl := h.len
  have e1 : (bs ++ List.replicate (8 * R.length - bs.length) false).length = 8 * R.length := by rw [List.length_append, List.length_replicate]; omega
  refine num_inj (by rw [bt_length, e1]) ?_
  have e2 : BP.num (bs ++ List.replicate (8 * R.length - bs.length) false) = BP.val R := by
    rw [BP.num_append, BP.num_zeros, List.length_replicate, Nat.add_zero, h.num]
  have lt := BP.num_lt (bs ++ List.replicate (8 * R.length - bs.length) false)
  rw [e1, e2] at lt
  rw [e2]
  unfold bt
  rw [BP.num_dig, Nat.mod_eq_of_lt lt]
theorem BitsAt.ob {C : Addr} {H : Hp} {p d : Addr} {N T : Nat} (h : BitsAt C H p d N T) : ∃ dx r k, H p = some (.ins C dx (fW d r k)) := by
  obtain ⟨dx, B, r, k, h, _⟩ := h
  exact ⟨dx, r, k, h⟩
/-- what the walk asks of the class BitRow, its methods, and of what they reach -/
structure Bts (K : PySem.W.Frag) (mg : Str → Option Value) (C : Addr) : Prop where
  R : Rows K mg
  T : CB K mg C
  m : mg "BitRow" = some (.ref C)
  needsize : ∃ f fd, Fn K mg "need_size" sNeedSize ["size"] f fd
  ones : ∃ f fd, Fn K mg "ones" sOnes ["size"] f fd
  init : ∃ f fd, Fun K "__init__" "BitRow.__init__" sBInit f fd ∧ Binds K fd ["self"] [] ∧ Mk K C f
  put : ∃ f fd, Me K C "put" "BitRow.put" sPut ["self", "number", "size"] f fd
  move : ∃ f fd, Me K C "move_byte" "BitRow.move_byte" sMove ["self"] f fd
  row : ∃ f fd, Me K C "row" "BitRow.row" sRowOut ["self"] f fd
section
variable {P : Program} {w : World} {K : PySem.W.Frag} {mg : Str → Option Value} {base : Heap} {B : Addr}
/-! ### _law_row -/
def spRow : Sp := fun vs H Q _ => ∃ bs : List Bool, vs = [.str (txt bs)] ∧ bs.length ≤ 200 ∧ ∀ (l : Addr) (R : List Nat) (H' : Hp), H l = none → BP.RowOf (BP.num bs) bs.length R → H' l = some (.lst (R.map vN)) → Same H H' → Q (.ref l) H'
abbrev nRow : List Str := ["_law_bits_here", "_law_row_here", "_law_at", "_law_size", "_law_number", "_law_bit"]
theorem scRow : FnScope nRow ["_law_bits_here"] (defScope sRow) := ⟨rfl, rfl, rfl, by decide +kernel, rfl, by decide +kernel, by decide +kernel⟩
theorem ok_row {f : Addr} {fd : FuncData} (F : Fn K mg "_law_row" sRow ["_law_bits_here"] f fd) (Z : Bts K mg B) : FnOk P w K mg base CX0 4 f fd ["_law_bits_here"] spRow := by
  have X := Z.R.X
  obtain ⟨_, _, FI, bI, MI⟩ := Z.init
  obtain ⟨_, _, Ou⟩ := Z.row
  obtain ⟨_, _, Wh⟩ := Z.R.whole
  obtain ⟨_, _, S⟩ := Z.needsize
  obtain ⟨_, _, O⟩ := Z.ones
  obtain ⟨_, _, Pu⟩ := Z.put
  obtain ⟨_, _, M⟩ := Z.move
  have TB := Z.T
  have GI := ok_binit (P := P) (w := w) (base := base) FI TB
  have GO := ok_rowout (P := P) (w := w) (base := base) Ou.F TB X
  have GP := ok_put (P := P) (w := w) (base := base) Pu.F S Wh O M TB X
  refine F.F.ok scRow (fun vs H Q E h => ?_) (fun cdv A outer st H vs Q E hr h => ?_)
  · obtain ⟨bs, rfl, _⟩ := h
    rfl
  · obtain ⟨bs, rfl, hz, k⟩ := h
    have hr1 : Room 1 _ := hr.mono (by decide)
    have hr2 : Room 2 _ := hr.mono (by decide)
    refine ⟨_, pss_cons (ps_set (i := 1) scRow.nd rfl (Or.inl rfl) (pe_make0 MI GI hr2 (by rfl) Z.m bI .nil pass0))
      (pss_cons (ps_set (i := 2) scRow.nd rfl (Or.inl rfl) pe_int)
      (pss_cons (ps_while PassesOwn.never (pt_cmpR op_lt (pv 2) (pe_callB call_len_str (by rfl) X.len PySem.boot_len (pa_cons (pv 0) pa_nil)) (nomark _))
        (pss_cons (ps_set (i := 3) scRow.nd rfl (Or.inl rfl) (pe_op op_add pe_int (pe_op op_mod (pv 2) pe_int)))
        (pss_cons (ps_set (i := 4) scRow.nd rfl (Or.inl rfl) pe_int)
        (pss_cons (ps_for PassesOwn.never rfl (pi_str (pe_slice sl_str (pv 0) (po_some (pv 2)) (po_some (pe_op op_add (pv 2) (pv 3))))) (pg_name (i := 5) scRow.nd rfl (Or.inl rfl))
          (pss_one (ps_set (i := 4) scRow.nd rfl (Or.inl rfl) (pe_op op_add (pe_op op_mul pe_int (pv 4)) (pe_callTy call_int1 (by rfl) X.int PyProof.Rows.boot_int (pa_cons (pe_cmpR op_eq (pv 5) pe_str (nomark _)) pa_nil))))))
        (pss_cons (ps_expr (pe_meth (pv 1) TB.cl Pu.m GP hr Pu.b .nil pass0 (pa_cons (pv 4) (pa_cons (pe_callB call_len_str (by rfl) X.len PySem.boot_len (pa_cons (pe_slice sl_str (pv 0) (po_some (pv 2)) (po_some (pe_op op_add (pv 2) (pv 3)))) pa_nil)) pa_nil))))
        (pss_one (ps_set (i := 2) scRow.nd rfl (Or.inl rfl) (pe_op op_add (pv 2) (pv 3)))))))))
      (pss_one (ps_ret (pe_meth0 (pv 1) TB.cl Ou.m GO hr1 Ou.b .nil pass0))))), ?_⟩
    -- a new row of bits
    refine seq_g fun R1 g1 => ?_
    intro p dp np ndp nep
    have hp0 : (upd (upd H dp (.own p)) p (.ins B dp [])) p = some (.ins B dp []) := upd_same
    have s0 : Same H (upd (upd H dp (.own p)) p (.ins B dp [])) := fun c o e => by
      rw [upd_ne (ne_of_none e np), upd_ne (ne_of_none e ndp)]; exact e
    refine ⟨p, dp, rfl, hp0, fun d H1 nd hB kp => ⟨rfl, g1 _ _ ?_⟩⟩
    clear g1
    have nd0 : H d = none := none_of s0 nd
    have s1 : Same H H1 := fun c o e => kp _ _ (s0 _ _ e) (ne_of_none e np)
    clear s0 hp0 kp
    refine seq_g fun R1 g1 => g1 _ _ ?_
    clear g1
    -- the bits
    refine seq_g fun R1 g1 => ?_
    refine ⟨fun n σ H2 => ∃ (t : Nat) (v3 v4 v5 : Option V), n = bs.length - t ∧ σ = [some (.str (txt bs)), some (.ref p), some (vN t), v3, v4, v5] ∧ BitsAt B H2 p d (BP.num (bs.take t)) (bs.take t).length ∧ Same H H2,
      ⟨_, 0, none, none, none, rfl, rfl, hB, s1⟩, ?_⟩
    rintro n σ H2 ⟨t, v3, v4, v5, rfl, rfl, hB2, s2⟩
    refine ⟨_, rfl, _, rfl, _, rfl, (by rw [txt_length]; exact sl2000 (by omega)), _, _, rfl, rfl, _, rfl, ite2 (fun h => ?_) (fun h => ?_)⟩
    · clear g1
      have ht : t < bs.length := by
        have h' := of_decide_eq_true h
        rw [txt_length] at h'
        omega
      refine ⟨fun σ' H' => ∃ m', m' < bs.length - t ∧ ∃ (t : Nat) (v3 v4 v5 : Option V), m' = bs.length - t ∧ σ' = [some (.str (txt bs)), some (.ref p), some (vN t), v3, v4, v5] ∧ BitsAt B H' p d (BP.num (bs.take t)) (bs.take t).length ∧ Same H H',
        fun σ' H' h => h, ?_⟩
      obtain ⟨s, hs1, hs3, es⟩ : ∃ s : Nat, 1 ≤ s ∧ s ≤ 3 ∧ (1 : Int) + ((t : Nat) : Int) % 3 = ((s : Nat) : Int) := ⟨1 + t % 3, by omega, by omega, by omega⟩
      refine seq_g fun R2 g2 => ?_
      refine ⟨_, rfl, _, _, rfl, rfl, (by show (0 : Int) < 3; decide), _, _, rfl, rfl, g2 _ _ ?_⟩
      clear g2
      try dsimp only
      rw [es]
      refine seq_g fun R2 g2 => g2 _ _ ?_
      clear g2
      have ets : ((t : Nat) : Int) + ((s : Nat) : Int) = ((t + s : Nat) : Int) := by omega
      refine seq_g fun R2 g2 => ?_
      refine ⟨_, rfl, _, rfl, _, rfl, _, rfl, _, rfl, _, _, rfl, rfl, ?_⟩
      try dsimp only
      rw [ets]
      refine ⟨_, rfl, txt bs, rfl, sl2000 (by rw [txt_length]; omega), ?_⟩
      try dsimp only
      rw [txt_sliceG (by omega) (by omega), show t + s - t = s by omega]
      have hpl : ((bs.drop t).take s).length ≤ 3 := by rw [List.length_take]; omega
      have hpt : bs.take (t + s) = bs.take t ++ (bs.drop t).take s := by rw [List.take_add]
      have hsl : Txt.slice (txt bs) (some ((t : Nat) : Int)) (some ((t + s : Nat) : Int)) = txt ((bs.drop t).take s) := by rw [txt_sliceG (by omega) (by omega), show t + s - t = s by omega]
      generalize (bs.drop t).take s = ps at *
      refine ⟨_, rfl, for_str (D := ⟨_, _, fun _ _ => False, fun _ _ => False⟩) (y := txt ps) (fun j σ H3 => ∃ v5 : Option V, σ = [some (.str (txt bs)), some (.ref p), some (vN t), some (vN s), some (vN (BP.num (ps.take j))), v5] ∧ H3 = H2)
        ⟨v5, rfl, rfl⟩ ?_ ?_⟩
      · clear g2
        rintro j ch σ H3 hj ⟨u5, rfl, e3⟩
        subst e3
        obtain ⟨b, hb, ech⟩ := txt_get hj
        rw [ech]
        refine ⟨_, rfl, _, _, rfl, rfl, .inl ⟨by decide, by decide⟩, _, rfl, rfl, .inr ⟨_, rfl, ?_⟩⟩
        rw [eq_one b]
        refine ⟨_, _, rfl, rfl, some (V.str (txt [b])), ?_, rfl⟩
        have e1 : (2 : Int) * ((BP.num (ps.take j) : Nat) : Int) + (if b = true then 1 else 0) = ((BP.num (ps.take (j + 1)) : Nat) : Int) := by
          rw [List.take_add_one, hb]
          show _ = ((BP.num (ps.take j ++ [b]) : Nat) : Int)
          rw [BP.num_snoc]
          cases b <;> simp <;> omega
        try dsimp only
        rw [e1]
        rfl
      · rintro σ H3 ⟨u5, rfl, e3⟩
        subst e3
        refine g2 _ _ ?_
        clear g2
        rw [txt_size, List.take_length]
        have hlt := BP.num_lt ps
        obtain ⟨dx1, r1, k1, hp1⟩ := hB2.ob
        refine seq_g fun R2 g2 => ?_
        refine ⟨_, rfl, p, dx1, _, rfl, hp1, fW_no _ _ _ (by decide +kernel) (by decide +kernel) (by decide +kernel), _, rfl, _, rfl, _, rfl, _, rfl, _, rfl, _, rfl, _, _, rfl, rfl, ?_⟩
        try dsimp only
        rw [ets]
        refine ⟨_, rfl, txt bs, rfl, sl2000 (by rw [txt_length]; omega), ?_⟩
        try dsimp only
        rw [hsl]
        refine ⟨_, rfl, (by rw [txt_length]; exact sl2000 (by omega)), ?_⟩
        try dsimp only
        rw [txt_length]
        have htl : (bs.take t).length ≤ 200 := by rw [List.length_take]; omega
        refine ⟨p, d, _, _, BP.num ps, ps.length, rfl, hB2, by omega, by omega, hlt, fun H4 hB4 kp4 => g2 _ _ ?_⟩
        clear g2
        refine ⟨_, rfl, _, rfl, _, _, rfl, rfl, ?_⟩
        try dsimp only
        rw [ets]
        have e2 : BP.num (bs.take (t + s)) = BP.num (bs.take t) * 2 ^ ps.length + BP.num ps := by rw [hpt, BP.num_append]
        have e3 : (bs.take (t + s)).length = (bs.take t).length + ps.length := by rw [hpt, List.length_append]
        rw [← e2, ← e3] at hB4
        exact ⟨_, by omega, t + s, _, _, _, rfl, rfl, hB4, fun c o e => kp4 _ _ (s2 _ _ e) (ne_of_none e np) (ne_of_none e nd0)⟩
    · have ht : bs.length ≤ t := by
        rcases Nat.lt_or_ge t bs.length with q | q
        · exact absurd (decide_eq_true (show ((t : Nat) : Int) < (((txt bs).length : Nat) : Int) by rw [txt_length]; omega)) h
        · exact q
      refine g1 _ _ ?_
      clear g1
      rw [List.take_of_length_le ht] at hB2
      obtain ⟨dx1, r1, k1, hp1⟩ := hB2.ob
      exact ⟨_, rfl, p, dx1, _, rfl, hp1, fW_no _ _ _ (by decide +kernel) (by decide +kernel) (by decide +kernel), p, d, _, _, rfl, hB2, by omega, fun l R H' nl hl' ro s3 => k l R H' (none_of s2 nl) ro hl' (s2.trans s3)⟩
end
end K10

set_option Elab.async false
set_option linter.all false
set_option maxRecDepth 100000
set_option maxHeartbeats 4000000
namespace K10
open PySem L2 QQ C9 C10
seal PE PA PS PSs PT PW PG PI
theorem told_u {H H' : Hp} {x y : V} {t u u' : Nat} {res : Res} (h : Told H x t res u) (h' : Told H' y t res u') : u' = u := by
  cases res with
  | thing q s => rw [h.2, h'.2]
  | bad => rw [h.1, h'.1]
  | none => rw [h.1, h'.1]
theorem told_cases {H : Hp} {x : V} {t u : Nat} {res : Res} (h : Told H x t res u) : (∃ q s, res = .thing q s ∧ x = vN q ∧ u = t + s) ∨ (u = t ∧ ∃ (p : Addr) (xs : List V), x = .ref p ∧ H p = some (.tup xs)) := by
  cases res with
  | thing q s => exact .inl ⟨q, s, rfl, h.1, h.2⟩
  | bad => obtain ⟨rfl, p, l, rfl, h1, _⟩ := h; exact .inr ⟨rfl, p, _, rfl, h1⟩
  | none => obtain ⟨rfl, p, l, rfl, h1, _⟩ := h; exact .inr ⟨rfl, p, _, rfl, h1⟩
theorem Told.but {B : Addr} {H H' : Hp} {x : V} {t u t' : Nat} {res : Res} {r g : Addr} {R : List Nat} (h : Told H x t res u) (hR : ReadAt B H r g R t') (o : ∀ c o, H c = some o → c ≠ r → H' c = some o) : Told H' x t res u := by
  obtain ⟨dx, hr⟩ := hR.ob
  cases res with
  | thing q s => exact h
  | bad => obtain ⟨e, p, l, ex, h1, h2⟩ := h; exact ⟨e, p, l, ex, o _ _ h1 (ne_of h1 hr (by intro z; cases z)), o _ _ h2 (ne_of h2 hr (by intro z; cases z))⟩
  | none => obtain ⟨e, p, l, ex, h1, h2⟩ := h; exact ⟨e, p, l, ex, o _ _ h1 (ne_of h1 hr (by intro z; cases z)), o _ _ h2 (ne_of h2 hr (by intro z; cases z))⟩
theorem Told.same {H H' : Hp} {x : V} {t u : Nat} {res : Res} (h : Told H x t res u) (s : Same H H') : Told H' x t res u := by
  cases res with
  | thing q s => exact h
  | bad => obtain ⟨e, p, l, ex, h1, h2⟩ := h; exact ⟨e, p, l, ex, s _ _ h1, s _ _ h2⟩
  | none => obtain ⟨e, p, l, ex, h1, h2⟩ := h; exact ⟨e, p, l, ex, s _ _ h1, s _ _ h2⟩
section
variable {K : PySem.W.Frag}
theorem kit_it : PySem.W.kitOne K (.type "int") (.type "tuple") = some false := by
  show (if (Value.type "int" == Value.type "tuple") = true then some true else if PySem.W.kitMeta "tuple" = true then (fastBuiltinMro "int").map (·.contains (.type "tuple")) else none) = some false
  decide +kernel
theorem same_bb {H : Hp} {l m : Addr} {a b : Bool} (h1 : H l = some (.lst [.bl a, .bl b])) (h2 : H m = some (.lst [.bl a, .bl b])) : SameGs K H l m := by
  refine ⟨_, _, SqL.of h1, SqL.of h2, rfl, fun i x y e1 e2 => .inl ⟨?_, .inl ?_⟩⟩
  · rw [e1] at e2; exact Option.some.inj e2
  · match i, e1 with
    | 0, e1 => cases e1; rfl
    | 1, e1 => cases e1; rfl
    | i + 2, e1 => cases e1
theorem told_ne {H : Hp} {x y : V} {t u u' : Nat} {res : Res} {Q : VK} (h : Told H x t res u) (h' : Told H y t res u') (k : Q (.bl false) H) : rNe x y H Q ∨ rNeRf K x y H Q := by
  cases res with
  | thing q s =>
    obtain ⟨rfl, _⟩ := h
    obtain ⟨rfl, _⟩ := h'
    refine .inl ⟨rfl, ?_⟩
    rw [decide_eq_true (show vN q = vN q from rfl)]
    exact k
  | bad =>
    obtain ⟨_, p, l, rfl, h1, h2⟩ := h
    obtain ⟨_, p', l', rfl, h1', h2'⟩ := h'
    exact .inr ⟨p, p', rfl, rfl, ⟨_, l, l', SqT.of h1, SqT.of h1', same_bb h2 h2'⟩, k⟩
  | none =>
    obtain ⟨_, p, l, rfl, h1, h2⟩ := h
    obtain ⟨_, p', l', rfl, h1', h2'⟩ := h'
    exact .inr ⟨p, p', rfl, rfl, ⟨_, l, l', SqT.of h1, SqT.of h1', same_bb h2 h2'⟩, k⟩
theorem told_bool {H : Hp} {x : V} {t u : Nat} {res : Res} (h : Told H x t res u) : ∃ ty, TyOf K H x ty ∧ PySem.W.kitOne K ty (.type "bool") = some false := by
  rcases told_cases h with ⟨q, s, _, rfl, _⟩ | ⟨_, p, xs, rfl, hp⟩
  · exact ⟨_, .int _, kit_ib K⟩
  · exact ⟨_, .tup hp, K10.C.kit_no K (by decide)⟩
end
section
variable {P : Program} {w : World} {K : PySem.W.Frag} {mg : Str → Option Value} {base : Heap} {C B cP cN cB : Addr} {cs : List Addr}
/-! ### _law_read -/
/-- all that the law's own reading calls -/
structure Rdg (K : PySem.W.Frag) (mg : Str → Option Value) (C B cP cN cB : Addr) (cs : List Addr) : Prop where
  A : Asks K mg C B cP cN cB cs
  T : TxL K mg
  asked : ∃ f fd, Fn K mg "_law_asked" sAsked ["_law_codes_here", "_law_reader"] f fd
  due : ∃ f fd, Fn K mg "_law_due" sDue ["_law_codes_here", "_law_bits_here", "_law_at"] f fd
def spRead (C B : Addr) : Sp := fun vs H Q _ => ∃ (p d e r g a : Addr) (L R : List Nat) (t : Nat), vs = [.ref p, .ref r, .ref a, .str (txt (bt R)), vN t] ∧ CdAt C H p d e L ∧ Good L ∧ ReadAt B H r g R t ∧ H a = some (.lst ((texts L).map V.str)) ∧ R.length ≤ 100 ∧
  ∀ (u : Nat) (H' : Hp), ReadAt B H' r g R u → (∀ c o, H c = some o → c ≠ r → H' c = some o) → Q (vN u) H'
abbrev pRead : List Str := ["_law_codes_here", "_law_reader", "_law_texts_here", "_law_bits_here", "_law_at"]
abbrev nRead : List Str := ["_law_codes_here", "_law_reader", "_law_texts_here", "_law_bits_here", "_law_at", "_law_turn", "_law_found", "_law_place", "_law_told"]
theorem scRead : FnScope nRead pRead (defScope sRead) := ⟨rfl, rfl, rfl, by decide +kernel, rfl, by decide +kernel, by decide +kernel⟩
theorem ok_read {f : Addr} {fd : FuncData} (F : Fn K mg "_law_read" sRead pRead f fd) (Z : Rdg K mg C B cP cN cB cs) : FnOk P w K mg base CX0 37 f fd pRead (spRead C B) := by
  obtain ⟨⟨f1, d1, As⟩, ⟨f2, d2, Du⟩⟩ := And.intro Z.asked Z.due
  have T := Z.T
  have X := Z.A.D.X
  have TB := Z.A.D.R
  obtain ⟨_, _, Le⟩ := Z.A.D.left
  obtain ⟨_, _, Pl⟩ := Z.A.D.place
  have GA := ok_asked (P := P) (w := w) (base := base) As Z.A
  have GD := ok_due (P := P) (w := w) (base := base) Du X
  have GL := ok_left (P := P) (w := w) (base := base) Le.F TB X
  have GP := ok_place (P := P) (w := w) (base := base) Pl.F TB
  refine F.F.ok scRead (fun vs H Q E h => ?_) (fun cdv A outer st H vs Q E hr h => ?_)
  · obtain ⟨p, d, e, r, g, a, L, R, t, rfl, _⟩ := h
    rfl
  · obtain ⟨p, d, e, r, g, a, L, R, t, rfl, hC, G, hR, ha, hl100, k⟩ := h
    have hr1 : Room 1 _ := hr.mono (by decide)
    have hr31 : Room 31 _ := hr.mono (by decide)
    have hu := hr.units
    refine ⟨_, pss_cons (ps_for PassesOwn.never rfl (pi_range1 (by rfl) T.X.range (pa_cons (pe_op op_add (pe_callB call_len_str (by rfl) T.X.len PySem.boot_len (pa_cons (pv 3) pa_nil)) pe_int) pa_nil)) (pg_name (i := 5) scRead.nd rfl (Or.inl rfl))
        (pss_cons (ps_asg (pe_call GD hr31 (by rfl) Du.m Du.F.kp Du.b .nil pass0 (pa_cons (pv 2) (pa_cons (pv 3) (pa_cons (pv 4) pa_nil)))) (pg_tup rfl (pgs_cons (pg_name (i := 6) scRead.nd rfl (Or.inl rfl)) (pgs_cons (pg_name (i := 7) scRead.nd rfl (Or.inl rfl)) pgs_nil))))
        (pss_cons (ps_set (i := 8) scRead.nd rfl (Or.inl rfl) (pe_call GA hr (by rfl) As.m As.F.kp As.b .nil pass0 (pa_cons (pv 0) (pa_cons (pv 1) pa_nil))))
        (pss_cons (ps_if (PW.pt (pw_or (pt_cmpR (op_ne.either (op_neRf hu)) (pv 8) (pv 6) (nomark _))
            (pw_or (pt_val (pe_callB call_isi (by rfl) T.X.isi PyProof.Rows.boot_isinstance (pa_cons (pv 8) (pa_cons (pe_bltn (v := .ty "bool") (by rfl) T.X.bool PyProof.Rows.boot_bool rfl) pa_nil))))
            (pw_or (pt_cmpR op_ne (pe_meth0 (pv 1) TB.cl Le.m GL hr1 Le.b .nil pass0) (pe_op op_sub (pe_callB call_len_str (by rfl) T.X.len PySem.boot_len (pa_cons (pv 3) pa_nil)) (pv 7)) (nomark _))
            (pw_or1 (pt_cmpR op_ne (pe_meth0 (pv 1) TB.cl Pl.m GP hr1 Pl.b .nil pass0) (pv 7) (nomark _))))))) (pss_one (ps_ret pe_non)) pss_nil)
        (pss_cons (ps_if (pt_val (pe_callB call_isi (by rfl) T.X.isi PyProof.Rows.boot_isinstance (pa_cons (pv 6) (pa_cons (pe_bltn (v := .ty "tuple") (by rfl) T.X.tuple PyProof.Rows.boot_tuple rfl) pa_nil))))
          (pss_cons (ps_if (PW.pt (pw_or (pt_cmpR (op_ne.either (op_neRf hu)) (pe_call GA hr (by rfl) As.m As.F.kp As.b .nil pass0 (pa_cons (pv 0) (pa_cons (pv 1) pa_nil))) (pv 6) (nomark _))
            (pw_or1 (pt_cmpR op_ne (pe_meth0 (pv 1) TB.cl Pl.m GP hr1 Pl.b .nil pass0) (pv 7) (nomark _))))) (pss_one (ps_ret pe_non)) pss_nil)
          (pss_one (ps_ret (pv 7)))) pss_nil)
        (pss_one (ps_set (i := 4) scRead.nd rfl (Or.inl rfl) (pv 7))))))))
      (pss_one (ps_ret pe_non)), ?_⟩
    have hbl : (bt R).length = 8 * R.length := bt_length R
    obtain ⟨dx0, hr0⟩ := hR.ob
    have nar : a ≠ r := ne_of ha hr0 (by intro z; cases z)
    refine seq_g fun R1 g1 => ?_
    refine ⟨_, rfl, _, rfl, (by rw [txt_length]; exact sl2000 (by omega)), _, _, rfl, rfl, ?_⟩
    have e0 : (((txt (bt R)).length : Nat) : Int) + 2 = ((8 * R.length + 2 : Nat) : Int) := by rw [txt_length]; omega
    try dsimp only
    rw [e0]
    refine ⟨_, rfl, by omega, by omega, ?_⟩
    try dsimp only
    rw [Int.toNat_natCast]
    refine for_range (D := ⟨_, _, fun _ _ => False, fun _ _ => False⟩) (lo := 0) (n := 8 * R.length + 2) (fun i σ H2 => ∃ (t' : Nat) (v5 v6 v7 v8 : Option V), σ = [some (.ref p), some (.ref r), some (.ref a), some (.str (txt (bt R))), some (vN t'), v5, v6, v7, v8] ∧ i ≤ t' ∧ ReadAt B H2 r g R t' ∧ ∀ c o, H c = some o → c ≠ r → H2 c = some o)
      ⟨t, none, none, none, none, rfl, by omega, hR, fun c o z _ => z⟩ ?_ ?_
    · clear g1
      rintro i σ H2 hi ⟨t', v5, v6, v7, v8, rfl, hit, hR2, oth⟩
      have hC2 : CdAt C H2 p d e L := hC.but hR oth
      have ha2 := oth _ _ ha nar
      have ht' := hR2.le
      obtain ⟨res, hD⟩ := due_total L ((bt R).drop t')
      refine seq_g fun R2 g2 => ?_
      refine ⟨_, rfl, _, rfl, _, rfl, a, L, bt R, t', res, rfl, ha2, G, by omega, by omega, hD, fun q x u H3 hq hT s3 => ?_⟩
      refine ⟨q, _, rfl, SqT.of hq, rfl, _, _, rfl, _, _, rfl, rfl, g2 _ _ ?_⟩
      clear g2
      have hR3 := hR2.same s3
      have hC3 := hC2.same s3
      refine seq_g fun R2 g2 => ?_
      refine ⟨_, rfl, _, rfl, p, d, e, r, g, L, R, t', res, rfl, hC3, G, hR3, hD, fun y u' H4 hT4 hR4 oth4 => g2 _ _ ?_⟩
      clear g2
      have eu := told_u hT hT4
      subst eu
      have hT3 := hT.but hR3 oth4
      have hC4 := hC3.but hR3 oth4
      obtain ⟨dx4, hr4⟩ := hR4.ob
      have hle4 := hR4.le
      refine seq_g fun R2 g2 => ?_
      refine ⟨_, rfl, _, rfl, told_ne hT4 hT3 ⟨_, rfl, iteF ?_⟩⟩
      obtain ⟨ty, hty, kb⟩ := told_bool (K := K) hT4
      refine ⟨_, rfl, _, _, _, _, rfl, hty, kb, _, rfl, iteF ?_⟩
      refine ⟨_, rfl, r, dx4, _, rfl, hr4, fR_no _ _ (by decide +kernel) (by decide +kernel), r, g, R, _, rfl, hR4, _, rfl, _, rfl, (by rw [txt_length]; exact sl2000 (by omega)), _, rfl, _, _, rfl, rfl, rfl, _, rfl, ?_⟩
      have e2 : (!decide (vN (8 * R.length - u') = V.int ((((txt (bt R)).length : Nat) : Int) - ((u' : Nat) : Int)))) = false := by
        rw [txt_length, hbl, decide_eq_true (congrArg V.int (show ((8 * R.length - u' : Nat) : Int) = ((8 * R.length : Nat) : Int) - ((u' : Nat) : Int) by omega))]
        rfl
      try dsimp only
      rw [e2]
      refine iteF ?_
      refine ⟨_, rfl, r, dx4, _, rfl, hr4, fR_no _ _ (by decide +kernel) (by decide +kernel), r, g, R, _, rfl, hR4, _, rfl, rfl, _, rfl, ?_⟩
      have e3 : (!decide (vN u' = vN u')) = false := by rw [decide_eq_true rfl]; rfl
      try dsimp only
      rw [e3]
      refine iteF (g2 _ _ ?_)
      clear g2
      refine seq_g fun R2 g2 => ?_
      rcases told_cases hT3 with ⟨q', s', rfl, rfl, rfl⟩ | ⟨rfl, p', xs', rfl, hp'⟩
      · have hle := due_le hD
        refine ⟨_, rfl, _, _, _, _, rfl, .int _, kit_it, _, rfl, iteF (g2 _ _ ?_)⟩
        exact ⟨_, rfl, t' + s', _, _, _, _, rfl, by omega, hR4, fun c o z hn => oth4 c o (s3 _ _ (oth c o z hn)) hn⟩
      · clear g2
        refine ⟨_, rfl, _, _, _, _, rfl, .tup hp', kit_tt K, _, rfl, iteT ?_⟩
        refine seq_g fun R2 g2 => ?_
        refine ⟨_, rfl, _, rfl, p, d, e, r, g, L, R, u', res, rfl, hC4, G, hR4, hD, fun y2 u2 H5 hT5 hR5 oth5 => ?_⟩
        have eu := told_u hT3 hT5
        subst eu
        refine ⟨_, rfl, told_ne hT5 (hT3.but hR4 oth5) ⟨_, rfl, iteF ?_⟩⟩
        obtain ⟨dx5, hr5⟩ := hR5.ob
        refine ⟨_, rfl, r, dx5, _, rfl, hr5, fR_no _ _ (by decide +kernel) (by decide +kernel), r, g, R, _, rfl, hR5, _, rfl, rfl, _, rfl, ?_⟩
        try dsimp only
        rw [e3]
        refine iteF (g2 _ _ ?_)
        exact ⟨_, rfl, k u2 H5 hR5 fun c o z hn => oth5 c o (oth4 c o (s3 _ _ (oth c o z hn)) hn) hn⟩
    · rintro σ H2 ⟨t', v5, v6, v7, v8, rfl, hit, hR2, oth⟩
      exfalso
      have := hR2.le
      omega
end
end K10

set_option Elab.async false
set_option linter.all false
set_option maxRecDepth 100000
set_option maxHeartbeats 4000000
namespace K10
open PySem L2 QQ C9 C10
seal PE PA PS PSs PT PW PG PI
theorem s_zero : (Str.ofString "0" : Str) = txt [false] := by decide +kernel
theorem mul_ok (k : Nat) (hk : k ≤ 7) : MulOk (txt [false]) (k : Int) := by
  match k, hk with
  | 0, _ => exact ⟨by decide, fun h => absurd (by decide) h, fun h => absurd (by decide) h⟩
  | 1, _ => exact ⟨by decide, fun _ h => absurd h (by decide), fun _ h => absurd h (by decide)⟩
  | 2, _ => exact ⟨by decide, fun _ _ => by decide, fun _ _ => by decide⟩
  | 3, _ => exact ⟨by decide, fun _ _ => by decide, fun _ _ => by decide⟩
  | 4, _ => exact ⟨by decide, fun _ _ => by decide, fun _ _ => by decide⟩
  | 5, _ => exact ⟨by decide, fun _ _ => by decide, fun _ _ => by decide⟩
  | 6, _ => exact ⟨by decide, fun _ _ => by decide, fun _ _ => by decide⟩
  | 7, _ => exact ⟨by decide, fun _ _ => by decide, fun _ _ => by decide⟩
theorem mul_txt (k : Nat) (hk : k ≤ 7) : Txt.mul (txt [false]) (k : Int) = txt (List.replicate k false) := by
  match k, hk with
  | 0, _ => decide +kernel
  | 1, _ => decide +kernel
  | 2, _ => decide +kernel
  | 3, _ => decide +kernel
  | 4, _ => decide +kernel
  | 5, _ => decide +kernel
  | 6, _ => decide +kernel
  | 7, _ => decide +kernel
theorem CdAt.nl {C : Addr} {H : Hp} {p d e b : Addr} {L : List Nat} {ys : List V} (h : CdAt C H p d e L) (hb : H b = some (.lst ys)) : p ≠ b ∧ d ≠ b ∧ e ≠ b := by
  obtain ⟨⟨dx, h1⟩, ⟨k1, h2, _⟩, ⟨k2, h3, _⟩⟩ := h
  exact ⟨ne_of h1 hb (by intro z; cases z), ne_of h2 hb (by intro z; cases z), ne_of h3 hb (by intro z; cases z)⟩
/-- all that is read: two codes, their texts, two readers of one row -/
structure Wd (C B : Addr) (lc lt lx p0 d0 e0 p1 d1 e1 x0 x1 r0 g0 r1 g1 : Addr) (L0 L1 R : List Nat) (H : Hp) (t0 t1 : Nat) : Prop where
  lc : H lc = some (.lst [.ref p0, .ref p1])
  lt : H lt = some (.lst [.ref x0, .ref x1])
  lx : H lx = some (.lst [.ref r0, .ref r1])
  c0 : CdAt C H p0 d0 e0 L0
  c1 : CdAt C H p1 d1 e1 L1
  h0 : H x0 = some (.lst ((texts L0).map V.str))
  h1 : H x1 = some (.lst ((texts L1).map V.str))
  q0 : ReadAt B H r0 g0 R t0
  q1 : ReadAt B H r1 g1 R t1
  n : r0 ≠ r1
section
variable {C B lc lt lx p0 d0 e0 p1 d1 e1 x0 x1 r0 g0 r1 g1 : Addr} {L0 L1 R : List Nat} {H H' : Hp} {t0 t1 u : Nat}
theorem Wd.same (h : Wd C B lc lt lx p0 d0 e0 p1 d1 e1 x0 x1 r0 g0 r1 g1 L0 L1 R H t0 t1) (s : Same H H') : Wd C B lc lt lx p0 d0 e0 p1 d1 e1 x0 x1 r0 g0 r1 g1 L0 L1 R H' t0 t1 :=
  ⟨s _ _ h.lc, s _ _ h.lt, s _ _ h.lx, h.c0.same s, h.c1.same s, s _ _ h.h0, s _ _ h.h1, h.q0.same s, h.q1.same s, h.n⟩
theorem rd_but {r g r' g' : Addr} {t t' : Nat} {R' : List Nat} (h : ReadAt B H r g R t) (h' : ReadAt B H r' g' R' t') (n : r ≠ r') (o : ∀ c o, H c = some o → c ≠ r' → H' c = some o) : ReadAt B H' r g R t := by
  obtain ⟨⟨dx, h1⟩, h2, h3, h4⟩ := h
  obtain ⟨dy, h1'⟩ := h'.ob
  exact ⟨⟨dx, o _ _ h1 n⟩, o _ _ h2 (ne_of h2 h1' (by intro z; cases z)), h3, h4⟩
theorem Wd.step0 (h : Wd C B lc lt lx p0 d0 e0 p1 d1 e1 x0 x1 r0 g0 r1 g1 L0 L1 R H t0 t1) (hR : ReadAt B H' r0 g0 R u) (o : ∀ c o, H c = some o → c ≠ r0 → H' c = some o) : Wd C B lc lt lx p0 d0 e0 p1 d1 e1 x0 x1 r0 g0 r1 g1 L0 L1 R H' u t1 := by
  obtain ⟨dy, hr⟩ := h.q0.ob
  have q : ∀ {c xs}, H c = some (.lst xs) → H' c = some (.lst xs) := fun e => o _ _ e (ne_of e hr (by intro z; cases z))
  exact ⟨q h.lc, q h.lt, q h.lx, h.c0.but h.q0 o, h.c1.but h.q0 o, q h.h0, q h.h1, hR, rd_but h.q1 h.q0 h.n.symm o, h.n⟩
theorem Wd.step1 (h : Wd C B lc lt lx p0 d0 e0 p1 d1 e1 x0 x1 r0 g0 r1 g1 L0 L1 R H t0 t1) (hR : ReadAt B H' r1 g1 R u) (o : ∀ c o, H c = some o → c ≠ r1 → H' c = some o) : Wd C B lc lt lx p0 d0 e0 p1 d1 e1 x0 x1 r0 g0 r1 g1 L0 L1 R H' t0 u := by
  obtain ⟨dy, hr⟩ := h.q1.ob
  have q : ∀ {c xs}, H c = some (.lst xs) → H' c = some (.lst xs) := fun e => o _ _ e (ne_of e hr (by intro z; cases z))
  exact ⟨q h.lc, q h.lt, q h.lx, h.c0.but h.q1 o, h.c1.but h.q1 o, q h.h0, q h.h1, rd_but h.q0 h.q1 h.n o, hR, h.n⟩
end
/-- all that the law reaches -/
structure All (K : PySem.W.Frag) (mg : Str → Option Value) (C B D cP cN cB : Addr) (cs : List Addr) : Prop where
  Z : Rdg K mg C B cP cN cB cs
  M : Mks K mg C
  Bt : Bts K mg D
  mC : mg "CodeReader" = some (.ref C)
  mR : mg "BitReader" = some (.ref B)
  cinit : ∃ f fd, Fun K "__init__" "CodeReader.__init__" sCInit f fd ∧ Binds K fd ["self", "lengths"] [] ∧ Mk K C f
  rinit : ∃ f fd, Fun K "__init__" "BitReader.__init__" sRInit f fd ∧ Binds K fd ["self", "row"] [] ∧ Mk K B f
  needrow : ∃ f fd, Fn K mg "need_row" sNeedRow ["thing"] f fd
  cell : ∃ f fd, Fn K mg "_law_cell_at" sCellAt ["_law_script", "_law_k"] f fd
  mixed : ∃ f fd, Fn K mg "_law_mixed" sMixed ["_law_cell", "_law_k"] f fd
  lens : ∃ f fd, Fn K mg "_law_lengths" sLengths ["_law_script", "_law_first", "_law_many", "_law_most"] f fd
  lcodes : ∃ f fd, Fn K mg "_law_codes" sLCodes ["_law_lengths_here"] f fd
  ltexts : ∃ f fd, Fn K mg "_law_texts" sTexts ["_law_lengths_here"] f fd
  lbits : ∃ f fd, Fn K mg "_law_bits" sBits ["_law_script", "_law_texts_here"] f fd
  lrow : ∃ f fd, Fn K mg "_law_row" sRow ["_law_bits_here"] f fd
  lread : ∃ f fd, Fn K mg "_law_read" sRead pRead f fd
section
variable {P : Program} {w : World} {K : PySem.W.Frag} {mg : Str → Option Value} {base : Heap} {C B D cP cN cB : Addr} {cs : List Addr}
def spLaw (K : PySem.W.Frag) : Sp := fun vs H Q _ => ∃ (a : Addr) (ns : List Int), vs = [.ref a] ∧ SqL K H a (ns.map V.int) ∧ ns.length ≤ 63 ∧ ∀ H', Q (.bl true) H'
abbrev nLaw : List Str := ["_law_script", "_law_lengths_here", "_law_k", "_law_many", "_law_handed", "_law_codes_here", "_law_row_here", "_law_texts_here", "_law_bits_here", "_law_ahead", "_law_whole", "_law_readers", "_law_at", "_law_turn", "_law_found"]
theorem scLaw : FnScope nLaw ["_law_script"] (defScope sLaw) := ⟨rfl, rfl, rfl, by decide +kernel, rfl, by decide +kernel, by decide +kernel⟩
theorem ok_law {f : Addr} {fd : FuncData} (F : Fun K "law" "law" sLaw f fd) (A0 : All K mg C B D cP cN cB cs) : FnOk P w K mg base CX0 38 f fd ["_law_script"] (spLaw K) := by
  obtain ⟨Z, M, Bt, mC, mR, ⟨_, _, CI, bCI, MC⟩, ⟨_, _, RI, bRI, MR⟩, ⟨_, _, NR⟩, ⟨_, _, Ce⟩, ⟨_, _, Mi⟩, ⟨_, _, Ln⟩, ⟨_, _, Lc⟩, ⟨_, _, Lt⟩, ⟨_, _, Lb⟩, ⟨_, _, Lr⟩, ⟨_, _, Re⟩⟩ := A0
  have T := Z.T
  have X := Z.A.D.X
  have TB := Z.A.D.R
  obtain ⟨_, _, As⟩ := Z.asked
  obtain ⟨_, _, Du⟩ := Z.due
  obtain ⟨_, _, Wh⟩ := Z.A.D.whole
  obtain ⟨_, _, Si⟩ := Z.A.D.size
  obtain ⟨_, _, On⟩ := Z.A.D.ones
  obtain ⟨_, _, Bi⟩ := Z.A.D.bits
  obtain ⟨_, _, Ta⟩ := Z.A.D.take
  obtain ⟨_, _, Le⟩ := Z.A.D.left
  obtain ⟨_, _, Pl⟩ := Z.A.D.place
  obtain ⟨_, _, Go⟩ := Z.A.D.go
  have GCE := K10.C.ok_cell (P := P) (w := w) (base := base) Ce T.X
  have GLN := K10.C.ok_lengths (P := P) (w := w) (base := base) Ln Ce Mi T.X
  have GCI := ok_cinit (P := P) (w := w) (base := base) CI M
  have GRI := ok_rinit (P := P) (w := w) (base := base) RI NR Bt.R TB
  have GTX := ok_texts (P := P) (w := w) (base := base) Lt Lc T
  have GBI := ok_bits (P := P) (w := w) (base := base) Lb Ce Mi T
  have GRO := ok_row (P := P) (w := w) (base := base) Lr Bt
  have GTA := ok_take (P := P) (w := w) (base := base) Ta.F Si Wh Bi On Le TB X
  have GPL := ok_place (P := P) (w := w) (base := base) Pl.F TB
  have GGO := ok_go (P := P) (w := w) (base := base) Go.F Wh TB X
  have GAS := ok_asked (P := P) (w := w) (base := base) As Z.A
  have GDU := ok_due (P := P) (w := w) (base := base) Du X
  have GRD := ok_read (P := P) (w := w) (base := base) Re Z
  refine F.ok scLaw (fun vs H Q E h => ?_) (fun cdv A outer st H vs Q E hr h => ?_)
  · obtain ⟨a, ns, rfl, _⟩ := h
    rfl
  · obtain ⟨a, ns, rfl, hS, hlen, k⟩ := h
    have hr1 : Room 1 _ := hr.mono (by decide)
    have hr2 : Room 2 _ := hr.mono (by decide)
    have hr3 : Room 3 _ := hr.mono (by decide)
    have hr4 : Room 4 _ := hr.mono (by decide)
    have hr6 : Room 6 _ := hr.mono (by decide)
    have hr31 : Room 31 _ := hr.mono (by decide)
    have hr35 : Room 35 _ := hr.mono (by decide)
    have hr36 : Room 36 _ := hr.mono (by decide)
    have hu := hr.units
    refine ⟨_, pss_cons (ps_set (i := 1) scLaw.nd rfl (Or.inl rfl) (pe_lst pa_nil))
      (pss_cons (ps_for PassesOwn.never rfl (pi_range1 (by rfl) T.X.range (pa_cons pe_int pa_nil)) (pg_name (i := 2) scLaw.nd rfl (Or.inl rfl))
        (pss_cons (ps_set (i := 3) scLaw.nd rfl (Or.inl rfl) (pe_op op_add pe_int (pe_op op_mod (pe_call GCE hr1 (by rfl) Ce.m Ce.F.kp Ce.b .nil pass0 (pa_cons (pv 0) (pa_cons (pv 2) pa_nil))) pe_int)))
        (pss_cons (ps_if (pt_cmpR op_eq (pe_op op_mod (pe_op op_fdiv (pe_call GCE hr1 (by rfl) Ce.m Ce.F.kp Ce.b .nil pass0 (pa_cons (pv 0) (pa_cons (pv 2) pa_nil))) pe_int) pe_int) pe_int (nomark _))
          (pss_one (ps_set (i := 3) scLaw.nd rfl (Or.inl rfl) (pe_op op_add pe_int (pe_op op_mod (pe_op op_fdiv (pe_call GCE hr1 (by rfl) Ce.m Ce.F.kp Ce.b .nil pass0 (pa_cons (pv 0) (pa_cons (pv 2) pa_nil))) pe_int) pe_int)))) pss_nil)
        (pss_one (ps_expr (pe_bm PySem.F.plainAttrs_list PySem.F.slot_list_append PySem.F.type_list_append mt_append (pv 1) (pa_cons (pe_call GLN hr2 (by rfl) Ln.m Ln.F.kp Ln.b .nil pass0 (pa_cons (pv 0) (pa_cons (pe_op op_add pe_int (pe_op op_mul pe_int (pv 2))) (pa_cons (pv 3) (pa_cons (pe_op op_add pe_int (pe_op op_mod (pe_op op_fdiv (pe_call GCE hr1 (by rfl) Ce.m Ce.F.kp Ce.b .nil pass0 (pa_cons (pv 0) (pa_cons (pv 2) pa_nil))) pe_int) pe_int)) pa_nil))))) pa_nil)))))))
      (pss_cons (ps_set (i := 4) scLaw.nd rfl (Or.inl rfl) (pe_lst (pa_cons (pe_callTy call_list_of (by rfl) T.X.list PyProof.Rows.boot_list (pa_cons (pe_ix ix_list (pv 1) pe_int (fun _ _ => rfl)) pa_nil)) (pa_cons (pe_callTy call_list_of (by rfl) T.X.list PyProof.Rows.boot_list (pa_cons (pe_ix ix_list (pv 1) pe_int (fun _ _ => rfl)) pa_nil)) pa_nil))))
      (pss_cons (ps_set (i := 5) scLaw.nd rfl (Or.inl rfl) (pe_lst (pa_cons (pe_make MC GCI hr35 (by rfl) mC bCI .nil pass0 (pa_cons (pe_ix ix_list (pv 4) pe_int (fun _ _ => rfl)) pa_nil)) (pa_cons (pe_make MC GCI hr35 (by rfl) mC bCI .nil pass0 (pa_cons (pe_ix ix_list (pv 4) pe_int (fun _ _ => rfl)) pa_nil)) pa_nil))))
      (pss_cons (ps_for PassesOwn.never rfl (pi_list (pv 4)) (pg_name (i := 6) scLaw.nd rfl (Or.inl rfl)) (pss_one (ps_expr (pe_bm0 PySem.F.plainAttrs_list PySem.F.slot_list_clear PySem.F.type_list_clear mt_clear (pv 6)))))
      (pss_cons (ps_set (i := 7) scLaw.nd rfl (Or.inl rfl) (pe_lst (pa_cons (pe_call GTX hr31 (by rfl) Lt.m Lt.F.kp Lt.b .nil pass0 (pa_cons (pe_ix ix_list (pv 1) pe_int (fun _ _ => rfl)) pa_nil)) (pa_cons (pe_call GTX hr31 (by rfl) Lt.m Lt.F.kp Lt.b .nil pass0 (pa_cons (pe_ix ix_list (pv 1) pe_int (fun _ _ => rfl)) pa_nil)) pa_nil))))
      (pss_cons (ps_asg (pe_call GBI hr31 (by rfl) Lb.m Lb.F.kp Lb.b .nil pass0 (pa_cons (pv 0) (pa_cons (pe_ix ix_list (pv 7) pe_int (fun _ _ => rfl)) pa_nil))) (pg_tup rfl (pgs_cons (pg_name (i := 8) scLaw.nd rfl (Or.inl rfl)) (pgs_cons (pg_name (i := 9) scLaw.nd rfl (Or.inl rfl)) pgs_nil))))
      (pss_cons (ps_set (i := 6) scLaw.nd rfl (Or.inl rfl) (pe_call GRO hr4 (by rfl) Lr.m Lr.F.kp Lr.b .nil pass0 (pa_cons (pv 8) pa_nil)))
      (pss_cons (ps_set (i := 10) scLaw.nd rfl (Or.inl rfl) (pe_op op_add_str (pv 8) (pe_op op_mul_str pe_str (pe_op op_sub (pe_op op_mul pe_int (pe_callB call_len_seq (by rfl) T.X.len PySem.boot_len (pa_cons (pv 6) pa_nil))) (pe_callB call_len_str (by rfl) T.X.len PySem.boot_len (pa_cons (pv 8) pa_nil))))))
      (pss_cons (ps_set (i := 11) scLaw.nd rfl (Or.inl rfl) (pe_lst (pa_cons (pe_make MR GRI hr6 (by rfl) mR bRI .nil pass0 (pa_cons (pv 6) pa_nil)) (pa_cons (pe_make MR GRI hr6 (by rfl) mR bRI .nil pass0 (pa_cons (pv 6) pa_nil)) pa_nil))))
      (pss_cons (ps_expr (pe_bm0 PySem.F.plainAttrs_list PySem.F.slot_list_clear PySem.F.type_list_clear mt_clear (pv 6)))
      (pss_cons (ps_expr (pe_meth (pe_ix ix_list (pv 11) pe_int (fun _ _ => rfl)) TB.cl Ta.m GTA hr3 Ta.b .nil pass0 (pa_cons (pv 9) pa_nil)))
      (pss_cons (ps_set (i := 12) scLaw.nd rfl (Or.inl rfl) pe_int)
      (pss_cons (ps_for PassesOwn.never rfl (pi_range1 (by rfl) T.X.range (pa_cons pe_int pa_nil)) (pg_name (i := 13) scLaw.nd rfl (Or.inl rfl))
        (pss_cons (ps_asg (pe_call GDU hr31 (by rfl) Du.m Du.F.kp Du.b .nil pass0 (pa_cons (pe_ix ix_list (pv 7) pe_int (fun _ _ => rfl)) (pa_cons (pv 10) (pa_cons (pv 12) pa_nil)))) (pg_tup rfl (pgs_cons (pg_name (i := 14) scLaw.nd rfl (Or.inl rfl)) (pgs_cons (pg_name (i := 12) scLaw.nd rfl (Or.inl rfl)) pgs_nil))))
        (pss_one (ps_if (PW.pt (pw_or (pt_cmpR (op_ne.either (op_neRf hu)) (pe_call GAS hr36 (by rfl) As.m As.F.kp As.b .nil pass0 (pa_cons (pe_ix ix_list (pv 5) pe_int (fun _ _ => rfl)) (pa_cons (pe_ix ix_list (pv 11) pe_int (fun _ _ => rfl)) pa_nil))) (pv 14) (nomark _))
          (pw_or1 (pt_cmpR op_ne (pe_meth0 (pe_ix ix_list (pv 11) pe_int (fun _ _ => rfl)) TB.cl Pl.m GPL hr1 Pl.b .nil pass0) (pv 12) (nomark _))))) (pss_one (ps_ret pe_bl)) pss_nil))))
      (pss_cons (ps_if (pt_cmpR op_isN (pe_call GRD hr (by rfl) Re.m Re.F.kp Re.b .nil pass0 (pa_cons (pe_ix ix_list (pv 5) pe_int (fun _ _ => rfl)) (pa_cons (pe_ix ix_list (pv 11) pe_int (fun _ _ => rfl)) (pa_cons (pe_ix ix_list (pv 7) pe_int (fun _ _ => rfl)) (pa_cons (pv 10) (pa_cons (pv 9) pa_nil)))))) pe_non (nomark _)) (pss_one (ps_ret pe_bl)) pss_nil)
      (pss_cons (ps_expr (pe_meth (pe_ix ix_list (pv 11) pe_int (fun _ _ => rfl)) TB.cl Go.m GGO hr2 Go.b .nil pass0 (pa_cons pe_int pa_nil)))
      (pss_cons (ps_if (pt_cmpR op_isN (pe_call GRD hr (by rfl) Re.m Re.F.kp Re.b .nil pass0 (pa_cons (pe_ix ix_list (pv 5) pe_int (fun _ _ => rfl)) (pa_cons (pe_ix ix_list (pv 11) pe_int (fun _ _ => rfl)) (pa_cons (pe_ix ix_list (pv 7) pe_int (fun _ _ => rfl)) (pa_cons (pv 10) (pa_cons pe_int pa_nil)))))) pe_non (nomark _)) (pss_one (ps_ret pe_bl)) pss_nil)
      (pss_cons (ps_expr (pe_meth (pe_ix ix_list (pv 11) pe_int (fun _ _ => rfl)) TB.cl Go.m GGO hr2 Go.b .nil pass0 (pa_cons (pv 9) pa_nil)))
      (pss_one (ps_ret (pe_cmpR op_notN (pe_call GRD hr (by rfl) Re.m Re.F.kp Re.b .nil pass0 (pa_cons (pe_ix ix_list (pv 5) pe_int (fun _ _ => rfl)) (pa_cons (pe_ix ix_list (pv 11) pe_int (fun _ _ => rfl)) (pa_cons (pe_ix ix_list (pv 7) pe_int (fun _ _ => rfl)) (pa_cons (pv 10) (pa_cons (pv 9) pa_nil)))))) pe_non (nomark _))))))))))))))))))))), ?_⟩
    -- the lengths
    refine seq_g fun R1 g1 => ?_
    refine ⟨(by show 0 ≤ sizeLine; decide), fun l0 nl0 => g1 _ _ ?_⟩
    clear g1
    have sz0 := same_new (o := .lst []) nl0
    refine seq_g fun R1 g1 => ?_
    refine ⟨2, rfl, by decide, by decide, ?_⟩
    refine for_range (D := ⟨_, _, fun _ _ => False, fun _ _ => False⟩) (lo := 0) (n := (2 : Int).toNat) (fun i σ H2 => ∃ (v2 v3 : Option V) (as : List Addr) (Ls : List (List Nat)), σ = [some (.ref a), some (.ref l0), v2, v3, none, none, none, none, none, none, none, none, none, none, none] ∧ as.length = i ∧ Ls.length = i ∧ H2 l0 = some (.lst (as.map V.ref)) ∧ (∀ (j : Nat) (b : Addr) (L : List Nat), as[j]? = some b → Ls[j]? = some L → b ≠ l0 ∧ H2 b = some (.lst (L.map vN)) ∧ Good L) ∧ Same H H2)
      ⟨none, none, [], [], rfl, rfl, rfl, upd_same, (fun j b L z => (by cases z)), sz0⟩ ?_ ?_
    · clear g1
      rintro i σ H2 hi ⟨v2, v3, as, Ls, rfl, hal, hLl, hl2, hall, s2⟩
      have hi2 : i < 2 := hi
      have ei : (0 : Int) + ((i : Nat) : Int) = ((i : Nat) : Int) := by omega
      try dsimp only
      rw [ei]
      have hS2 := s2.seq hS
      refine seq_g fun R2 g2 => ?_
      refine ⟨_, rfl, _, rfl, a, ns, i, rfl, hS2, _, _, rfl, rfl, (by show (0 : Int) < 14; decide), _, _, rfl, rfl, g2 _ _ ?_⟩
      clear g2
      obtain ⟨m1, hm1, hm1', em1⟩ : ∃ m : Nat, 1 ≤ m ∧ m ≤ 300 ∧ (1 : Int) + ns.getD i 0 % 14 = ((m : Nat) : Int) := ⟨(1 + ns.getD i 0 % 14).toNat, by omega, by omega, by omega⟩
      obtain ⟨m2, hm2, hm2', em2⟩ : ∃ m : Nat, 1 ≤ m ∧ m ≤ 300 ∧ (15 : Int) + ns.getD i 0 / 1344 % 286 = ((m : Nat) : Int) := ⟨(15 + ns.getD i 0 / 1344 % 286).toNat, by omega, by omega, by omega⟩
      obtain ⟨m3, hm3, hm3', em3⟩ : ∃ m : Nat, 1 ≤ m ∧ m ≤ 12 ∧ (1 : Int) + ns.getD i 0 / 14 % 12 = ((m : Nat) : Int) := ⟨(1 + ns.getD i 0 / 14 % 12).toNat, by omega, by omega, by omega⟩
      have e20 : (3 : Int) + 20 * ((i : Nat) : Int) = ((3 + 20 * i : Nat) : Int) := by omega
      try dsimp only
      rw [em1]
      refine seq_g fun R2 g2 => ?_
      have J : ∀ m : Nat, 1 ≤ m → m ≤ 300 → R2 [some (.ref a), some (.ref l0), some (vN i), some (vN m), none, none, none, none, none, none, none, none, none, none, none] H2 := by
        intro m h1 h2
        refine g2 _ _ ?_
        clear g2
        refine ⟨_, rfl, .inl ⟨rfl, _, SqL.of hl2⟩, _, rfl, _, rfl, _, _, rfl, rfl, .inl ⟨by decide, by decide⟩, _, _, rfl, rfl, _, rfl, _, rfl, _, rfl, a, ns, i, rfl, hS2, _, _, rfl, rfl, ⟨by decide, by decide⟩, _, _, rfl, rfl, (by show (0 : Int) < 12; decide), _, _, rfl, rfl, ?_⟩
        try dsimp only
        rw [e20, em3]
        refine ⟨a, ns, _, m, m3, rfl, hS2, h1, h2, hm3, hm3', fun b L H3 nb s3 hb G => ?_⟩
        have hl3 := s3 _ _ hl2
        have nbl : b ≠ l0 := fun z => by rw [z, hl2] at nb; cases nb
        refine ⟨l0, _, _, rfl, rfl, hl3, K10.C.sl2000' (by rw [List.length_map]; omega), ?_⟩
        refine ⟨_, _, as ++ [b], Ls ++ [L], rfl, by rw [List.length_append, hal]; rfl, by rw [List.length_append, hLl]; rfl, ?_, fun j b' L' e1 e2 => ?_, fun c o e => ?_⟩
        · rw [List.map_append]; exact upd_same
        · rcases Nat.lt_or_ge j i with hj | hj
          · rw [List.getElem?_append_left (by omega)] at e1 e2
            obtain ⟨q1, q2, q3⟩ := hall j b' L' e1 e2
            exact ⟨q1, by rw [upd_ne q1]; exact s3 _ _ q2, q3⟩
          · rw [List.getElem?_append_right (by omega)] at e1 e2
            have hj0 : j - as.length = 0 := by
              have := (List.getElem?_eq_some_iff.mp e1).1
              simp at this
              omega
            have hj1 : j - Ls.length = 0 := by omega
            rw [hj0] at e1
            rw [hj1] at e2
            cases e1
            cases e2
            exact ⟨nbl, by rw [upd_ne nbl]; exact hb, G⟩
        · rw [upd_ne (ne_of_none e nl0)]; exact s3 _ _ (s2 _ _ e)
      clear g2
      refine ⟨_, rfl, _, rfl, a, ns, i, rfl, hS2, _, _, rfl, rfl, ⟨by decide, by decide⟩, _, _, rfl, rfl, (by show (0 : Int) < 8; decide), rfl, _, rfl, ite2 (fun _ => ?_) (fun _ => J m1 hm1 hm1')⟩
      refine ⟨_, rfl, _, rfl, a, ns, i, rfl, hS2, _, _, rfl, rfl, ⟨by decide, by decide⟩, _, _, rfl, rfl, (by show (0 : Int) < 286; decide), _, _, rfl, rfl, ?_⟩
      try dsimp only
      rw [em2]
      exact J m2 hm2 hm2'
    rintro σ H1 ⟨v2, v3, as, Ls, rfl, hal, hLl, h1l, hall, s1⟩
    obtain ⟨a0, a1, rfl⟩ : ∃ a0 a1, as = [a0, a1] := by
      match as, hal with
      | [a0, a1], _ => exact ⟨a0, a1, rfl⟩
    obtain ⟨L0, L1, rfl⟩ : ∃ L0 L1, Ls = [L0, L1] := by
      match Ls, hLl with
      | [L0, L1], _ => exact ⟨L0, L1, rfl⟩
    obtain ⟨na0, ha0, G0⟩ := hall 0 a0 L0 rfl rfl
    obtain ⟨na1, ha1, G1⟩ := hall 1 a1 L1 rfl rfl
    clear hall hal hLl
    refine g1 _ _ ?_
    clear g1
    have h1l' : H1 l0 = some (.lst [.ref a0, .ref a1]) := h1l
    clear h1l sz0
    -- what is handed in
    refine seq_g fun R1 g1 => ?_
    refine ⟨_, rfl, l0, _, _, _, rfl, rfl, SqL.of h1l', atI_nat (j := 0) rfl, a0, _, rfl, .inl (SqL.of ha0), fun b0 nb0 => ?_⟩
    have sA := same_new (o := .lst (L0.map vN)) nb0
    refine ⟨_, rfl, l0, _, _, _, rfl, rfl, SqL.of (sA _ _ h1l'), atI_nat (j := 1) rfl, a1, _, rfl, .inl (SqL.of (sA _ _ ha1)), fun b1 nb1 => ?_⟩
    have sB := same_new (o := .lst (L1.map vN)) nb1
    refine ⟨(by show 2 ≤ sizeLine; decide), fun hl nhl => g1 _ _ ?_⟩
    clear g1
    have sC := same_new (o := .lst [.ref b0, .ref b1]) nhl
    have nb1' : H1 b1 = none := none_of sA nb1
    have n01 : b0 ≠ b1 := fun z => by rw [← z, upd_same] at nb1; cases nb1
    have hb0 := sC _ _ (sB _ _ (show upd H1 b0 (.lst (L0.map vN)) b0 = some (.lst (L0.map vN)) from upd_same))
    have hb1 := sC _ _ (show upd (upd H1 b0 (.lst (L0.map vN))) b1 (.lst (L1.map vN)) b1 = some (.lst (L1.map vN)) from upd_same)
    have hh : upd (upd (upd H1 b0 (.lst (L0.map vN))) b1 (.lst (L1.map vN))) hl (.lst [.ref b0, .ref b1]) hl = some (.lst [.ref b0, .ref b1]) := upd_same
    have s12 : Same H1 (upd (upd (upd H1 b0 (.lst (L0.map vN))) b1 (.lst (L1.map vN))) hl (.lst [.ref b0, .ref b1])) := (sA.trans sB).trans sC
    have nhb0 : b0 ≠ hl := ne_of_none (sB _ _ (show upd H1 b0 (.lst (L0.map vN)) b0 = some (.lst (L0.map vN)) from upd_same)) nhl
    have nhb1 : b1 ≠ hl := ne_of_none (show upd (upd H1 b0 (.lst (L0.map vN))) b1 (.lst (L1.map vN)) b1 = some (.lst (L1.map vN)) from upd_same) nhl
    clear sA sB sC nhl nb1
    generalize upd (upd (upd H1 b0 (.lst (L0.map vN))) b1 (.lst (L1.map vN))) hl (.lst [.ref b0, .ref b1]) = H2 at *
    -- the codes' readers
    refine seq_g fun R1 g1 => ?_
    refine ⟨_, rfl, hl, _, _, _, rfl, rfl, SqL.of hh, atI_nat (j := 0) rfl, fun p0 dp0 np0 ndp0 _ => ?_⟩
    have z0 : Same H2 (upd (upd H2 dp0 (.own p0)) p0 (.ins C dp0 [])) := fun c o e => by
      rw [upd_ne (ne_of_none e np0), upd_ne (ne_of_none e ndp0)]; exact e
    refine ⟨p0, dp0, b0, L0, rfl, upd_same, z0 _ _ hb0, G0, fun d0 e0 H3 nd0 ne0 hC0 kp0 => ⟨rfl, ?_⟩⟩
    have s23 : Same H2 H3 := fun c o e => kp0 _ _ (z0 _ _ e) (ne_of_none e np0)
    clear z0 kp0
    refine ⟨_, rfl, hl, _, _, _, rfl, rfl, SqL.of (s23 _ _ hh), atI_nat (j := 1) rfl, fun p1 dp1 np1 ndp1 _ => ?_⟩
    have z1 : Same H3 (upd (upd H3 dp1 (.own p1)) p1 (.ins C dp1 [])) := fun c o e => by
      rw [upd_ne (ne_of_none e np1), upd_ne (ne_of_none e ndp1)]; exact e
    refine ⟨p1, dp1, b1, L1, rfl, upd_same, z1 _ _ (s23 _ _ hb1), G1, fun d1 e1 H4 nd1 ne1 hC1 kp1 => ⟨rfl, ?_⟩⟩
    have s34 : Same H3 H4 := fun c o e => kp1 _ _ (z1 _ _ e) (ne_of_none e np1)
    clear z1 kp1
    refine ⟨(by show 2 ≤ sizeLine; decide), fun lc nlc => g1 _ _ ?_⟩
    clear g1
    have sD := same_new (o := .lst [.ref p0, .ref p1]) nlc
    have hlc : upd H4 lc (.lst [.ref p0, .ref p1]) lc = some (.lst [.ref p0, .ref p1]) := upd_same
    have hC0' := (hC0.same s34).same sD
    have hC1' := hC1.same sD
    have s25 := (s23.trans s34).trans sD
    have nlb0 : lc ≠ b0 := fun z => by rw [z, s34 _ _ (s23 _ _ hb0)] at nlc; cases nlc
    have nlb1 : lc ≠ b1 := fun z => by rw [z, s34 _ _ (s23 _ _ hb1)] at nlc; cases nlc
    clear hC0 hC1 s23 s34 sD nlc np0 ndp0 np1 ndp1 nd0 ne0 nd1 ne1
    generalize upd H4 lc (.lst [.ref p0, .ref p1]) = H5 at *
    have hh5 := s25 _ _ hh
    have hb05 := s25 _ _ hb0
    have hb15 := s25 _ _ hb1
    -- what was handed in is emptied
    refine seq_g fun R1 g1 => ?_
    refine ⟨_, rfl, hl, rfl, ⟨_, SqL.of hh5⟩, for_list (D := ⟨_, _, fun _ _ => False, fun _ _ => False⟩) (K := K) (a := hl) (xs := [.ref b0, .ref b1]) (fun i σ H6 => ∃ (v6 : Option V) (y0 y1 : List V), σ = [some (.ref a), some (.ref l0), v2, v3, some (.ref hl), some (.ref lc), v6, none, none, none, none, none, none, none, none] ∧ H6 hl = some (.lst [.ref b0, .ref b1]) ∧ H6 b0 = some (.lst y0) ∧ H6 b1 = some (.lst y1) ∧ ∀ c o, H5 c = some o → c ≠ b0 → c ≠ b1 → H6 c = some o)
      ⟨none, _, _, rfl, hh5, hb05, hb15, fun c o e _ _ => e⟩ (fun i σ H' _ ⟨_, _, _, _, z, _⟩ => SqL.of z) ?_ ?_⟩
    · clear g1
      rintro i x σ H6 hx ⟨v6, y0, y1, rfl, hh6, h60, h61, oth⟩
      match i, hx with
      | 0, hx =>
        cases hx
        refine ⟨_, rfl, .inl ⟨rfl, _, SqL.of h60⟩, b0, _, rfl, rfl, h60, _, [], y1, rfl, ?_, upd_same, ?_, fun c o e n1 n2 => ?_⟩
        · rw [upd_ne nhb0.symm]; exact hh6
        · rw [upd_ne n01.symm]; exact h61
        · rw [upd_ne n1]; exact oth c o e n1 n2
      | 1, hx =>
        cases hx
        refine ⟨_, rfl, .inl ⟨rfl, _, SqL.of h61⟩, b1, _, rfl, rfl, h61, _, y0, [], rfl, ?_, ?_, upd_same, fun c o e n1 n2 => ?_⟩
        · rw [upd_ne nhb1.symm]; exact hh6
        · rw [upd_ne n01]; exact h60
        · rw [upd_ne n2]; exact oth c o e n1 n2
      | i + 2, hx => cases hx
    rintro σ H6 ⟨v6, y0, y1, rfl, _, _, _, oth⟩
    refine g1 _ _ ?_
    clear g1
    have s16 : Same H1 H6 := fun c o e => oth _ _ (s25 _ _ (s12 _ _ e)) (ne_of_none e nb0) (ne_of_none e nb1')
    have hlc6 := oth _ _ hlc nlb0 nlb1
    have hC06 : CdAt C H6 p0 d0 e0 L0 := by
      obtain ⟨q1, q2, q3⟩ := hC0'.nl hb05
      obtain ⟨r1, r2, r3⟩ := hC0'.nl hb15
      exact hC0'.keep fun c o e hc => oth c o e (by rcases hc with rfl | rfl | rfl <;> assumption) (by rcases hc with rfl | rfl | rfl <;> assumption)
    have hC16 : CdAt C H6 p1 d1 e1 L1 := by
      obtain ⟨q1, q2, q3⟩ := hC1'.nl hb05
      obtain ⟨r1, r2, r3⟩ := hC1'.nl hb15
      exact hC1'.keep fun c o e hc => oth c o e (by rcases hc with rfl | rfl | rfl <;> assumption) (by rcases hc with rfl | rfl | rfl <;> assumption)
    have h6l := s16 _ _ h1l'
    have h6a0 := s16 _ _ ha0
    have h6a1 := s16 _ _ ha1
    have s06 := s1.trans s16
    clear oth hC0' hC1' hlc hh5 hb05 hb15 hh hb0 hb1 s25 s12 s16 s1 nhb0 nhb1 nlb0 nlb1 n01 ha0 ha1 h1l' nb0 nb1'
    -- the texts of the codes
    refine seq_g fun R1 g1 => ?_
    refine ⟨_, rfl, l0, _, _, _, rfl, rfl, SqL.of h6l, atI_nat (j := 0) rfl, a0, L0, rfl, h6a0, G0, fun x0 H7 nx0 s67 hx0 => ?_⟩
    refine ⟨_, rfl, l0, _, _, _, rfl, rfl, SqL.of (s67 _ _ h6l), atI_nat (j := 1) rfl, a1, L1, rfl, s67 _ _ h6a1, G1, fun x1 H8 nx1 s78 hx1 => ?_⟩
    refine ⟨(by show 2 ≤ sizeLine; decide), fun lt nlt => g1 _ _ ?_⟩
    clear g1
    have sE := same_new (o := .lst [.ref x0, .ref x1]) nlt
    have hlt : upd H8 lt (.lst [.ref x0, .ref x1]) lt = some (.lst [.ref x0, .ref x1]) := upd_same
    have hx09 := sE _ _ (s78 _ _ hx0)
    have hx19 := sE _ _ hx1
    have s69 := (s67.trans s78).trans sE
    clear sE hx0 hx1 s67 s78 nlt nx0 nx1
    generalize upd H8 lt (.lst [.ref x0, .ref x1]) = H9 at *
    have s09 := s06.trans s69
    -- the bits
    refine seq_g fun R1 g1 => ?_
    refine ⟨_, rfl, _, rfl, lt, _, _, _, rfl, rfl, SqL.of hlt, atI_nat (j := 0) rfl, a, x0, ns, L0, rfl, s09.seq hS, hx09, G0, fun q bs z H10 hq hz3 hzb hbl s910 => ?_⟩
    refine ⟨q, _, rfl, SqT.of hq, rfl, _, _, rfl, _, _, rfl, rfl, g1 _ _ ?_⟩
    clear g1
    -- the row
    refine seq_g fun R1 g1 => ?_
    refine ⟨_, rfl, bs, rfl, hbl, fun lr R H11 nlr ro hlr s1011 => g1 _ _ ?_⟩
    clear g1
    have hRl := ro.len
    have hbt := bt_row ro
    have hpad : 8 * R.length - bs.length ≤ 7 := by omega
    -- the whole
    refine seq_g fun R1 g1 => ?_
    refine ⟨_, rfl, _, rfl, lr, _, rfl, .inl (SqL.of hlr), _, _, rfl, rfl, .inl ⟨by decide, by decide⟩, _, rfl, _, rfl, (by rw [txt_length]; exact sl2000 (by omega)), _, _, rfl, rfl, ?_⟩
    have epad : (8 : Int) * (((R.map vN).length : Nat) : Int) - (((txt bs).length : Nat) : Int) = ((8 * R.length - bs.length : Nat) : Int) := by rw [List.length_map, txt_length]; omega
    try dsimp only
    rw [epad, s_zero]
    refine ⟨_, _, rfl, rfl, mul_ok _ hpad, _, _, rfl, rfl, ?_, ?_⟩
    · rw [mul_txt _ hpad, txt_length, txt_length, List.length_replicate]
      exact sl2000 (by omega)
    try dsimp only
    rw [mul_txt _ hpad, txt_append, ← hbt]
    refine g1 _ _ ?_
    clear g1
    -- the readers
    refine seq_g fun R1 g1 => ?_
    refine ⟨_, rfl, fun r0 dr0 nr0 ndr0 _ => ?_⟩
    have z0 : Same H11 (upd (upd H11 dr0 (.own r0)) r0 (.ins B dr0 [])) := fun c o e => by
      rw [upd_ne (ne_of_none e nr0), upd_ne (ne_of_none e ndr0)]; exact e
    refine ⟨r0, dr0, lr, R, rfl, upd_same, z0 _ _ hlr, ro.byt, fun q0 H12 nq0 hR0 kp0 => ⟨rfl, ?_⟩⟩
    have s1112 : Same H11 H12 := fun c o e => kp0 _ _ (z0 _ _ e) (ne_of_none e nr0)
    have nq0r : lr ≠ q0 := ne_of_none (z0 _ _ hlr) nq0
    have nr0r : lr ≠ r0 := ne_of_none hlr nr0
    clear z0 kp0
    refine ⟨_, rfl, fun r1 dr1 nr1 ndr1 _ => ?_⟩
    have z1 : Same H12 (upd (upd H12 dr1 (.own r1)) r1 (.ins B dr1 [])) := fun c o e => by
      rw [upd_ne (ne_of_none e nr1), upd_ne (ne_of_none e ndr1)]; exact e
    have hlr12 := s1112 _ _ hlr
    refine ⟨r1, dr1, lr, R, rfl, upd_same, z1 _ _ hlr12, ro.byt, fun q1 H13 nq1 hR1 kp1 => ⟨rfl, ?_⟩⟩
    have s1213 : Same H12 H13 := fun c o e => kp1 _ _ (z1 _ _ e) (ne_of_none e nr1)
    have nq1r : lr ≠ q1 := ne_of_none (z1 _ _ hlr12) nq1
    have nr1r : lr ≠ r1 := ne_of_none hlr12 nr1
    have nr01 : r0 ≠ r1 := by obtain ⟨dz, hz⟩ := hR0.ob; exact ne_of_none hz nr1
    clear z1 kp1
    refine ⟨(by show 2 ≤ sizeLine; decide), fun lx nlx => g1 _ _ ?_⟩
    clear g1
    have sF := same_new (o := .lst [.ref r0, .ref r1]) nlx
    have nlxr : lr ≠ lx := ne_of_none (s1213 _ _ hlr12) nlx
    have hlr14 := sF _ _ (s1213 _ _ hlr12)
    -- the row is emptied
    refine seq_g fun R1 g1 => ?_
    refine ⟨_, rfl, .inl ⟨rfl, _, SqL.of hlr14⟩, lr, _, rfl, rfl, hlr14, g1 _ _ ?_⟩
    clear g1
    have s1014 := ((s1011.trans s1112).trans s1213).trans sF
    have s10 : Same H10 (upd (upd H13 lx (.lst [.ref r0, .ref r1])) lr (.lst [])) := fun c o e => by
      rw [upd_ne (ne_of_none e nlr)]; exact s1014 _ _ e
    have hRk : ∀ {r g}, ReadAt B H13 r g R 0 → lr ≠ r → lr ≠ g → ReadAt B (upd (upd H13 lx (.lst [.ref r0, .ref r1])) lr (.lst [])) r g R 0 := fun h n1 n2 => by
      obtain ⟨⟨dz, h1⟩, h2, h3, h4⟩ := h.same sF
      exact ⟨⟨dz, by rw [upd_ne n1.symm]; exact h1⟩, by rw [upd_ne n2.symm]; exact h2, h3, h4⟩
    have s6z := (s69.trans s910).trans s10
    have s9z := s910.trans s10
    have W : Wd C B lc lt lx p0 d0 e0 p1 d1 e1 x0 x1 r0 q0 r1 q1 L0 L1 R (upd (upd H13 lx (.lst [.ref r0, .ref r1])) lr (.lst [])) 0 0 :=
      ⟨s6z _ _ hlc6, s9z _ _ hlt, by rw [upd_ne nlxr.symm]; exact upd_same, hC06.same s6z, hC16.same s6z, s9z _ _ hx09, s9z _ _ hx19, hRk (hR0.same s1213) nr0r nq0r, hRk hR1 nr1r nq1r, nr01⟩
    generalize upd (upd H13 lx (.lst [.ref r0, .ref r1])) lr (.lst []) = H15 at W ⊢
    clear hRk s10 s6z s9z s1014 hlr14 nlxr sF nlx nr1r nq1r s1213 hlr12 nr0r nq0r s1112 nr0 ndr0 nr1 ndr1 hR0 hR1 nq0 nq1 hlr nlr s1011 s910 hq hlt hx09 hx19 s69 s09 s06 hC06 hC16 hlc6 h6l h6a0 h6a1 nr01
    have hz8 : z ≤ 8 * R.length := by omega
    have hbtl := bt_length R
    have hR100 : R.length ≤ 100 := by omega
    -- the bits ahead are taken
    refine seq_g fun R1 g1 => ?_
    obtain ⟨dy, hy⟩ := W.q0.ob
    refine ⟨_, rfl, lx, _, _, _, rfl, rfl, SqL.of W.lx, atI_nat (j := 0) rfl, r0, dy, _, rfl, hy, fR_no _ _ (by decide +kernel) (by decide +kernel), _, rfl, r0, q0, R, 0, z, rfl, W.q0, by omega, by omega, fun H16 hR16 oth16 => g1 _ _ ?_⟩
    clear g1 hy
    rw [Nat.zero_add] at hR16
    have W1 := W.step0 hR16 oth16
    clear W hR16 oth16
    refine seq_g fun R1 g1 => g1 _ _ ?_
    clear g1
    -- four turns of the other code
    refine seq_g fun R1 g1 => ?_
    refine ⟨4, rfl, by decide, by decide, ?_⟩
    refine for_range (D := ⟨_, _, fun _ _ => False, fun _ _ => False⟩) (lo := 0) (n := (4 : Int).toNat) (fun i σ H2 => ∃ (t : Nat) (v13 v14 : Option V), σ = [some (.ref a), some (.ref l0), v2, v3, some (.ref hl), some (.ref lc), some (.ref lr), some (.ref lt), some (.str (txt bs)), some (vN z), some (.str (txt (bt R))), some (.ref lx), some (vN t), v13, v14] ∧ Wd C B lc lt lx p0 d0 e0 p1 d1 e1 x0 x1 r0 q0 r1 q1 L0 L1 R H2 z t)
      ⟨0, none, none, rfl, W1⟩ ?_ ?_
    · clear g1 W1
      rintro i σ H2 hi ⟨t, v13, v14, rfl, W⟩
      have ht := W.q1.le
      obtain ⟨res, hD⟩ := due_total L1 ((bt R).drop t)
      refine seq_g fun R2 g2 => ?_
      refine ⟨_, rfl, lt, _, _, _, rfl, rfl, SqL.of W.lt, atI_nat (j := 1) rfl, _, rfl, _, rfl, x1, L1, bt R, t, res, rfl, W.h1, G1, by omega, by omega, hD, fun q x u H3 hq hT s3 => ?_⟩
      refine ⟨q, _, rfl, SqT.of hq, rfl, _, _, rfl, _, _, rfl, rfl, g2 _ _ ?_⟩
      clear g2
      have W3 := W.same s3
      refine ⟨_, rfl, lc, _, _, _, rfl, rfl, SqL.of W3.lc, atI_nat (j := 1) rfl, _, rfl, lx, _, _, _, rfl, rfl, SqL.of W3.lx, atI_nat (j := 1) rfl, p1, d1, e1, r1, q1, L1, R, t, res, rfl, W3.c1, G1, W3.q1, hD, fun y u' H4 hT4 hR4 oth4 => ?_⟩
      have eu := told_u hT hT4
      subst eu
      have W4 := W3.step1 hR4 oth4
      refine ⟨_, rfl, told_ne hT4 (hT.but W3.q1 oth4) ⟨_, rfl, iteF ?_⟩⟩
      obtain ⟨dy4, hy4⟩ := W4.q1.ob
      refine ⟨_, rfl, lx, _, _, _, rfl, rfl, SqL.of W4.lx, atI_nat (j := 1) rfl, r1, dy4, _, rfl, hy4, fR_no _ _ (by decide +kernel) (by decide +kernel), r1, q1, R, _, rfl, W4.q1, _, rfl, rfl, _, rfl, ?_⟩
      have e3 : (!decide (vN u' = vN u')) = false := by rw [decide_eq_true rfl]; rfl
      try dsimp only
      rw [e3]
      exact iteF ⟨u', _, _, rfl, W4⟩
    rintro σ H17 ⟨t, v13, v14, rfl, W⟩
    refine g1 _ _ ?_
    clear g1 W1
    -- the one code, behind what is ahead
    refine seq_g fun R1 g1 => ?_
    refine ⟨_, rfl, lc, _, _, _, rfl, rfl, SqL.of W.lc, atI_nat (j := 0) rfl, _, rfl, lx, _, _, _, rfl, rfl, SqL.of W.lx, atI_nat (j := 0) rfl, _, rfl, lt, _, _, _, rfl, rfl, SqL.of W.lt, atI_nat (j := 0) rfl, _, rfl, _, rfl, p0, d0, e0, r0, q0, x0, L0, R, z, rfl, W.c0, G0, W.q0, W.h0, hR100, fun u H18 hR18 oth18 => ?_⟩
    have W2 := W.step0 hR18 oth18
    refine ⟨rfl, _, rfl, ite2 (fun h => by cases of_decide_eq_true h) (fun _ => g1 _ _ ?_)⟩
    clear g1 W hR18 oth18
    refine seq_g fun R1 g1 => ?_
    obtain ⟨dy2, hy2⟩ := W2.q0.ob
    refine ⟨_, rfl, lx, _, _, _, rfl, rfl, SqL.of W2.lx, atI_nat (j := 0) rfl, r0, dy2, _, rfl, hy2, fR_no _ _ (by decide +kernel) (by decide +kernel), r0, q0, R, u, 0, rfl, W2.q0, by omega, fun H19 hR19 oth19 => g1 _ _ ?_⟩
    clear g1 hy2
    have W3 := W2.step0 hR19 oth19
    clear W2 hR19 oth19
    -- the other code from the beginning
    refine seq_g fun R1 g1 => ?_
    refine ⟨_, rfl, lc, _, _, _, rfl, rfl, SqL.of W3.lc, atI_nat (j := 1) rfl, _, rfl, lx, _, _, _, rfl, rfl, SqL.of W3.lx, atI_nat (j := 0) rfl, _, rfl, lt, _, _, _, rfl, rfl, SqL.of W3.lt, atI_nat (j := 1) rfl, _, rfl, p1, d1, e1, r0, q0, x1, L1, R, 0, rfl, W3.c1, G1, W3.q0, W3.h1, hR100, fun u2 H20 hR20 oth20 => ?_⟩
    have W4 := W3.step0 hR20 oth20
    refine ⟨rfl, _, rfl, ite2 (fun h => by cases of_decide_eq_true h) (fun _ => g1 _ _ ?_)⟩
    clear g1 W3 hR20 oth20
    refine seq_g fun R1 g1 => ?_
    obtain ⟨dy4, hy4⟩ := W4.q1.ob
    refine ⟨_, rfl, lx, _, _, _, rfl, rfl, SqL.of W4.lx, atI_nat (j := 1) rfl, r1, dy4, _, rfl, hy4, fR_no _ _ (by decide +kernel) (by decide +kernel), _, rfl, r1, q1, R, t, z, rfl, W4.q1, hz8, fun H21 hR21 oth21 => g1 _ _ ?_⟩
    clear g1 hy4
    have W5 := W4.step1 hR21 oth21
    clear W4 hR21 oth21
    refine ⟨_, rfl, lc, _, _, _, rfl, rfl, SqL.of W5.lc, atI_nat (j := 0) rfl, _, rfl, lx, _, _, _, rfl, rfl, SqL.of W5.lx, atI_nat (j := 1) rfl, _, rfl, lt, _, _, _, rfl, rfl, SqL.of W5.lt, atI_nat (j := 0) rfl, _, rfl, _, rfl, p0, d0, e0, r1, q1, x0, L0, R, z, rfl, W5.c0, G0, W5.q1, W5.h0, hR100, fun u3 H22 hR22 oth22 => ?_⟩
    refine ⟨rfl, ?_⟩
    have e9 : (!decide (vN u3 = V.non)) = true := by rw [decide_eq_false (by intro z; cases z)]; rfl
    try dsimp only
    rw [e9]
    exact k _
end
end K10

set_option Elab.async false
set_option linter.all false
set_option maxRecDepth 100000
set_option maxHeartbeats 8000000
namespace K10
open PySem L2 QQ C9 C10
/-! ### what the top has written -/
theorem paired_at {α β : Type} {F : α → β → Prop} {xs : List α} {ys : List β} (h : Paired F xs ys) : ∀ (i : Nat) (x : α) (y : β), xs[i]? = some x → ys[i]? = some y → F x y := by
  induction h with
  | nil => intro i x y h1; cases h1
  | cons r _ ih =>
    intro i x y h1 h2
    cases i with
    | zero => cases h1; cases h2; exact r
    | succ i => exact ih i x y h1 h2
theorem all_mk {l : PySem.W.OpenLaw} {w : World} {K : PySem.W.Frag} {h : Heap} {mg : Str → Option Value} {fa C B D : Addr} (X : K.In h) (G : h.Ns mainGlobals mg) (hfa : mg "law" = some (.ref fa))
    {f1 : Addr} {od1 an1 : Option Addr} {sl1 : Array (Option Value)} {oc1 kV1 dc1 pm1 cd1 ct1 : Value}
    {f2 : Addr} {od2 an2 : Option Addr} {sl2 : Array (Option Value)} {oc2 kV2 dc2 pm2 cd2 ct2 : Value}
    {f3 : Addr} {od3 an3 : Option Addr} {sl3 : Array (Option Value)} {oc3 kV3 dc3 pm3 cd3 ct3 : Value}
    {f4 : Addr} {od4 an4 : Option Addr} {sl4 : Array (Option Value)} {oc4 kV4 dc4 pm4 cd4 ct4 : Value}
    {f5 : Addr} {od5 an5 : Option Addr} {sl5 : Array (Option Value)} {oc5 kV5 dc5 pm5 cd5 ct5 : Value}
    {f6 : Addr} {od6 an6 : Option Addr} {sl6 : Array (Option Value)} {oc6 kV6 dc6 pm6 cd6 ct6 : Value}
    {f7 : Addr} {od7 an7 : Option Addr} {sl7 : Array (Option Value)} {oc7 kV7 dc7 pm7 cd7 ct7 : Value}
    {f8 : Addr} {od8 an8 : Option Addr} {sl8 : Array (Option Value)} {oc8 kV8 dc8 pm8 cd8 ct8 : Value}
    {f9 : Addr} {od9 an9 : Option Addr} {sl9 : Array (Option Value)} {oc9 kV9 dc9 pm9 cd9 ct9 : Value}
    {f10 : Addr} {od10 an10 : Option Addr} {sl10 : Array (Option Value)} {oc10 kV10 dc10 pm10 cd10 ct10 : Value}
    {f11 : Addr} {od11 an11 : Option Addr} {sl11 : Array (Option Value)} {oc11 kV11 dc11 pm11 cd11 ct11 : Value}
    {f12 : Addr} {od12 an12 : Option Addr} {sl12 : Array (Option Value)} {oc12 kV12 dc12 pm12 cd12 ct12 : Value}
    {f13 : Addr} {od13 an13 : Option Addr} {sl13 : Array (Option Value)} {oc13 kV13 dc13 pm13 cd13 ct13 : Value}
    {f14 : Addr} {od14 an14 : Option Addr} {sl14 : Array (Option Value)} {oc14 kV14 dc14 pm14 cd14 ct14 : Value}
    {f15 : Addr} {od15 an15 : Option Addr} {sl15 : Array (Option Value)} {oc15 kV15 dc15 pm15 cd15 ct15 : Value}
    {f16 : Addr} {od16 an16 : Option Addr} {sl16 : Array (Option Value)} {oc16 kV16 dc16 pm16 cd16 ct16 : Value}
    {f17 : Addr} {od17 an17 : Option Addr} {sl17 : Array (Option Value)} {oc17 kV17 dc17 pm17 cd17 ct17 : Value}
    {f18 : Addr} {od18 an18 : Option Addr} {sl18 : Array (Option Value)} {oc18 kV18 dc18 pm18 cd18 ct18 : Value}
    {f19 : Addr} {od19 an19 : Option Addr} {sl19 : Array (Option Value)} {oc19 kV19 dc19 pm19 cd19 ct19 : Value}
    {f20 : Addr} {od20 an20 : Option Addr} {sl20 : Array (Option Value)} {oc20 kV20 dc20 pm20 cd20 ct20 : Value}
    {f21 : Addr} {od21 an21 : Option Addr} {sl21 : Array (Option Value)} {oc21 kV21 dc21 pm21 cd21 ct21 : Value}
    {f22 : Addr} {od22 an22 : Option Addr} {sl22 : Array (Option Value)} {oc22 kV22 dc22 pm22 cd22 ct22 : Value}
    {f23 : Addr} {od23 an23 : Option Addr} {sl23 : Array (Option Value)} {oc23 kV23 dc23 pm23 cd23 ct23 : Value}
    {f24 : Addr} {od24 an24 : Option Addr} {sl24 : Array (Option Value)} {oc24 kV24 dc24 pm24 cd24 ct24 : Value}
    {f25 : Addr} {od25 an25 : Option Addr} {sl25 : Array (Option Value)} {oc25 kV25 dc25 pm25 cd25 ct25 : Value}
    {f26 : Addr} {od26 an26 : Option Addr} {sl26 : Array (Option Value)} {oc26 kV26 dc26 pm26 cd26 ct26 : Value}
    {f27 : Addr} {od27 an27 : Option Addr} {sl27 : Array (Option Value)} {oc27 kV27 dc27 pm27 cd27 ct27 : Value}
    {f28 : Addr} {od28 an28 : Option Addr} {sl28 : Array (Option Value)} {oc28 kV28 dc28 pm28 cd28 ct28 : Value}
    {f29 : Addr} {od29 an29 : Option Addr} {sl29 : Array (Option Value)} {oc29 kV29 dc29 pm29 cd29 ct29 : Value}
    {f30 : Addr} {od30 an30 : Option Addr} {sl30 : Array (Option Value)} {oc30 kV30 dc30 pm30 cd30 ct30 : Value}
    {f31 : Addr} {od31 an31 : Option Addr} {sl31 : Array (Option Value)} {oc31 kV31 dc31 pm31 cd31 ct31 : Value}
    {f32 : Addr} {od32 an32 : Option Addr} {sl32 : Array (Option Value)} {oc32 kV32 dc32 pm32 cd32 ct32 : Value}
    {f33 : Addr} {od33 an33 : Option Addr} {sl33 : Array (Option Value)} {oc33 kV33 dc33 pm33 cd33 ct33 : Value}
    {f34 : Addr} {od34 an34 : Option Addr} {sl34 : Array (Option Value)} {oc34 kV34 dc34 pm34 cd34 ct34 : Value}
    {f35 : Addr} {od35 an35 : Option Addr} {sl35 : Array (Option Value)} {oc35 kV35 dc35 pm35 cd35 ct35 : Value}
    {f36 : Addr} {od36 an36 : Option Addr} {sl36 : Array (Option Value)} {oc36 kV36 dc36 pm36 cd36 ct36 : Value}
    {t100 t101 t102 t103 : Tok}
    {eP eN eB : Addr} {e0 : Addr} {e1 : Addr} {e2 : Addr} {e3 : Addr} {e4 : Addr} {e5 : Addr} {e6 : Addr} {e7 : Addr} {e8 : Addr} {e9 : Addr} {e10 : Addr} {e11 : Addr} {e12 : Addr} {e13 : Addr} {e14 : Addr} {e15 : Addr}
    (a1 : PySem.W.nsIn K mainGlobals "is_number" = some (some (.ref f1)))
    (l1 : K.lookup f1 = some ⟨oc1, od1, .func (PySem.W.fnOf "is_number" "is_number" (defArgs sIsNumb) (defBody sIsNumb) (defScope sIsNumb) .none kV1 dc1 pm1 an1 cd1 ct1), sl1⟩)
    (c1 : PySem.W.codeIn K cd1 "is_number" = true)
    (k1 : PySem.W.keepIn K (.ref f1) = true)
    (a2 : PySem.W.nsIn K mainGlobals "is_whole" = some (some (.ref f2)))
    (l2 : K.lookup f2 = some ⟨oc2, od2, .func (PySem.W.fnOf "is_whole" "is_whole" (defArgs sWhole) (defBody sWhole) (defScope sWhole) .none kV2 dc2 pm2 an2 cd2 ct2), sl2⟩)
    (c2 : PySem.W.codeIn K cd2 "is_whole" = true)
    (k2 : PySem.W.keepIn K (.ref f2) = true)
    (a3 : PySem.W.nsIn K mainGlobals "are_whole" = some (some (.ref f3)))
    (l3 : K.lookup f3 = some ⟨oc3, od3, .func (PySem.W.fnOf "are_whole" "are_whole" (defArgs sAreWhole) (defBody sAreWhole) (defScope sAreWhole) .none kV3 dc3 pm3 an3 cd3 ct3), sl3⟩)
    (c3 : PySem.W.codeIn K cd3 "are_whole" = true)
    (k3 : PySem.W.keepIn K (.ref f3) = true)
    (a4 : PySem.W.nsIn K mainGlobals "is_row" = some (some (.ref f4)))
    (l4 : K.lookup f4 = some ⟨oc4, od4, .func (PySem.W.fnOf "is_row" "is_row" (defArgs sIsRow) (defBody sIsRow) (defScope sIsRow) .none kV4 dc4 pm4 an4 cd4 ct4), sl4⟩)
    (c4 : PySem.W.codeIn K cd4 "is_row" = true)
    (k4 : PySem.W.keepIn K (.ref f4) = true)
    (a5 : PySem.W.nsIn K mainGlobals "need_row" = some (some (.ref f5)))
    (l5 : K.lookup f5 = some ⟨oc5, od5, .func (PySem.W.fnOf "need_row" "need_row" (defArgs sNeedRow) (defBody sNeedRow) (defScope sNeedRow) .none kV5 dc5 pm5 an5 cd5 ct5), sl5⟩)
    (c5 : PySem.W.codeIn K cd5 "need_row" = true)
    (k5 : PySem.W.keepIn K (.ref f5) = true)
    (a6 : PySem.W.nsIn K mainGlobals "are_of_things" = some (some (.ref f6)))
    (l6 : K.lookup f6 = some ⟨oc6, od6, .func (PySem.W.fnOf "are_of_things" "are_of_things" (defArgs sThings) (defBody sThings) (defScope sThings) .none kV6 dc6 pm6 an6 cd6 ct6), sl6⟩)
    (c6 : PySem.W.codeIn K cd6 "are_of_things" = true)
    (k6 : PySem.W.keepIn K (.ref f6) = true)
    (a7 : PySem.W.nsIn K mainGlobals "room_taken" = some (some (.ref f7)))
    (l7 : K.lookup f7 = some ⟨oc7, od7, .func (PySem.W.fnOf "room_taken" "room_taken" (defArgs sRoom) (defBody sRoom) (defScope sRoom) .none kV7 dc7 pm7 an7 cd7 ct7), sl7⟩)
    (c7 : PySem.W.codeIn K cd7 "room_taken" = true)
    (k7 : PySem.W.keepIn K (.ref f7) = true)
    (a8 : PySem.W.nsIn K mainGlobals "need_lengths" = some (some (.ref f8)))
    (l8 : K.lookup f8 = some ⟨oc8, od8, .func (PySem.W.fnOf "need_lengths" "need_lengths" (defArgs sNeedLen) (defBody sNeedLen) (defScope sNeedLen) .none kV8 dc8 pm8 an8 cd8 ct8), sl8⟩)
    (c8 : PySem.W.codeIn K cd8 "need_lengths" = true)
    (k8 : PySem.W.keepIn K (.ref f8) = true)
    (a9 : PySem.W.nsIn K mainGlobals "codes_of" = some (some (.ref f9)))
    (l9 : K.lookup f9 = some ⟨oc9, od9, .func (PySem.W.fnOf "codes_of" "codes_of" (defArgs sCodesOf) (defBody sCodesOf) (defScope sCodesOf) .none kV9 dc9 pm9 an9 cd9 ct9), sl9⟩)
    (c9 : PySem.W.codeIn K cd9 "codes_of" = true)
    (k9 : PySem.W.keepIn K (.ref f9) = true)
    (a10 : PySem.W.nsIn K mainGlobals "need_size" = some (some (.ref f10)))
    (l10 : K.lookup f10 = some ⟨oc10, od10, .func (PySem.W.fnOf "need_size" "need_size" (defArgs sNeedSize) (defBody sNeedSize) (defScope sNeedSize) .none kV10 dc10 pm10 an10 cd10 ct10), sl10⟩)
    (c10 : PySem.W.codeIn K cd10 "need_size" = true)
    (k10 : PySem.W.keepIn K (.ref f10) = true)
    (a11 : PySem.W.nsIn K mainGlobals "ones" = some (some (.ref f11)))
    (l11 : K.lookup f11 = some ⟨oc11, od11, .func (PySem.W.fnOf "ones" "ones" (defArgs sOnes) (defBody sOnes) (defScope sOnes) .none kV11 dc11 pm11 an11 cd11 ct11), sl11⟩)
    (c11 : PySem.W.codeIn K cd11 "ones" = true)
    (k11 : PySem.W.keepIn K (.ref f11) = true)
    (a12 : PySem.W.nsIn K mainGlobals "bits_at" = some (some (.ref f12)))
    (l12 : K.lookup f12 = some ⟨oc12, od12, .func (PySem.W.fnOf "bits_at" "bits_at" (defArgs sBitsAt) (defBody sBitsAt) (defScope sBitsAt) .none kV12 dc12 pm12 an12 cd12 ct12), sl12⟩)
    (c12 : PySem.W.codeIn K cd12 "bits_at" = true)
    (k12 : PySem.W.keepIn K (.ref f12) = true)
    (a13 : PySem.W.nsIn K mainGlobals "_law_cell_at" = some (some (.ref f13)))
    (l13 : K.lookup f13 = some ⟨oc13, od13, .func (PySem.W.fnOf "_law_cell_at" "_law_cell_at" (defArgs sCellAt) (defBody sCellAt) (defScope sCellAt) .none kV13 dc13 pm13 an13 cd13 ct13), sl13⟩)
    (c13 : PySem.W.codeIn K cd13 "_law_cell_at" = true)
    (k13 : PySem.W.keepIn K (.ref f13) = true)
    (a14 : PySem.W.nsIn K mainGlobals "_law_mixed" = some (some (.ref f14)))
    (l14 : K.lookup f14 = some ⟨oc14, od14, .func (PySem.W.fnOf "_law_mixed" "_law_mixed" (defArgs sMixed) (defBody sMixed) (defScope sMixed) .none kV14 dc14 pm14 an14 cd14 ct14), sl14⟩)
    (c14 : PySem.W.codeIn K cd14 "_law_mixed" = true)
    (k14 : PySem.W.keepIn K (.ref f14) = true)
    (a15 : PySem.W.nsIn K mainGlobals "_law_lengths" = some (some (.ref f15)))
    (l15 : K.lookup f15 = some ⟨oc15, od15, .func (PySem.W.fnOf "_law_lengths" "_law_lengths" (defArgs sLengths) (defBody sLengths) (defScope sLengths) .none kV15 dc15 pm15 an15 cd15 ct15), sl15⟩)
    (c15 : PySem.W.codeIn K cd15 "_law_lengths" = true)
    (k15 : PySem.W.keepIn K (.ref f15) = true)
    (a16 : PySem.W.nsIn K mainGlobals "_law_codes" = some (some (.ref f16)))
    (l16 : K.lookup f16 = some ⟨oc16, od16, .func (PySem.W.fnOf "_law_codes" "_law_codes" (defArgs sLCodes) (defBody sLCodes) (defScope sLCodes) .none kV16 dc16 pm16 an16 cd16 ct16), sl16⟩)
    (c16 : PySem.W.codeIn K cd16 "_law_codes" = true)
    (k16 : PySem.W.keepIn K (.ref f16) = true)
    (a17 : PySem.W.nsIn K mainGlobals "_law_word" = some (some (.ref f17)))
    (l17 : K.lookup f17 = some ⟨oc17, od17, .func (PySem.W.fnOf "_law_word" "_law_word" (defArgs sWord) (defBody sWord) (defScope sWord) .none kV17 dc17 pm17 an17 cd17 ct17), sl17⟩)
    (c17 : PySem.W.codeIn K cd17 "_law_word" = true)
    (k17 : PySem.W.keepIn K (.ref f17) = true)
    (a18 : PySem.W.nsIn K mainGlobals "_law_asked" = some (some (.ref f18)))
    (l18 : K.lookup f18 = some ⟨oc18, od18, .func (PySem.W.fnOf "_law_asked" "_law_asked" (defArgs sAsked) (defBody sAsked) (defScope sAsked) .none kV18 dc18 pm18 an18 cd18 ct18), sl18⟩)
    (c18 : PySem.W.codeIn K cd18 "_law_asked" = true)
    (k18 : PySem.W.keepIn K (.ref f18) = true)
    (a19 : PySem.W.nsIn K mainGlobals "_law_due" = some (some (.ref f19)))
    (l19 : K.lookup f19 = some ⟨oc19, od19, .func (PySem.W.fnOf "_law_due" "_law_due" (defArgs sDue) (defBody sDue) (defScope sDue) .none kV19 dc19 pm19 an19 cd19 ct19), sl19⟩)
    (c19 : PySem.W.codeIn K cd19 "_law_due" = true)
    (k19 : PySem.W.keepIn K (.ref f19) = true)
    (a20 : PySem.W.nsIn K mainGlobals "_law_texts" = some (some (.ref f20)))
    (l20 : K.lookup f20 = some ⟨oc20, od20, .func (PySem.W.fnOf "_law_texts" "_law_texts" (defArgs sTexts) (defBody sTexts) (defScope sTexts) .none kV20 dc20 pm20 an20 cd20 ct20), sl20⟩)
    (c20 : PySem.W.codeIn K cd20 "_law_texts" = true)
    (k20 : PySem.W.keepIn K (.ref f20) = true)
    (a21 : PySem.W.nsIn K mainGlobals "_law_bits" = some (some (.ref f21)))
    (l21 : K.lookup f21 = some ⟨oc21, od21, .func (PySem.W.fnOf "_law_bits" "_law_bits" (defArgs sBits) (defBody sBits) (defScope sBits) .none kV21 dc21 pm21 an21 cd21 ct21), sl21⟩)
    (c21 : PySem.W.codeIn K cd21 "_law_bits" = true)
    (k21 : PySem.W.keepIn K (.ref f21) = true)
    (a22 : PySem.W.nsIn K mainGlobals "_law_row" = some (some (.ref f22)))
    (l22 : K.lookup f22 = some ⟨oc22, od22, .func (PySem.W.fnOf "_law_row" "_law_row" (defArgs sRow) (defBody sRow) (defScope sRow) .none kV22 dc22 pm22 an22 cd22 ct22), sl22⟩)
    (c22 : PySem.W.codeIn K cd22 "_law_row" = true)
    (k22 : PySem.W.keepIn K (.ref f22) = true)
    (a23 : PySem.W.nsIn K mainGlobals "_law_read" = some (some (.ref f23)))
    (l23 : K.lookup f23 = some ⟨oc23, od23, .func (PySem.W.fnOf "_law_read" "_law_read" (defArgs sRead) (defBody sRead) (defScope sRead) .none kV23 dc23 pm23 an23 cd23 ct23), sl23⟩)
    (c23 : PySem.W.codeIn K cd23 "_law_read" = true)
    (k23 : PySem.W.keepIn K (.ref f23) = true)
    (a24 : PySem.W.nsIn K mainGlobals "law" = some (some (.ref f24)))
    (l24 : K.lookup f24 = some ⟨oc24, od24, .func (PySem.W.fnOf "law" "law" (defArgs sLaw) (defBody sLaw) (defScope sLaw) .none kV24 dc24 pm24 an24 cd24 ct24), sl24⟩)
    (c24 : PySem.W.codeIn K cd24 "law" = true)
    (k24 : PySem.W.keepIn K (.ref f24) = true)
    (gC : PySem.W.nsIn K mainGlobals "CodeReader" = some (some (.ref C)))
    (gB : PySem.W.nsIn K mainGlobals "BitReader" = some (some (.ref B)))
    (gD : PySem.W.nsIn K mainGlobals "BitRow" = some (some (.ref D)))
    (a25 : PySem.W.findIn K (.ref C) "__init__" = some (some (.ref f25)))
    (i25 : PySem.W.isFn K (.ref f25) = true)
    (l25 : K.lookup f25 = some ⟨oc25, od25, .func (PySem.W.fnOf "__init__" "CodeReader.__init__" (defArgs sCInit) (defBody sCInit) (defScope sCInit) .none kV25 dc25 pm25 an25 cd25 ct25), sl25⟩)
    (c25 : PySem.W.codeIn K cd25 "CodeReader.__init__" = true)
    (k25 : PySem.W.keepIn K (.ref f25) = true)
    (a26 : PySem.W.findIn K (.ref C) "keep_beginnings" = some (some (.ref f26)))
    (i26 : PySem.W.isFn K (.ref f26) = true)
    (l26 : K.lookup f26 = some ⟨oc26, od26, .func (PySem.W.fnOf "keep_beginnings" "CodeReader.keep_beginnings" (defArgs sKeep) (defBody sKeep) (defScope sKeep) .none kV26 dc26 pm26 an26 cd26 ct26), sl26⟩)
    (c26 : PySem.W.codeIn K cd26 "CodeReader.keep_beginnings" = true)
    (k26 : PySem.W.keepIn K (.ref f26) = true)
    (a27 : PySem.W.findIn K (.ref C) "thing" = some (some (.ref f27)))
    (i27 : PySem.W.isFn K (.ref f27) = true)
    (l27 : K.lookup f27 = some ⟨oc27, od27, .func (PySem.W.fnOf "thing" "CodeReader.thing" (defArgs sThing) (defBody sThing) (defScope sThing) .none kV27 dc27 pm27 an27 cd27 ct27), sl27⟩)
    (c27 : PySem.W.codeIn K cd27 "CodeReader.thing" = true)
    (k27 : PySem.W.keepIn K (.ref f27) = true)
    (a28 : PySem.W.findIn K (.ref B) "__init__" = some (some (.ref f28)))
    (i28 : PySem.W.isFn K (.ref f28) = true)
    (l28 : K.lookup f28 = some ⟨oc28, od28, .func (PySem.W.fnOf "__init__" "BitReader.__init__" (defArgs sRInit) (defBody sRInit) (defScope sRInit) .none kV28 dc28 pm28 an28 cd28 ct28), sl28⟩)
    (c28 : PySem.W.codeIn K cd28 "BitReader.__init__" = true)
    (k28 : PySem.W.keepIn K (.ref f28) = true)
    (a29 : PySem.W.findIn K (.ref B) "take" = some (some (.ref f29)))
    (i29 : PySem.W.isFn K (.ref f29) = true)
    (l29 : K.lookup f29 = some ⟨oc29, od29, .func (PySem.W.fnOf "take" "BitReader.take" (defArgs sTake) (defBody sTake) (defScope sTake) .none kV29 dc29 pm29 an29 cd29 ct29), sl29⟩)
    (c29 : PySem.W.codeIn K cd29 "BitReader.take" = true)
    (k29 : PySem.W.keepIn K (.ref f29) = true)
    (a30 : PySem.W.findIn K (.ref B) "left" = some (some (.ref f30)))
    (i30 : PySem.W.isFn K (.ref f30) = true)
    (l30 : K.lookup f30 = some ⟨oc30, od30, .func (PySem.W.fnOf "left" "BitReader.left" (defArgs sLeft) (defBody sLeft) (defScope sLeft) .none kV30 dc30 pm30 an30 cd30 ct30), sl30⟩)
    (c30 : PySem.W.codeIn K cd30 "BitReader.left" = true)
    (k30 : PySem.W.keepIn K (.ref f30) = true)
    (a31 : PySem.W.findIn K (.ref B) "place" = some (some (.ref f31)))
    (i31 : PySem.W.isFn K (.ref f31) = true)
    (l31 : K.lookup f31 = some ⟨oc31, od31, .func (PySem.W.fnOf "place" "BitReader.place" (defArgs sPlace) (defBody sPlace) (defScope sPlace) .none kV31 dc31 pm31 an31 cd31 ct31), sl31⟩)
    (c31 : PySem.W.codeIn K cd31 "BitReader.place" = true)
    (k31 : PySem.W.keepIn K (.ref f31) = true)
    (a32 : PySem.W.findIn K (.ref B) "go" = some (some (.ref f32)))
    (i32 : PySem.W.isFn K (.ref f32) = true)
    (l32 : K.lookup f32 = some ⟨oc32, od32, .func (PySem.W.fnOf "go" "BitReader.go" (defArgs sGo) (defBody sGo) (defScope sGo) .none kV32 dc32 pm32 an32 cd32 ct32), sl32⟩)
    (c32 : PySem.W.codeIn K cd32 "BitReader.go" = true)
    (k32 : PySem.W.keepIn K (.ref f32) = true)
    (a33 : PySem.W.findIn K (.ref D) "__init__" = some (some (.ref f33)))
    (i33 : PySem.W.isFn K (.ref f33) = true)
    (l33 : K.lookup f33 = some ⟨oc33, od33, .func (PySem.W.fnOf "__init__" "BitRow.__init__" (defArgs sBInit) (defBody sBInit) (defScope sBInit) .none kV33 dc33 pm33 an33 cd33 ct33), sl33⟩)
    (c33 : PySem.W.codeIn K cd33 "BitRow.__init__" = true)
    (k33 : PySem.W.keepIn K (.ref f33) = true)
    (a34 : PySem.W.findIn K (.ref D) "put" = some (some (.ref f34)))
    (i34 : PySem.W.isFn K (.ref f34) = true)
    (l34 : K.lookup f34 = some ⟨oc34, od34, .func (PySem.W.fnOf "put" "BitRow.put" (defArgs sPut) (defBody sPut) (defScope sPut) .none kV34 dc34 pm34 an34 cd34 ct34), sl34⟩)
    (c34 : PySem.W.codeIn K cd34 "BitRow.put" = true)
    (k34 : PySem.W.keepIn K (.ref f34) = true)
    (a35 : PySem.W.findIn K (.ref D) "move_byte" = some (some (.ref f35)))
    (i35 : PySem.W.isFn K (.ref f35) = true)
    (l35 : K.lookup f35 = some ⟨oc35, od35, .func (PySem.W.fnOf "move_byte" "BitRow.move_byte" (defArgs sMove) (defBody sMove) (defScope sMove) .none kV35 dc35 pm35 an35 cd35 ct35), sl35⟩)
    (c35 : PySem.W.codeIn K cd35 "BitRow.move_byte" = true)
    (k35 : PySem.W.keepIn K (.ref f35) = true)
    (a36 : PySem.W.findIn K (.ref D) "row" = some (some (.ref f36)))
    (i36 : PySem.W.isFn K (.ref f36) = true)
    (l36 : K.lookup f36 = some ⟨oc36, od36, .func (PySem.W.fnOf "row" "BitRow.row" (defArgs sRowOut) (defBody sRowOut) (defScope sRowOut) .none kV36 dc36 pm36 an36 cd36 ct36), sl36⟩)
    (c36 : PySem.W.codeIn K cd36 "BitRow.row" = true)
    (k36 : PySem.W.keepIn K (.ref f36) = true)
    (pgC : PySem.W.plainGet K C Str.empty = true)
    (hdC : PySem.W.hasDictIn K C = true)
    (poC : PySem.W.plainOver K C = true)
    (saC : PySem.W.findIn K (.ref C) "__setattr__" = some (some (.builtin "object.__setattr__")))
    (mkC : PySem.W.makesIn K C = true)
    (kcC : PySem.W.keepIn K (.ref C) = true)
    (pgB : PySem.W.plainGet K B Str.empty = true)
    (hdB : PySem.W.hasDictIn K B = true)
    (poB : PySem.W.plainOver K B = true)
    (saB : PySem.W.findIn K (.ref B) "__setattr__" = some (some (.builtin "object.__setattr__")))
    (mkB : PySem.W.makesIn K B = true)
    (kcB : PySem.W.keepIn K (.ref B) = true)
    (pgD : PySem.W.plainGet K D Str.empty = true)
    (hdD : PySem.W.hasDictIn K D = true)
    (poD : PySem.W.plainOver K D = true)
    (saD : PySem.W.findIn K (.ref D) "__setattr__" = some (some (.builtin "object.__setattr__")))
    (mkD : PySem.W.makesIn K D = true)
    (kcD : PySem.W.keepIn K (.ref D) = true)
    (nW : PySem.W.findIn K (.ref D) "whole_bytes" = some none)
    (nR : PySem.W.findIn K (.ref D) "rest" = some none)
    (nS : PySem.W.findIn K (.ref D) "rest_size" = some none)
    (nH : PySem.W.findIn K (.ref B) "held" = some none)
    (nT : PySem.W.findIn K (.ref B) "taken" = some none)
    (nX : PySem.W.findIn K (.ref C) "things" = some none)
    (nY : PySem.W.findIn K (.ref C) "beginnings" = some none)
    (z_isi : PySem.W.nsIn K mainGlobals "isinstance" = some none)
    (z_bool : PySem.W.nsIn K mainGlobals "bool" = some none)
    (z_int : PySem.W.nsIn K mainGlobals "int" = some none)
    (z_list : PySem.W.nsIn K mainGlobals "list" = some none)
    (z_tuple : PySem.W.nsIn K mainGlobals "tuple" = some none)
    (z_len : PySem.W.nsIn K mainGlobals "len" = some none)
    (z_range : PySem.W.nsIn K mainGlobals "range" = some none)
    (z_max : PySem.W.nsIn K mainGlobals "max" = some none)
    (z_sum : PySem.W.nsIn K mainGlobals "sum" = some none)
    (z_enum : PySem.W.nsIn K mainGlobals "enumerate" = some none)
    (z_all : PySem.W.nsIn K mainGlobals "all" = some none)
    (z_verr : PySem.W.nsIn K mainGlobals "ValueError" = some none)
    (z_str : PySem.W.nsIn K mainGlobals "str" = some none)
    (gv0 : PySem.W.nsIn K mainGlobals "GREATEST" = some (some (.int 255 t100)))
    (gv1 : PySem.W.nsIn K mainGlobals "MOST_SIZE" = some (some (.int 24 t101)))
    (gv2 : PySem.W.nsIn K mainGlobals "MOST_LENGTH" = some (some (.int 12 t102)))
    (gv3 : PySem.W.nsIn K mainGlobals "MOST_THINGS" = some (some (.int 300 t103)))
    (gP : PySem.W.nsIn K mainGlobals "PressError" = some (some (.ref eP)))
    (xP : PySem.W.excIn K eP bmV "ValueError.__new__" = true)
    (ge0 : PySem.W.nsIn K mainGlobals "BadBits" = some (some (.ref e0)))
    (ge1 : PySem.W.nsIn K mainGlobals "BadBody" = some (some (.ref e1)))
    (ge2 : PySem.W.nsIn K mainGlobals "BadCheck" = some (some (.ref e2)))
    (ge3 : PySem.W.nsIn K mainGlobals "BadLengths" = some (some (.ref e3)))
    (ge4 : PySem.W.nsIn K mainGlobals "BadHead" = some (some (.ref e4)))
    (ge5 : PySem.W.nsIn K mainGlobals "BadShares" = some (some (.ref e5)))
    (ge6 : PySem.W.nsIn K mainGlobals "BadLetters" = some (some (.ref e6)))
    (ge7 : PySem.W.nsIn K mainGlobals "BadMark" = some (some (.ref e7)))
    (ge8 : PySem.W.nsIn K mainGlobals "BadPieces" = some (some (.ref e8)))
    (ge9 : PySem.W.nsIn K mainGlobals "BadRow" = some (some (.ref e9)))
    (ge10 : PySem.W.nsIn K mainGlobals "BadTable" = some (some (.ref e10)))
    (ge11 : PySem.W.nsIn K mainGlobals "BadTail" = some (some (.ref e11)))
    (ge12 : PySem.W.nsIn K mainGlobals "Behind" = some (some (.ref e12)))
    (ge13 : PySem.W.nsIn K mainGlobals "Cut" = some (some (.ref e13)))
    (ge14 : PySem.W.nsIn K mainGlobals "NoRange" = some (some (.ref e14)))
    (ge15 : PySem.W.nsIn K mainGlobals "Over" = some (some (.ref e15)))
    (gN : PySem.W.nsIn K mainGlobals "NoBits" = some (some (.ref eN)))
    (gBc : PySem.W.nsIn K mainGlobals "BadCode" = some (some (.ref eB)))
    (xN : PySem.W.excIn K eN bmV "ValueError.__new__" = true)
    (yNa : PySem.W.findIn K (.ref eN) "__getattribute__" = some (some (.builtin "BaseException.__getattribute__")))
    (yNh : PySem.W.findIn K (.ref eN) "__getattr__" = some none)
    (yNb : PySem.W.hasDictIn K eN = true)
    (yNc : PySem.W.findIn K (.ref eN) "__class__" = some (some (.builtin "object.__class__")))
    (yNd : PySem.W.mroIn K eN (.type "object") = some true)
    (yNi : PySem.W.mroIn K eN (.type "BaseException") = some true)
    (yNe : (eN == eP) = false)
    (yNf : PySem.W.mroIn K eN (.ref eP) = some true)
    (yNg : PySem.W.kitOne K (.ref eN) (.type "ValueError") = some true)
    (qNN : PySem.W.kitOne K (.ref eN) (.ref eN) = some true)
    (qNB : PySem.W.kitOne K (.ref eN) (.ref eB) = some false)
    (q_N0 : PySem.W.kitOne K (.ref eN) (.ref e0) = some false)
    (q_N1 : PySem.W.kitOne K (.ref eN) (.ref e1) = some false)
    (q_N2 : PySem.W.kitOne K (.ref eN) (.ref e2) = some false)
    (q_N3 : PySem.W.kitOne K (.ref eN) (.ref e3) = some false)
    (q_N4 : PySem.W.kitOne K (.ref eN) (.ref e4) = some false)
    (q_N5 : PySem.W.kitOne K (.ref eN) (.ref e5) = some false)
    (q_N6 : PySem.W.kitOne K (.ref eN) (.ref e6) = some false)
    (q_N7 : PySem.W.kitOne K (.ref eN) (.ref e7) = some false)
    (q_N8 : PySem.W.kitOne K (.ref eN) (.ref e8) = some false)
    (q_N9 : PySem.W.kitOne K (.ref eN) (.ref e9) = some false)
    (q_N10 : PySem.W.kitOne K (.ref eN) (.ref e10) = some false)
    (q_N11 : PySem.W.kitOne K (.ref eN) (.ref e11) = some false)
    (q_N12 : PySem.W.kitOne K (.ref eN) (.ref e12) = some false)
    (q_N13 : PySem.W.kitOne K (.ref eN) (.ref e13) = some false)
    (q_N14 : PySem.W.kitOne K (.ref eN) (.ref e14) = some false)
    (q_N15 : PySem.W.kitOne K (.ref eN) (.ref e15) = some false)
    (xB : PySem.W.excIn K eB bmV "ValueError.__new__" = true)
    (yBa : PySem.W.findIn K (.ref eB) "__getattribute__" = some (some (.builtin "BaseException.__getattribute__")))
    (yBh : PySem.W.findIn K (.ref eB) "__getattr__" = some none)
    (yBb : PySem.W.hasDictIn K eB = true)
    (yBc : PySem.W.findIn K (.ref eB) "__class__" = some (some (.builtin "object.__class__")))
    (yBd : PySem.W.mroIn K eB (.type "object") = some true)
    (yBi : PySem.W.mroIn K eB (.type "BaseException") = some true)
    (yBe : (eB == eP) = false)
    (yBf : PySem.W.mroIn K eB (.ref eP) = some true)
    (yBg : PySem.W.kitOne K (.ref eB) (.type "ValueError") = some true)
    (qBN : PySem.W.kitOne K (.ref eB) (.ref eN) = some false)
    (qBB : PySem.W.kitOne K (.ref eB) (.ref eB) = some true)
    (q_B0 : PySem.W.kitOne K (.ref eB) (.ref e0) = some false)
    (q_B1 : PySem.W.kitOne K (.ref eB) (.ref e1) = some false)
    (q_B2 : PySem.W.kitOne K (.ref eB) (.ref e2) = some false)
    (q_B3 : PySem.W.kitOne K (.ref eB) (.ref e3) = some false)
    (q_B4 : PySem.W.kitOne K (.ref eB) (.ref e4) = some false)
    (q_B5 : PySem.W.kitOne K (.ref eB) (.ref e5) = some false)
    (q_B6 : PySem.W.kitOne K (.ref eB) (.ref e6) = some false)
    (q_B7 : PySem.W.kitOne K (.ref eB) (.ref e7) = some false)
    (q_B8 : PySem.W.kitOne K (.ref eB) (.ref e8) = some false)
    (q_B9 : PySem.W.kitOne K (.ref eB) (.ref e9) = some false)
    (q_B10 : PySem.W.kitOne K (.ref eB) (.ref e10) = some false)
    (q_B11 : PySem.W.kitOne K (.ref eB) (.ref e11) = some false)
    (q_B12 : PySem.W.kitOne K (.ref eB) (.ref e12) = some false)
    (q_B13 : PySem.W.kitOne K (.ref eB) (.ref e13) = some false)
    (q_B14 : PySem.W.kitOne K (.ref eB) (.ref e14) = some false)
    (q_B15 : PySem.W.kitOne K (.ref eB) (.ref e15) = some false)
    (yg : PySem.W.specialIn K (.builtin "object.__class__") "__get__" = some (some (.builtin "getset_descriptor.__get__")))
    (yt : PySem.W.takesIn K (.builtin "object.__class__") = some true) :
    ∃ fd : FuncData, (∀ (s : Shared) (v : Value), BindsTo s fd ⟨[v], []⟩ [("_law_script", v)]) ∧ ∀ base : Heap, K.In base → base.Ns mainGlobals mg → FnOk l.prog w K mg base CX0 38 fa fd ["_law_script"] (spLaw K) := by
  have e := hfa.symm.trans (PySem.W.mg_of X G a24)
  cases e
  have F1 := fun_mk (st := sIsNumb) l1 c1 k1
  have b1 := F1.binds (ps := ["thing"]) fun _ _ _ _ _ _ us hl => match us, hl with | [_], _ => rfl
  have F2 := fun_mk (st := sWhole) l2 c2 k2
  have b2 := F2.binds (ps := ["thing", "least", "most"]) fun _ _ _ _ _ _ us hl => match us, hl with | [_, _, _], _ => rfl
  have F3 := fun_mk (st := sAreWhole) l3 c3 k3
  have b3 := F3.binds (ps := ["thing", "least", "most"]) fun _ _ _ _ _ _ us hl => match us, hl with | [_, _, _], _ => rfl
  have F4 := fun_mk (st := sIsRow) l4 c4 k4
  have b4 := F4.binds (ps := ["thing"]) fun _ _ _ _ _ _ us hl => match us, hl with | [_], _ => rfl
  have F5 := fun_mk (st := sNeedRow) l5 c5 k5
  have b5 := F5.binds (ps := ["thing"]) fun _ _ _ _ _ _ us hl => match us, hl with | [_], _ => rfl
  have F6 := fun_mk (st := sThings) l6 c6 k6
  have b6 := F6.binds (ps := ["thing", "most"]) fun _ _ _ _ _ _ us hl => match us, hl with | [_, _], _ => rfl
  have F7 := fun_mk (st := sRoom) l7 c7 k7
  have b7 := F7.binds (ps := ["lengths"]) fun _ _ _ _ _ _ us hl => match us, hl with | [_], _ => rfl
  have F8 := fun_mk (st := sNeedLen) l8 c8 k8
  have b8 := F8.binds (ps := ["lengths"]) fun _ _ _ _ _ _ us hl => match us, hl with | [_], _ => rfl
  have F9 := fun_mk (st := sCodesOf) l9 c9 k9
  have b9 := F9.binds (ps := ["lengths"]) fun _ _ _ _ _ _ us hl => match us, hl with | [_], _ => rfl
  have F10 := fun_mk (st := sNeedSize) l10 c10 k10
  have b10 := F10.binds (ps := ["size"]) fun _ _ _ _ _ _ us hl => match us, hl with | [_], _ => rfl
  have F11 := fun_mk (st := sOnes) l11 c11 k11
  have b11 := F11.binds (ps := ["size"]) fun _ _ _ _ _ _ us hl => match us, hl with | [_], _ => rfl
  have F12 := fun_mk (st := sBitsAt) l12 c12 k12
  have b12 := F12.binds (ps := ["row", "place", "size"]) fun _ _ _ _ _ _ us hl => match us, hl with | [_, _, _], _ => rfl
  have F13 := fun_mk (st := sCellAt) l13 c13 k13
  have b13 := F13.binds (ps := ["_law_script", "_law_k"]) fun _ _ _ _ _ _ us hl => match us, hl with | [_, _], _ => rfl
  have F14 := fun_mk (st := sMixed) l14 c14 k14
  have b14 := F14.binds (ps := ["_law_cell", "_law_k"]) fun _ _ _ _ _ _ us hl => match us, hl with | [_, _], _ => rfl
  have F15 := fun_mk (st := sLengths) l15 c15 k15
  have b15 := F15.binds (ps := ["_law_script", "_law_first", "_law_many", "_law_most"]) fun _ _ _ _ _ _ us hl => match us, hl with | [_, _, _, _], _ => rfl
  have F16 := fun_mk (st := sLCodes) l16 c16 k16
  have b16 := F16.binds (ps := ["_law_lengths_here"]) fun _ _ _ _ _ _ us hl => match us, hl with | [_], _ => rfl
  have F17 := fun_mk (st := sWord) l17 c17 k17
  have b17 := F17.binds (ps := ["_law_e"]) fun _ _ _ _ _ _ us hl => match us, hl with | [_], _ => rfl
  have F18 := fun_mk (st := sAsked) l18 c18 k18
  have b18 := F18.binds (ps := ["_law_codes_here", "_law_reader"]) fun _ _ _ _ _ _ us hl => match us, hl with | [_, _], _ => rfl
  have F19 := fun_mk (st := sDue) l19 c19 k19
  have b19 := F19.binds (ps := ["_law_codes_here", "_law_bits_here", "_law_at"]) fun _ _ _ _ _ _ us hl => match us, hl with | [_, _, _], _ => rfl
  have F20 := fun_mk (st := sTexts) l20 c20 k20
  have b20 := F20.binds (ps := ["_law_lengths_here"]) fun _ _ _ _ _ _ us hl => match us, hl with | [_], _ => rfl
  have F21 := fun_mk (st := sBits) l21 c21 k21
  have b21 := F21.binds (ps := ["_law_script", "_law_texts_here"]) fun _ _ _ _ _ _ us hl => match us, hl with | [_, _], _ => rfl
  have F22 := fun_mk (st := sRow) l22 c22 k22
  have b22 := F22.binds (ps := ["_law_bits_here"]) fun _ _ _ _ _ _ us hl => match us, hl with | [_], _ => rfl
  have F23 := fun_mk (st := sRead) l23 c23 k23
  have b23 := F23.binds (ps := ["_law_codes_here", "_law_reader", "_law_texts_here", "_law_bits_here", "_law_at"]) fun _ _ _ _ _ _ us hl => match us, hl with | [_, _, _, _, _], _ => rfl
  have F24 := fun_mk (st := sLaw) l24 c24 k24
  have F25 := fun_mk (st := sCInit) l25 c25 k25
  have b25 := F25.binds (ps := ["self", "lengths"]) fun _ _ _ _ _ _ us hl => match us, hl with | [_, _], _ => rfl
  have F26 := fun_mk (st := sKeep) l26 c26 k26
  have b26 := F26.binds (ps := ["self", "code", "length"]) fun _ _ _ _ _ _ us hl => match us, hl with | [_, _, _], _ => rfl
  have F27 := fun_mk (st := sThing) l27 c27 k27
  have b27 := F27.binds (ps := ["self", "reader"]) fun _ _ _ _ _ _ us hl => match us, hl with | [_, _], _ => rfl
  have F28 := fun_mk (st := sRInit) l28 c28 k28
  have b28 := F28.binds (ps := ["self", "row"]) fun _ _ _ _ _ _ us hl => match us, hl with | [_, _], _ => rfl
  have F29 := fun_mk (st := sTake) l29 c29 k29
  have b29 := F29.binds (ps := ["self", "size"]) fun _ _ _ _ _ _ us hl => match us, hl with | [_, _], _ => rfl
  have F30 := fun_mk (st := sLeft) l30 c30 k30
  have b30 := F30.binds (ps := ["self"]) fun _ _ _ _ _ _ us hl => match us, hl with | [_], _ => rfl
  have F31 := fun_mk (st := sPlace) l31 c31 k31
  have b31 := F31.binds (ps := ["self"]) fun _ _ _ _ _ _ us hl => match us, hl with | [_], _ => rfl
  have F32 := fun_mk (st := sGo) l32 c32 k32
  have b32 := F32.binds (ps := ["self", "place"]) fun _ _ _ _ _ _ us hl => match us, hl with | [_, _], _ => rfl
  have F33 := fun_mk (st := sBInit) l33 c33 k33
  have b33 := F33.binds (ps := ["self"]) fun _ _ _ _ _ _ us hl => match us, hl with | [_], _ => rfl
  have F34 := fun_mk (st := sPut) l34 c34 k34
  have b34 := F34.binds (ps := ["self", "number", "size"]) fun _ _ _ _ _ _ us hl => match us, hl with | [_, _, _], _ => rfl
  have F35 := fun_mk (st := sMove) l35 c35 k35
  have b35 := F35.binds (ps := ["self"]) fun _ _ _ _ _ _ us hl => match us, hl with | [_], _ => rfl
  have F36 := fun_mk (st := sRowOut) l36 c36 k36
  have b36 := F36.binds (ps := ["self"]) fun _ _ _ _ _ _ us hl => match us, hl with | [_], _ => rfl
  have T : Txt K mg := ⟨PySem.W.mg_none_of X G z_isi, PySem.W.mg_none_of X G z_bool, PySem.W.mg_none_of X G z_int, PySem.W.mg_none_of X G z_list, PySem.W.mg_none_of X G z_len, PySem.W.mg_none_of X G z_range, PySem.W.mg_none_of X G z_max, ⟨t100, PySem.W.mg_of X G gv0⟩, ⟨t101, PySem.W.mg_of X G gv1⟩, ⟨_, _, F1, PySem.W.mg_of X G a1, b1⟩⟩
  have TC : K10.C.Txt K mg := ⟨PySem.W.mg_none_of X G z_isi, PySem.W.mg_none_of X G z_bool, PySem.W.mg_none_of X G z_int, PySem.W.mg_none_of X G z_list, PySem.W.mg_none_of X G z_tuple, PySem.W.mg_none_of X G z_len, PySem.W.mg_none_of X G z_range, PySem.W.mg_none_of X G z_max, PySem.W.mg_none_of X G z_sum, PySem.W.mg_none_of X G z_enum, PySem.W.mg_none_of X G z_all, PySem.W.mg_none_of X G z_verr, ⟨t102, PySem.W.mg_of X G gv2⟩, ⟨t103, PySem.W.mg_of X G gv3⟩, ⟨_, _, F1, PySem.W.mg_of X G a1, b1⟩⟩
  have TL : TxL K mg := ⟨TC, PySem.W.mg_none_of X G z_str⟩
  have R : Rows K mg := ⟨T, ⟨_, _, F2, PySem.W.mg_of X G a2, b2⟩, ⟨_, _, F3, PySem.W.mg_of X G a3, b3⟩, ⟨_, _, F4, PySem.W.mg_of X G a4, b4⟩⟩
  have Y : K10.C.Lns K mg := ⟨TC, ⟨_, _, F2, PySem.W.mg_of X G a2, b2⟩, ⟨_, _, F3, PySem.W.mg_of X G a3, b3⟩, ⟨_, _, F6, PySem.W.mg_of X G a6, b6⟩, ⟨_, _, F7, PySem.W.mg_of X G a7, b7⟩⟩
  have RC : CRc K mg C := ⟨⟨pgC, hdC, poC, saC⟩, nX, nY⟩
  have RB : CRd K mg B := ⟨⟨pgB, hdB, poB, saB⟩, nH, nT⟩
  have M : Mks K mg C := ⟨T, Y, ⟨_, _, F8, PySem.W.mg_of X G a8, b8⟩, ⟨_, _, F9, PySem.W.mg_of X G a9, b9⟩, ⟨_, _, F26, ⟨a26, i26, k26⟩, b26⟩, RC⟩
  have Bt : Bts K mg D := ⟨R, ⟨⟨pgD, hdD, poD, saD⟩, nW, nR, nS⟩, PySem.W.mg_of X G gD, ⟨_, _, F10, PySem.W.mg_of X G a10, b10⟩, ⟨_, _, F11, PySem.W.mg_of X G a11, b11⟩, ⟨_, _, F33, b33, ⟨mkD, a33, i33, kcD⟩⟩, ⟨_, _, F34, ⟨a34, i34, k34⟩, b34⟩, ⟨_, _, F35, ⟨a35, i35, k35⟩, b35⟩, ⟨_, _, F36, ⟨a36, i36, k36⟩, b36⟩⟩
  have Rd : Rds K mg B := ⟨T, ⟨_, _, F2, PySem.W.mg_of X G a2, b2⟩, ⟨_, _, F10, PySem.W.mg_of X G a10, b10⟩, ⟨_, _, F11, PySem.W.mg_of X G a11, b11⟩, ⟨_, _, F12, PySem.W.mg_of X G a12, b12⟩, ⟨_, _, F29, ⟨a29, i29, k29⟩, b29⟩, ⟨_, _, F30, ⟨a30, i30, k30⟩, b30⟩, ⟨_, _, F31, ⟨a31, i31, k31⟩, b31⟩, ⟨_, _, F32, ⟨a32, i32, k32⟩, b32⟩, RB⟩
  have pm : Paired (fun (x : Str) (c : Addr) => mg x = some (.ref c)) names [e0, e1, e2, e3, e4, e5, e6, e7, e8, e9, e10, e11, e12, e13, e14, e15] := (.cons (PySem.W.mg_of X G ge0) (.cons (PySem.W.mg_of X G ge1) (.cons (PySem.W.mg_of X G ge2) (.cons (PySem.W.mg_of X G ge3) (.cons (PySem.W.mg_of X G ge4) (.cons (PySem.W.mg_of X G ge5) (.cons (PySem.W.mg_of X G ge6) (.cons (PySem.W.mg_of X G ge7) (.cons (PySem.W.mg_of X G ge8) (.cons (PySem.W.mg_of X G ge9) (.cons (PySem.W.mg_of X G ge10) (.cons (PySem.W.mg_of X G ge11) (.cons (PySem.W.mg_of X G ge12) (.cons (PySem.W.mg_of X G ge13) (.cons (PySem.W.mg_of X G ge14) (.cons (PySem.W.mg_of X G ge15) .nil))))))))))))))))
  have hm : ∀ (i : Nat) (x : Str) (c : Addr), names[i]? = some x → [e0, e1, e2, e3, e4, e5, e6, e7, e8, e9, e10, e11, e12, e13, e14, e15][i]? = some c → mg x = some (.ref c) := fun i x c h1 h2 => paired_at pm i x c h1 h2
  have pkN : Paired (fun (j : Nat) (c : Addr) => PySem.W.kitOne K (.ref eN) (.ref c) = some false) (List.range 16) [e0, e1, e2, e3, e4, e5, e6, e7, e8, e9, e10, e11, e12, e13, e14, e15] := (.cons (q_N0) (.cons (q_N1) (.cons (q_N2) (.cons (q_N3) (.cons (q_N4) (.cons (q_N5) (.cons (q_N6) (.cons (q_N7) (.cons (q_N8) (.cons (q_N9) (.cons (q_N10) (.cons (q_N11) (.cons (q_N12) (.cons (q_N13) (.cons (q_N14) (.cons (q_N15) .nil))))))))))))))))
  have hkN : ∀ (i : Nat) (c : Addr), [e0, e1, e2, e3, e4, e5, e6, e7, e8, e9, e10, e11, e12, e13, e14, e15][i]? = some c → PySem.W.kitOne K (.ref eN) (.ref c) = some false := fun i c h2 => paired_at pkN i i c (List.getElem?_range (List.getElem?_eq_some_iff.mp h2).1) h2
  have EN : Er1 K eP eN eB [e0, e1, e2, e3, e4, e5, e6, e7, e8, e9, e10, e11, e12, e13, e14, e15] eN false true := ⟨xN, ⟨yNa, yNh, yNb, yNc, yg, yt, yNd, yNi⟩, beq_eq_false_iff_ne.mp yNe, yNf, yNg, qNB, qNN, hkN⟩
  have pkB : Paired (fun (j : Nat) (c : Addr) => PySem.W.kitOne K (.ref eB) (.ref c) = some false) (List.range 16) [e0, e1, e2, e3, e4, e5, e6, e7, e8, e9, e10, e11, e12, e13, e14, e15] := (.cons (q_B0) (.cons (q_B1) (.cons (q_B2) (.cons (q_B3) (.cons (q_B4) (.cons (q_B5) (.cons (q_B6) (.cons (q_B7) (.cons (q_B8) (.cons (q_B9) (.cons (q_B10) (.cons (q_B11) (.cons (q_B12) (.cons (q_B13) (.cons (q_B14) (.cons (q_B15) .nil))))))))))))))))
  have hkB : ∀ (i : Nat) (c : Addr), [e0, e1, e2, e3, e4, e5, e6, e7, e8, e9, e10, e11, e12, e13, e14, e15][i]? = some c → PySem.W.kitOne K (.ref eB) (.ref c) = some false := fun i c h2 => paired_at pkB i i c (List.getElem?_range (List.getElem?_eq_some_iff.mp h2).1) h2
  have EB : Er1 K eP eN eB [e0, e1, e2, e3, e4, e5, e6, e7, e8, e9, e10, e11, e12, e13, e14, e15] eB true false := ⟨xB, ⟨yBa, yBh, yBb, yBc, yg, yt, yBd, yBi⟩, beq_eq_false_iff_ne.mp yBe, yBf, yBg, qBB, qBN, hkB⟩
  have Z : Ers K mg eP eN eB [e0, e1, e2, e3, e4, e5, e6, e7, e8, e9, e10, e11, e12, e13, e14, e15] := ⟨PySem.W.mg_of X G gP, xP, PySem.W.mg_of X G gN, PySem.W.mg_of X G gBc, EN, EB, ⟨_, _, _, _, _, _, _, _, _, _, _, _, _, _, _, _, rfl⟩, hm⟩
  have As : Asks K mg C B eP eN eB [e0, e1, e2, e3, e4, e5, e6, e7, e8, e9, e10, e11, e12, e13, e14, e15] := ⟨TC, Z, RC, Rd, ⟨_, _, F27, ⟨a27, i27, k27⟩, b27⟩, ⟨_, _, F17, PySem.W.mg_of X G a17, b17⟩⟩
  have Rg : Rdg K mg C B eP eN eB [e0, e1, e2, e3, e4, e5, e6, e7, e8, e9, e10, e11, e12, e13, e14, e15] := ⟨As, TL, ⟨_, _, F18, PySem.W.mg_of X G a18, b18⟩, ⟨_, _, F19, PySem.W.mg_of X G a19, b19⟩⟩
  have A : All K mg C B D eP eN eB [e0, e1, e2, e3, e4, e5, e6, e7, e8, e9, e10, e11, e12, e13, e14, e15] := ⟨Rg, M, Bt, PySem.W.mg_of X G gC, PySem.W.mg_of X G gB, ⟨_, _, F25, b25, ⟨mkC, a25, i25, kcC⟩⟩, ⟨_, _, F28, b28, ⟨mkB, a28, i28, kcB⟩⟩, ⟨_, _, F5, PySem.W.mg_of X G a5, b5⟩, ⟨_, _, F13, PySem.W.mg_of X G a13, b13⟩, ⟨_, _, F14, PySem.W.mg_of X G a14, b14⟩, ⟨_, _, F15, PySem.W.mg_of X G a15, b15⟩, ⟨_, _, F16, PySem.W.mg_of X G a16, b16⟩, ⟨_, _, F20, PySem.W.mg_of X G a20, b20⟩, ⟨_, _, F21, PySem.W.mg_of X G a21, b21⟩, ⟨_, _, F22, PySem.W.mg_of X G a22, b22⟩, ⟨_, _, F23, PySem.W.mg_of X G a23, b23⟩⟩
  exact ⟨PySem.W.fnOf "law" "law" (defArgs sLaw) (defBody sLaw) (defScope sLaw) .none kV24 dc24 pm24 an24 cd24 ct24, fun s v => .of_eq rfl, fun base _ _ => ok_law F24 A⟩
theorem walk {l : PySem.W.OpenLaw} {q : Program} {loose : List Str} {XP : (Str → Option Value) → Heap → Prop} {YP : World → Heap → Prop} {d : DefRec} {K : Params → PySem.W.Frag} (hn : l.most = some 63) (hdf : d.params.defaults = [])
    (hY : ∀ (w : World) (h : Heap), YP w h → (K w.params).In h)
    (F : ∀ (w : World) (mg : Str → Option Value) (fa : Addr) (h : Heap), (K w.params).In h → h.Ns mainGlobals mg → mg d.name = some (.ref fa) →
      ∃ fd : FuncData, (∀ (s : Shared) (u : Value), BindsTo s fd ⟨[u], []⟩ [("_law_script", u)]) ∧ ∀ base : Heap, (K w.params).In base → base.Ns mainGlobals mg → FnOk l.prog w (K w.params) mg base CX0 38 fa fd ["_law_script"] (spLaw (K w.params))) :
    PySem.W.WalkO q loose XP YP l.row.toRowW d [] (fun f vs => PySem.call f vs) :=
  L2.walk_of (n := 63) (k := 38) (x := "_law_script") (CX := fun _ => CX0) (sp := fun w => spLaw (K w.params)) hn (by decide) hdf ⟨fun _ => rfl, by decide, by decide⟩ hY F (fun _ _ a ns hl _ hS => ⟨a, ns, rfl, hS, hl, fun _ => rfl⟩) fun _ _ _ _ _ z => z
end K10
open PySem PySem.W PyProof.Rows
def PySem.W.Fast.tw13769616632317729444 : Nat := 0
def PySem.W.Fast.tw9340476340135811642 : Nat := 0
def PySem.W.Fast.tw13125495826354069698 : Nat := 0
def PySem.W.Fast.tw6640047686177348462 : Nat := 0
def PySem.W.Fast.tw17388889936957571306 : Nat := 0
def PySem.W.Fast.tw7025954869765067862 : Nat := 0
def PySem.W.Fast.tw5160401288732982983 : Nat := 0
def PySem.W.Fast.tw16878968349712019475 : Nat := 0
def PySem.W.Fast.tw16829577401729357003 : Nat := 0
def PySem.W.Fast.tw11360447805931917024 : Nat := 0
def PySem.W.Fast.tw2040148075156077829 : Nat := 0
def PySem.W.Fast.tw6062678169725686889 : Nat := 0
def PySem.W.Fast.tw4395109295313101826 : Nat := 0
def PySem.W.Fast.tw16131810478638568443 : Nat := 0
def PySem.W.Fast.tw6074977714850639797 : Nat := 0
def PySem.W.Fast.tw2582807386096620561 : Nat := 0
def PySem.W.Fast.tw9314377112339227197 : Nat := 0
def PySem.W.Fast.tw1522525657528518461 : Nat := 0
def PySem.W.Fast.tw6936967807905086335 : Nat := 0
def PySem.W.Fast.tw146136804986968366 : Nat := 0
set_option maxRecDepth 100000 in
set_option maxHeartbeats 0 in
theorem PySem.Challenge.cw_balepress_k10_codes_read_holds : PySem.Challenge.rw_balepress_k10_codes_read.Holds := by
  w_on; o_law; k_head; (case hw => w_witness2)
  k_fill
  refine K10.walk (l := PySem.Challenge.rw_balepress_k10_codes_read) rfl rfl (fun w h Y => PySem.W.kIn_of Y) ?F
  case F =>
    intro w mg fa h KX G hmg
    refine' K10.all_mk KX G hmg ?a1 ?l1 ?c1 ?k1 ?a2 ?l2 ?c2 ?k2 ?a3 ?l3 ?c3 ?k3 ?a4 ?l4 ?c4 ?k4 ?a5 ?l5 ?c5 ?k5 ?a6 ?l6 ?c6 ?k6 ?a7 ?l7 ?c7 ?k7 ?a8 ?l8 ?c8 ?k8 ?a9 ?l9 ?c9 ?k9 ?a10 ?l10 ?c10 ?k10 ?a11 ?l11 ?c11 ?k11 ?a12 ?l12 ?c12 ?k12 ?a13 ?l13 ?c13 ?k13 ?a14 ?l14 ?c14 ?k14 ?a15 ?l15 ?c15 ?k15 ?a16 ?l16 ?c16 ?k16 ?a17 ?l17 ?c17 ?k17 ?a18 ?l18 ?c18 ?k18 ?a19 ?l19 ?c19 ?k19 ?a20 ?l20 ?c20 ?k20 ?a21 ?l21 ?c21 ?k21 ?a22 ?l22 ?c22 ?k22 ?a23 ?l23 ?c23 ?k23 ?a24 ?l24 ?c24 ?k24 ?gC ?gB ?gD ?a25 ?i25 ?l25 ?c25 ?k25 ?a26 ?i26 ?l26 ?c26 ?k26 ?a27 ?i27 ?l27 ?c27 ?k27 ?a28 ?i28 ?l28 ?c28 ?k28 ?a29 ?i29 ?l29 ?c29 ?k29 ?a30 ?i30 ?l30 ?c30 ?k30 ?a31 ?i31 ?l31 ?c31 ?k31 ?a32 ?i32 ?l32 ?c32 ?k32 ?a33 ?i33 ?l33 ?c33 ?k33 ?a34 ?i34 ?l34 ?c34 ?k34 ?a35 ?i35 ?l35 ?c35 ?k35 ?a36 ?i36 ?l36 ?c36 ?k36 ?pgC ?hdC ?poC ?saC ?mkC ?kcC ?pgB ?hdB ?poB ?saB ?mkB ?kcB ?pgD ?hdD ?poD ?saD ?mkD ?kcD ?nW ?nR ?nS ?nH ?nT ?nX ?nY ?z_isi ?z_bool ?z_int ?z_list ?z_tuple ?z_len ?z_range ?z_max ?z_sum ?z_enum ?z_all ?z_verr ?z_str ?gv0 ?gv1 ?gv2 ?gv3 ?gP ?xP ?ge0 ?ge1 ?ge2 ?ge3 ?ge4 ?ge5 ?ge6 ?ge7 ?ge8 ?ge9 ?ge10 ?ge11 ?ge12 ?ge13 ?ge14 ?ge15 ?gN ?gBc ?xN ?yNa ?yNh ?yNb ?yNc ?yNd ?yNi ?yNe ?yNf ?yNg ?qNN ?qNB ?q_N0 ?q_N1 ?q_N2 ?q_N3 ?q_N4 ?q_N5 ?q_N6 ?q_N7 ?q_N8 ?q_N9 ?q_N10 ?q_N11 ?q_N12 ?q_N13 ?q_N14 ?q_N15 ?xB ?yBa ?yBh ?yBb ?yBc ?yBd ?yBi ?yBe ?yBf ?yBg ?qBN ?qBB ?q_B0 ?q_B1 ?q_B2 ?q_B3 ?q_B4 ?q_B5 ?q_B6 ?q_B7 ?q_B8 ?q_B9 ?q_B10 ?q_B11 ?q_B12 ?q_B13 ?q_B14 ?q_B15 ?yg ?yt
    (case a1 => k_is); (case l1 => k_is); (case c1 => k_is); (case k1 => k_is); (case a2 => k_is); (case l2 => k_is)
    (case c2 => k_is); (case k2 => k_is); (case a3 => k_is); (case l3 => k_is); (case c3 => k_is); (case k3 => k_is)
    (case a4 => k_is); (case l4 => k_is); (case c4 => k_is); (case k4 => k_is); (case a5 => k_is); (case l5 => k_is)
    (case c5 => k_is); (case k5 => k_is); (case a6 => k_is); (case l6 => k_is); (case c6 => k_is); (case k6 => k_is)
    (case a7 => k_is); (case l7 => k_is); (case c7 => k_is); (case k7 => k_is); (case a8 => k_is); (case l8 => k_is)
    (case c8 => k_is); (case k8 => k_is); (case a9 => k_is); (case l9 => k_is); (case c9 => k_is); (case k9 => k_is)
    (case a10 => k_is); (case l10 => k_is); (case c10 => k_is); (case k10 => k_is); (case a11 => k_is); (case l11 => k_is)
    (case c11 => k_is); (case k11 => k_is); (case a12 => k_is); (case l12 => k_is); (case c12 => k_is); (case k12 => k_is)
    (case a13 => k_is); (case l13 => k_is); (case c13 => k_is); (case k13 => k_is); (case a14 => k_is); (case l14 => k_is)
    (case c14 => k_is); (case k14 => k_is); (case a15 => k_is); (case l15 => k_is); (case c15 => k_is); (case k15 => k_is)
    (case a16 => k_is); (case l16 => k_is); (case c16 => k_is); (case k16 => k_is); (case a17 => k_is); (case l17 => k_is)
    (case c17 => k_is); (case k17 => k_is); (case a18 => k_is); (case l18 => k_is); (case c18 => k_is); (case k18 => k_is)
    (case a19 => k_is); (case l19 => k_is); (case c19 => k_is); (case k19 => k_is); (case a20 => k_is); (case l20 => k_is)
    (case c20 => k_is); (case k20 => k_is); (case a21 => k_is); (case l21 => k_is); (case c21 => k_is); (case k21 => k_is)
    (case a22 => k_is); (case l22 => k_is); (case c22 => k_is); (case k22 => k_is); (case a23 => k_is); (case l23 => k_is)
    (case c23 => k_is); (case k23 => k_is); (case a24 => k_is); (case l24 => k_is); (case c24 => k_is); (case k24 => k_is)
    (case gC => k_is); (case gB => k_is); (case gD => k_is); (case a25 => k_is); (case i25 => k_is); (case l25 => k_is)
    (case c25 => k_is); (case k25 => k_is); (case a26 => k_is); (case i26 => k_is); (case l26 => k_is); (case c26 => k_is)
    (case k26 => k_is); (case a27 => k_is); (case i27 => k_is); (case l27 => k_is); (case c27 => k_is); (case k27 => k_is)
    (case a28 => k_is); (case i28 => k_is); (case l28 => k_is); (case c28 => k_is); (case k28 => k_is); (case a29 => k_is)
    (case i29 => k_is); (case l29 => k_is); (case c29 => k_is); (case k29 => k_is); (case a30 => k_is); (case i30 => k_is)
    (case l30 => k_is); (case c30 => k_is); (case k30 => k_is); (case a31 => k_is); (case i31 => k_is); (case l31 => k_is)
    (case c31 => k_is); (case k31 => k_is); (case a32 => k_is); (case i32 => k_is); (case l32 => k_is); (case c32 => k_is)
    (case k32 => k_is); (case a33 => k_is); (case i33 => k_is); (case l33 => k_is); (case c33 => k_is); (case k33 => k_is)
    (case a34 => k_is); (case i34 => k_is); (case l34 => k_is); (case c34 => k_is); (case k34 => k_is); (case a35 => k_is)
    (case i35 => k_is); (case l35 => k_is); (case c35 => k_is); (case k35 => k_is); (case a36 => k_is); (case i36 => k_is)
    (case l36 => k_is); (case c36 => k_is); (case k36 => k_is); (case pgC => k_is); (case hdC => k_is); (case poC => k_is)
    (case saC => k_is); (case mkC => k_is); (case kcC => k_is); (case pgB => k_is); (case hdB => k_is); (case poB => k_is)
    (case saB => k_is); (case mkB => k_is); (case kcB => k_is); (case pgD => k_is); (case hdD => k_is); (case poD => k_is)
    (case saD => k_is); (case mkD => k_is); (case kcD => k_is); (case nW => k_is); (case nR => k_is); (case nS => k_is)
    (case nH => k_is); (case nT => k_is); (case nX => k_is); (case nY => k_is); (case z_isi => k_is); (case z_bool => k_is)
    (case z_int => k_is); (case z_list => k_is); (case z_tuple => k_is); (case z_len => k_is); (case z_range => k_is); (case z_max => k_is)
    (case z_sum => k_is); (case z_enum => k_is); (case z_all => k_is); (case z_verr => k_is); (case z_str => k_is); (case gv0 => k_is)
    (case gv1 => k_is); (case gv2 => k_is); (case gv3 => k_is); (case gP => k_is); (case xP => kernel_rfl); (case ge0 => k_is)
    (case ge1 => k_is); (case ge2 => k_is); (case ge3 => k_is); (case ge4 => k_is); (case ge5 => k_is); (case ge6 => k_is)
    (case ge7 => k_is); (case ge8 => k_is); (case ge9 => k_is); (case ge10 => k_is); (case ge11 => k_is); (case ge12 => k_is)
    (case ge13 => k_is); (case ge14 => k_is); (case ge15 => k_is); (case gN => k_is); (case gBc => k_is); (case xN => kernel_rfl)
    (case yNa => k_is); (case yNh => k_is); (case yNb => k_is); (case yNc => k_is); (case yNd => k_is); (case yNi => k_is)
    (case yNe => rfl); (case yNf => k_is); (case yNg => kernel_rfl); (case qNN => kernel_rfl); (case qNB => kernel_rfl); (case q_N0 => kernel_rfl)
    (case q_N1 => kernel_rfl); (case q_N2 => kernel_rfl); (case q_N3 => kernel_rfl); (case q_N4 => kernel_rfl); (case q_N5 => kernel_rfl); (case q_N6 => kernel_rfl)
    (case q_N7 => kernel_rfl); (case q_N8 => kernel_rfl); (case q_N9 => kernel_rfl); (case q_N10 => kernel_rfl); (case q_N11 => kernel_rfl); (case q_N12 => kernel_rfl)
    (case q_N13 => kernel_rfl); (case q_N14 => kernel_rfl); (case q_N15 => kernel_rfl); (case xB => kernel_rfl); (case yBa => k_is); (case yBh => k_is)
    (case yBb => k_is); (case yBc => k_is); (case yBd => k_is); (case yBi => k_is); (case yBe => rfl); (case yBf => k_is)
    (case yBg => kernel_rfl); (case qBN => kernel_rfl); (case qBB => kernel_rfl); (case q_B0 => kernel_rfl); (case q_B1 => kernel_rfl); (case q_B2 => kernel_rfl)
    (case q_B3 => kernel_rfl); (case q_B4 => kernel_rfl); (case q_B5 => kernel_rfl); (case q_B6 => kernel_rfl); (case q_B7 => kernel_rfl); (case q_B8 => kernel_rfl)
    (case q_B9 => kernel_rfl); (case q_B10 => kernel_rfl); (case q_B11 => kernel_rfl); (case q_B12 => kernel_rfl); (case q_B13 => kernel_rfl); (case q_B14 => kernel_rfl)
    (case q_B15 => kernel_rfl); (case yg => k_is); (case yt => k_is)

import PyProof.Rows.All
import Wide.All
import OpenK.AllK
import Wide.FinOn
import Lean
import PyProof.EqAt
import PyProof.EqKinds
import PyProof.TupleCall
import PyProof.NeKinds
import PyProof.Rows.TupMore
import PyProof.AutoSeq1
import PyProof.ZipIter
import PyProof.Rows.StrRev
import PyProof.ConsumeWalk
import PyProof.Rows.SeqGen
import PyProof.StrWalks
import PyProof.StrBlock2
import PyProof.StrBlockI
import PyProof.StrLaws
import PyProof.SliceStr2
import PyProof.Rows.Range3
import PyProof.SeqI3
import PyProof.Rows.SortShellK
import PyProof.Rows.SortRev
import KE.KEqDict
import PyProof.FString
import PySem.Challenge.RW_balepress_k08_shares_refused
set_option Elab.async false
set_option linter.all false
set_option maxRecDepth 100000
namespace QQ
open PySem PyProof.Rows
/-! ## iterators' ends where an error may be in hand: it has no error behind it -/
/-- no error in hand, or one that has none behind it -/
def Hq (A : Around) (h : Heap) : Prop := A.handled = none ∨ ∃ a o vs, A.handled = some (.ref a) ∧ h.get? a = some o ∧ o.data = .fields vs ∧ vs[2]? = some Value.none
theorem Hq.keep {A : Around} {h h' : Heap} (q : Hq A h) (k : ∀ a, A.handled = some (.ref a) → ∀ o, h.get? a = some o → h'.get? a = some o) : Hq A h' := by
  rcases q with q | ⟨a, o, vs, e, g, d, z⟩
  · exact .inl q
  · exact .inr ⟨a, o, vs, e, k a e o g, d, z⟩
theorem entry_unch : entryFor table "proto.unchain" = some Builtin.«proto.unchain» := entryFor_of_fast (by kernel_rfl)
section
variable {prog : Program} {w : World} {A : Around} {E : Value → Shared → Prop} {s : Shared}
/-- a new error is raised: the one in hand stands behind it then -/
theorem raise_quiet {α : Type} {e : Addr} {oe : Obj} {vs : Array Value} {Q : α → Shared → Prop} (hq : Hq A s.heap) (he : s.heap.get? e = some oe) (hd : oe.data = .fields vs) (hz : 2 < vs.size)
    (hne : A.handled ≠ some (.ref e))
    (h : ∀ h' o', h'.get? e = some o' → o'.cls = oe.cls → Heap.SameBut e s.heap h' → E (.ref e) { s with heap := h' }) : wpAny (model prog w) A (raiseNew (.ref e) : Sem α) Q E s := by
  unfold raiseNew
  refine wpAny_bind (wpAny_handled ?_)
  rcases hq with q | ⟨a, o, us, ea, ga, da, za⟩
  · rw [q]
    exact wpAny_bind (wpAny_pure (wpAny_throw (h s.heap oe he rfl (Heap.SameBut.refl ..))))
  · rw [ea]
    have ne : (Value.ref a != Value.ref e) = true := by
      have : a ≠ e := fun z => hne (by rw [ea, z])
      simp [bne, this]
    show wpAny _ _ (if (Value.ref a != Value.ref e) = true then _ else _) _ _ _
    rw [if_pos ne]
    refine wpAny_bind (wpAny_holding (wpAny_runValue (codeAny_builtin entry_unch ?_)))
    show wpAny _ _ (field (.ref a) 2 >>= _) _ _ s
    refine wpAny_bind (wpAny_field ga da za ?_)
    show wpAny _ _ (if (Value.none == Value.none) = true then _ else _) _ _ s
    rw [if_pos (by rfl)]
    refine wpAny_bind (wpAny_pure (wpAny_pure ?_))
    show wpAny _ _ (updateField e 2 (.ref a) >>= fun _ => throw (.ref e)) _ _ s
    refine wpAny_bind (wpAny_setField he hd hz ?_ : wpAny _ _ (setField (.ref e) 2 (.ref a)) _ _ s)
    refine wpAny_throw (h _ _ (Heap.get?_update_self _ he (Obj.isFreed_of_fields (Obj.data_mapFields hd _))) (Obj.cls_mapFields _ _) (Heap.SameBut.update ..))
/-- the end of an iterator: a StopIteration is made and raised, and it is told that it is over -/
theorem stop_quiet {α : Type} {E' : Value → Shared → Prop} {R : α → Shared → Prop} (hq : Hq A s.heap)
    (h : ∀ h' e, (∀ b o, s.heap.get? b = some o → h'.get? b = some o) → (∃ o, h'.get? e = some o ∧ o.cls = .type "StopIteration") → E' (.ref e) { s with heap := h' }) :
    wpAny (model prog w) A (newExc (.type "StopIteration") [] >>= fun v => (raiseNew v : Sem α)) R E' s := by
  refine wpAny_bind ?_
  simp only [newExc, newTuple]
  refine wpAny_bind (wpAny_newObj_type ?_ (by size_fits))
  refine wpAny_bind (m := firstArgMember _ _) (wpAny_of_eq (a := Value.none) (by first | rfl | (simp only [firstArgMember]; rfl)) ?_)
  refine wpAny_newObj_type ?_ (by size_fits)
  have k2 : ∀ b o, s.heap.get? b = some o → ((s.heap.push { cls := .type "tuple", data := .seq ([] : List Value).toArray }).push { cls := .type "StopIteration", data := .fields (#[.ref s.heap.objs.size, .none, .none, .none, .bool false, .none] ++ ownMembersOf (.type "StopIteration") []) }).get? b = some o :=
    fun b o e => Heap.get?_push_of_some _ (Heap.get?_push_of_some _ e)
  refine raise_quiet (hq.keep fun a _ o e => k2 a o e) (Heap.get?_push_size _ rfl) rfl (by simp [ownMembersOf]) ?_ fun h' o' ge ce sb => ?_
  · rcases hq with q | ⟨a, o, us, ea, ga, _⟩
    · rw [q]; intro z; cases z
    · rw [ea]
      intro z
      have e : a = (s.heap.push { cls := .type "tuple", data := .seq ([] : List Value).toArray }).objs.size := Value.ref.inj (Option.some.inj z)
      have := Heap.lt_size ga
      rw [e, Heap.size_push] at this
      exact absurd this (Nat.not_lt.mpr (Nat.le_succ _))
  · refine h h' _ (fun b o e => sb.extBut b o (fun z => ?_) (k2 b o e)) ⟨o', ge, ce⟩
    have := Heap.lt_size e
    rw [z, Heap.size_push] at this
    exact absurd this (Nat.not_lt.mpr (Nat.le_succ _))
theorem hq_not {A : Around} {h : Heap} {it : Addr} {o : Obj} {vs : Array Value} (q : Hq A h) (g : h.get? it = some o) (d : o.data = .fields vs) (z : vs[2]? ≠ some Value.none) : A.handled ≠ some (.ref it) := by
  rcases q with q | ⟨a, o', us, e, g', d', z'⟩
  · rw [q]; intro x; cases x
  · rw [e]
    intro x
    have e' : a = it := Value.ref.inj (Option.some.inj x)
    subst e'
    rw [g] at g'; cases g'
    rw [d] at d'; cases d'
    exact z z'
theorem list_end_q {it l : Addr} {i : Nat} {items} {Q : Option Value → Shared → Prop} (hq : Hq A s.heap)
    (hit : s.heap.IsListIter it l i) (hl : s.heap.IsList l items) (hx : items[i]? = none)
    (hQ : ∀ h', Heap.ExtBut it s.heap h' → Q none { s with heap := h' }) : wpAny (model prog w) A (pyNext (.ref it)) Q E s := by
  obtain ⟨o, ho, hc, hd⟩ := id hit
  obtain ⟨ol, hol, _, nl, hdl⟩ := hl
  have hn := hq_not hq ho hd (by simp)
  unfold pyNext
  refine wpAny_bind (wpAny_attempt (wpAny_callSpecial?_slot (name := Str.ofString "__next__") hit.typeIs slot_listiter_next (wpAny_call_entry slot_listiter_next hit.typeIs entry_listiter_next ?_ (args_listiter_next _))))
  show wpAny _ _ (field (.ref it) 0 >>= _) _ _ s
  refine wpAny_bind (wpAny_field ho hd (x := .ref l) rfl ?_)
  show wpAny _ _ (if (Value.ref l == Value.none) = true then _ else _) _ _ s
  rw [if_neg (show ¬ ((Value.ref l == Value.none) = true) from Bool.false_ne_true)]
  show wpAny _ _ (field (.ref it) 1 >>= _) _ _ s
  refine wpAny_bind (wpAny_field ho hd (x := .int i 0) rfl ?_)
  show wpAny _ _ (seqItems? (.ref l) >>= _) _ _ s
  refine wpAny_bind (wpAny_seqItems hol hdl ?_)
  simp only [Int.toNat_natCast, hx]
  refine wpAny_bind (wpAny_rule (wpAny_bind (wpAny_setField ho hd (by simp) ?_)))
  have sb1 := Heap.SameBut.update (h := s.heap) it (Obj.mapFields (·.setIfInBounds 0 Value.none))
  refine stop_quiet (A := A.in1) (hq.keep fun a ea o' e => sb1.extBut a o' (fun z => hn (by rw [ea, z])) e) fun h' e k ⟨o', ge, ce⟩ => ?_
  refine wpAny_bind (wpAny_isInstance (T := "StopIteration") (b := true) ⟨_, ge, ce⟩ isSubtype_stop ?_)
  exact wpAny_pure (hQ _ fun b ob hb e1 => k b ob (sb1.extBut b ob hb e1))
theorem tuple_end_q {it t : Addr} {i : Nat} {items} {Q : Option Value → Shared → Prop} (hq : Hq A s.heap)
    (hit : s.heap.IsTupleIter it t i) (ht : s.heap.IsTuple t items) (hx : items[i]? = none)
    (hQ : ∀ h', Heap.ExtBut it s.heap h' → Q none { s with heap := h' }) : wpAny (model prog w) A (pyNext (.ref it)) Q E s := by
  obtain ⟨o, ho, hc, hd⟩ := id hit
  obtain ⟨ol, hol, _, nl, hdl⟩ := ht
  have hn := hq_not hq ho hd (by simp)
  unfold pyNext
  refine wpAny_bind (wpAny_attempt (wpAny_callSpecial?_slot (name := Str.ofString "__next__") hit.typeIs F.slot_tuple_iterator_next (wpAny_call_entry F.slot_tuple_iterator_next hit.typeIs F.entry_tuple_iterator_next ?_ (F.args_tuple_iterator_next_1 _))))
  show wpAny _ _ (field (.ref it) 0 >>= _) _ _ s
  refine wpAny_bind (wpAny_field ho hd (x := .ref t) rfl ?_)
  show wpAny _ _ (if (Value.ref t == Value.none) = true then _ else _) _ _ s
  rw [if_neg (show ¬ ((Value.ref t == Value.none) = true) from Bool.false_ne_true)]
  show wpAny _ _ (field (.ref it) 1 >>= _) _ _ s
  refine wpAny_bind (wpAny_field ho hd (x := .int i 0) rfl ?_)
  show wpAny _ _ (seqItems? (.ref t) >>= _) _ _ s
  refine wpAny_bind (wpAny_seqItems hol hdl ?_)
  simp only [Int.toNat_natCast, hx]
  refine wpAny_bind (wpAny_rule (wpAny_bind (wpAny_setField ho hd (by simp) ?_)))
  have sb1 := Heap.SameBut.update (h := s.heap) it (Obj.mapFields (·.setIfInBounds 0 Value.none))
  refine stop_quiet (A := A.in1) (hq.keep fun a ea o' e => sb1.extBut a o' (fun z => hn (by rw [ea, z])) e) fun h' e k ⟨o', ge, ce⟩ => ?_
  refine wpAny_bind (wpAny_isInstance (T := "StopIteration") (b := true) ⟨_, ge, ce⟩ isSubtype_stop ?_)
  exact wpAny_pure (hQ _ fun b ob hb e1 => k b ob (sb1.extBut b ob hb e1))
theorem range_end_q {it : Addr} {x left step : Int} {Q : Option Value → Shared → Prop} (hq : Hq A s.heap) (hit : IsRangeIter s.heap it x left step) (hleft : left ≤ 0)
    (hQ : ∀ h', Heap.ExtBut it s.heap h' → Q none { s with heap := h' }) : wpAny (model prog w) A (pyNext (.ref it)) Q E s := by
  have hT : s.TypeIs (.ref it) "range_iterator" := ⟨_, hit, rfl⟩
  unfold pyNext
  refine wpAny_bind (wpAny_attempt (wpAny_callSpecial?_slot (name := Str.ofString "__next__") hT F.slot_range_iterator_next (wpAny_call_entry F.slot_range_iterator_next hT F.entry_range_iterator_next ?_ (F.args_range_iterator_next_1 _))))
  show wpAny _ _ (field (.ref it) 0 >>= _) _ _ s
  refine wpAny_bind (wpAny_field hit rfl (x := rawInt x) rfl ?_)
  show wpAny _ _ (field (.ref it) 1 >>= _) _ _ s
  refine wpAny_bind (wpAny_field hit rfl (x := rawInt left) rfl ?_)
  show wpAny _ _ (field (.ref it) 2 >>= _) _ _ s
  refine wpAny_bind (wpAny_field hit rfl (x := rawInt step) rfl ?_)
  show wpAny _ _ (if left ≤ 0 then _ else _) _ _ s
  rw [if_pos hleft]
  refine wpAny_bind (wpAny_rule (wpAny_bind ?_))
  refine stop_quiet (A := A.in1) hq fun h' e k ⟨o', ge, ce⟩ => ?_
  refine wpAny_bind (wpAny_isInstance (T := "StopIteration") (b := true) ⟨_, ge, ce⟩ isSubtype_stop ?_)
  exact wpAny_pure (hQ _ fun b ob hb e1 => k b ob e1)
/-- a tuple taken apart -/
theorem unpackItems_q {t : Addr} {items : Array Value} {Q : List Value → Shared → Prop} (hq : Hq A s.heap) (ht : IsTup s.heap t items)
    (hQ : ∀ h', Heap.ExtBut s.heap.objs.size s.heap h' → Q items.toList { s with heap := h' }) : wpAny (model prog w) A (unpackItems (.ref t) items.size none) Q E s := by
  have nt : t ≠ s.heap.objs.size := by obtain ⟨o, ho, _⟩ := ht; exact Nat.ne_of_lt (Heap.lt_size ho)
  unfold unpackItems
  refine wpAny_bind ?_
  unfold notIterableAtAll
  refine wpAny_bind (wpAny_specialOf ht.typeIs slot_tuple_iter.lookup (wpAny_pure ?_))
  simp only [Bool.false_eq_true, if_false]
  refine wpAny_bind (wpAny_holding (iter_tuple ht (wpAny_bind (wpAny_holding (draw_tuple nt items.size 0 _ _ ⟨_, Heap.get?_push_size _ rfl, rfl, rfl⟩ (ht.push _) (by omega) fun g1 i1 b1 => ?_)))))
  rw [show List.take items.size (List.drop 0 items.toList) = items.toList by rw [List.drop_zero]; exact List.take_of_length_le (by simp), if_neg (by simp)]
  have k1 : ∀ b o, b ≠ s.heap.objs.size → s.heap.get? b = some o → g1.get? b = some o := fun b o hb e => b1.extBut b o hb (Heap.get?_push_of_some _ e)
  have q1 : Hq A g1 := hq.keep fun a _ o e => k1 a o (Nat.ne_of_lt (Heap.lt_size e)) e
  have t1 : IsTup g1 t items := (ht.push _).extBut b1.extBut nt
  refine wpAny_bind (wpAny_holding (tuple_end_q (s := { s with heap := g1 }) q1 (show g1.IsTupleIter _ t _ from i1) (show g1.IsTuple t items from t1) (by simp) fun g2 x2 => ?_))
  simp only [Option.isSome_none, Bool.false_eq_true, if_false]
  exact wpAny_pure (hQ g2 fun b o hb e => x2 b o hb (k1 b o hb e))
theorem assign_Tuple_q {env : Env} {elts : List Expr} {x1} {pos : Pos} {t : Addr} {items : Array Value} {Q : Unit → Shared → Prop} (hq : Hq A s.heap) (ht : IsTup s.heap t items)
    (hn : (assignEach elts env).length = items.size) (hstar : (assignEach elts env).findIdx? (·.1) = none)
    (h : ∀ h', Heap.ExtBut s.heap.objs.size s.heap h' → wpAny (model prog w) A (assignInOrder ((assignEach elts env).map (·.2)) items.toList) Q E { s with heap := h' }) :
    wpAny (model prog w) A (assign (.Tuple elts x1 pos) env (.ref t)) Q E s := by
  rw [assign_Tuple]
  refine wpAny_bind (wpAny_standAt ?_)
  unfold unpack
  rw [hn, hstar]
  exact wpAny_bind (wpAny_holding (unpackItems_q hq ht h))
end
end QQ

set_option Elab.async false
set_option linter.all false
set_option maxRecDepth 100000
namespace QQ
open PySem PyProof.Rows
/-! ## an error on its way: its object, its record of places, what changes -/
def exO (cls : Value) (vs : Array Value) : Obj := { cls := cls, data := .fields vs }
/-- an error of the class at e; fp: the objects that change as it goes -/
def Fly (h : Heap) (e : Addr) (cls : Value) (fp : List Addr) : Prop :=
  ∃ vs, h.get? e = some (exO cls vs) ∧ vs[2]? = some Value.none ∧ ((vs[1]? = some Value.none ∧ fp = [e]) ∨
    ∃ T oT ts, vs[1]? = some (.ref T) ∧ T ≠ e ∧ h.get? T = some oT ∧ oT.data = .fields ts ∧ ts[3]? = some Value.none ∧ fp = [e, T])
theorem Fly.here {h : Heap} {e : Addr} {cls : Value} {fp : List Addr} (F : Fly h e cls fp) : e ∈ fp := by
  obtain ⟨vs, _, _, ⟨_, r⟩ | ⟨T, oT, ts, _, _, _, _, _, r⟩⟩ := F <;> simp [r]
theorem Fly.keep {h h' : Heap} {e : Addr} {cls : Value} {fp : List Addr} (F : Fly h e cls fp) (k : ∀ b ∈ fp, ∀ o, h.get? b = some o → h'.get? b = some o) : Fly h' e cls fp := by
  obtain ⟨vs, g, z, ⟨a, r⟩ | ⟨T, oT, ts, a, ne, gT, dT, zT, r⟩⟩ := F
  · exact ⟨vs, k e (by simp [r]) _ g, z, .inl ⟨a, r⟩⟩
  · exact ⟨vs, k e (by simp [r]) _ g, z, .inr ⟨T, oT, ts, a, ne, k T (by simp [r]) _ gT, dT, zT, r⟩⟩
/-- what stands at fp: records -/
theorem Fly.rec {h : Heap} {e : Addr} {cls : Value} {fp : List Addr} (F : Fly h e cls fp) : ∀ b ∈ fp, ∃ o vs, h.get? b = some o ∧ o.data = .fields vs := by
  obtain ⟨vs, g, z, ⟨a, r⟩ | ⟨T, oT, ts, a, ne, gT, dT, zT, r⟩⟩ := F
  · intro b hb
    rw [r, List.mem_singleton] at hb
    subst hb
    exact ⟨_, vs, g, rfl⟩
  · intro b hb
    rw [r] at hb
    rcases List.mem_cons.mp hb with hb | hb
    · subst hb; exact ⟨_, vs, g, rfl⟩
    · rw [List.mem_singleton] at hb
      subst hb
      exact ⟨oT, ts, gT, dT⟩
theorem Fly.made {h h' : Heap} {e : Addr} {cls : Value} {args : List Value} (m : Heap.MadeExcOf h h' e cls args) : Fly h' e cls [e] := by
  obtain ⟨t, ht, _⟩ := m.there
  exact ⟨_, ht, rfl, .inl ⟨rfl, rfl⟩⟩
section
variable {M : Model} {A : Around} {E : Value → Shared → Prop} {s : Shared}
theorem land_core {base : Heap} {env : Env} {outer : List Env} {L e : Addr} {cls head : Value} {vs : Array Value} {had : Bool} {Q : Unit → Shared → Prop}
    (hfr : A.frames = some (env :: outer)) (hl : s.heap.FunFrames base (env :: outer)) (hf : env.frame = some L)
    (he : s.heap.get? e = some (exO cls vs)) (h1 : 1 < vs.size) (h2 : vs[2]? = some Value.none)
    (h : ∀ h' T, Fly h' e cls [e, T] → s.heap.objs.size ≤ T → (∀ b o, s.heap.get? b = some o → b ≠ e → b ∉ (env :: outer).filterMap (·.frame) → h'.get? b = some o) →
      (∀ b o, s.heap.get? b = some o → b ≠ e → ∃ sl, h'.get? b = some { o with slots := sl }) → Q () { s with heap := h' }) :
    wpAny M A (do let a ← frameOf env; let pl ← entryPlaceOf L had; let b ← EntryCells.newEntry head a .none (rawInt L) .none pl; setField (.ref e) 1 b) (fun _ s' => wpAny M A (setFlight (.ref e) none) Q E s') E s := by
  have ne : e ∉ (env :: outer).filterMap (·.frame) := fun hm => by
    obtain ⟨_, o, ho, hnf⟩ := hl.mem hm
    rw [he] at ho; cases ho
    exact hnf vs rfl
  refine wpAny_bind (wpAny_frameOf_fun hfr hl hf fun g1 s1 => ?_)
  refine wpAny_bind (wpAny_entryPlaceOf fun pl hpl => ?_)
  unfold EntryCells.newEntry newFields
  refine wpAny_bind (wpAny_newObj_type ?_ (hpl.sizeOk5 _ _ _ _ _))
  have hsz : g1.objs.size = s.heap.objs.size := s1.1
  have he1 : g1.get? e = some (exO cls vs) := (s1.2.1 e ne).trans he
  generalize hO : ({ cls := .type "traceback", dict := none, data := .fields ([head, .ref L, .none, rawInt L, .none] ++ (if pl.isEmpty then List.replicate 6 Value.none else pl)).toArray } : Obj) = oT
  have e3 : ∃ ts, oT.data = .fields ts ∧ 3 < ts.size := ⟨_, by rw [← hO], by simp only [List.size_toArray, List.length_append, List.length_cons, List.length_nil]; omega⟩
  have hfreed : oT.isFreed = false := by rw [← hO]; rfl
  clear hO
  obtain ⟨ts, hts, hz3⟩ := e3
  have he2 : (g1.push oT).get? e = some (exO cls vs) := Heap.get?_push_of_some _ he1
  have hT2 : (g1.push oT).get? g1.objs.size = some oT := Heap.get?_push_size g1 hfreed
  have hTe : g1.objs.size ≠ e := Nat.ne_of_gt (Heap.lt_size he1)
  refine wpAny_setField he2 rfl h1 ?_
  have he3 := Heap.get?_update_self (Obj.mapFields (·.setIfInBounds 1 (Value.ref g1.objs.size))) he2 rfl
  have hT3 := (Heap.get?_update_other (g1.push oT) (Obj.mapFields (·.setIfInBounds 1 (Value.ref g1.objs.size))) (Ne.symm hTe)).trans hT2
  have he3' : ((g1.push oT).update e (Obj.mapFields (·.setIfInBounds 1 (Value.ref g1.objs.size)))).get? e = some (exO cls (vs.setIfInBounds 1 (Value.ref g1.objs.size))) := he3
  unfold setFlight
  refine wpAny_bind (wpAny_field he3' rfl (x := .ref g1.objs.size) (by simp [h1]) ?_)
  rw [if_pos (show (Value.ref g1.objs.size != Value.none) = true from by simp)]
  refine wpAny_setField hT3 hts hz3 ?_
  have keep : ∀ b o, b ≠ e → g1.get? b = some o → (((g1.push oT).update e (Obj.mapFields (·.setIfInBounds 1 (Value.ref g1.objs.size)))).update g1.objs.size (Obj.mapFields (·.setIfInBounds 3 ((none : Option Addr).elim Value.none fun f => rawInt f)))).get? b = some o := fun b o hb q => by
    rw [Heap.get?_update_other _ _ (Nat.ne_of_gt (Heap.lt_size q)), Heap.get?_update_other _ _ (Ne.symm hb)]
    exact Heap.get?_push_of_some _ q
  refine h _ g1.objs.size ⟨vs.setIfInBounds 1 (Value.ref g1.objs.size), ?_, ?_, .inr ⟨g1.objs.size, _, _, ?_, hTe, Heap.get?_update_self _ hT3 (Obj.isFreed_of_fields (Obj.data_mapFields hts _)), Obj.data_mapFields hts _, ?_, rfl⟩⟩ (Nat.le_of_eq hsz.symm) (fun b o q hb hn => ?_) fun b o q hb => ?_
  · rw [Heap.get?_update_other _ _ hTe]; exact he3'
  · rw [Array.getElem?_setIfInBounds_ne (by decide)]; exact h2
  · simp [h1]
  · simp [hz3]
  · exact keep b o hb ((s1.2.1 b hn).trans q)
  · obtain ⟨sl, e'⟩ := s1.2.2 b o q
    exact ⟨sl, keep b _ hb e'⟩
/-- an error is noted in the frame and lands there -/
theorem land {base : Heap} {env : Env} {outer : List Env} {L e : Addr} {cls : Value} {fp : List Addr} {Q : Unit → Shared → Prop}
    (hfr : A.frames = some (env :: outer)) (hl : s.heap.FunFrames base (env :: outer)) (hf : env.frame = some L) (F : Fly s.heap e cls fp)
    (h : ∀ h' T, Fly h' e cls [e, T] → s.heap.objs.size ≤ T → (∀ b o, s.heap.get? b = some o → b ∉ fp → b ∉ (env :: outer).filterMap (·.frame) → h'.get? b = some o) →
      (∀ b o, s.heap.get? b = some o → b ∉ fp → ∃ sl, h'.get? b = some { o with slots := sl }) → (∀ b o, s.heap.get? b = some o → ∃ o', h'.get? b = some o') → Q () { s with heap := h' }) :
    wpAny M A (noteFrame (.ref e) env) (fun _ s' => wpAny M A (setFlight (.ref e) none) Q E s') E s := by
  obtain ⟨vs, he, h2, ⟨h1, r⟩ | ⟨T, oT, ts, h1, ne, gT, dT, zT, r⟩⟩ := F
  · subst r
    unfold noteFrame
    simp only [hf]
    refine wpAny_bind (wpAny_field he rfl h1 ?_)
    rw [if_neg (by decide)]
    refine land_core hfr hl hf he (Array.getElem?_eq_some_iff.mp h1).1 h2 fun h' T' f1 f2 f3 f4 => h h' T' f1 f2 (fun b o q hb hn => f3 b o q (fun z => hb (by simp [z])) hn) (fun b o q hb => f4 b o q fun z => hb (by simp [z])) fun b o q => ?_
    by_cases hb : b = e
    · obtain ⟨vs', g', _⟩ := f1
      subst hb
      exact ⟨_, g'⟩
    · obtain ⟨sl, e'⟩ := f4 b o q hb
      exact ⟨_, e'⟩
  · subst r
    unfold noteFrame
    simp only [hf]
    refine wpAny_bind (wpAny_field he rfl h1 ?_)
    rw [if_pos (show (Value.ref T != Value.none) = true from by simp)]
    refine wpAny_bind (wpAny_field gT dT zT ?_)
    rw [if_neg (show ¬ ((Value.none == rawInt L) = true) from by simp [rawInt])]
    refine wpAny_bind (wpAny_setField gT dT (Array.getElem?_eq_some_iff.mp zT).1 ?_)
    have oth : ∀ b, b ≠ T → (s.heap.update T (Obj.mapFields (·.setIfInBounds 3 Value.none))).get? b = s.heap.get? b := fun b hb => Heap.get?_update_other _ _ (Ne.symm hb)
    have gT' := Heap.get?_update_self (Obj.mapFields (·.setIfInBounds 3 Value.none)) gT (Obj.isFreed_of_fields (Obj.data_mapFields dT _))
    have nT : ∀ b o, s.heap.get? b = some o → (∀ us, o.data ≠ .fields us) → b ≠ T := fun b o q nf z => by
      rw [z, gT] at q; cases q; exact nf ts dT
    have sz : (s.heap.update T (Obj.mapFields (·.setIfInBounds 3 Value.none))).objs.size = s.heap.objs.size := Heap.size_after_update ..
    refine land_core hfr (hl.of_keeps fun b o q nf => ⟨o, (oth b (nT b o q nf)).trans q, rfl⟩) hf ((oth e (Ne.symm ne)).trans he) (Array.getElem?_eq_some_iff.mp h1).1 h2
      fun h' T' f1 f2 f3 f4 => h h' T' f1 (by rw [sz] at f2; exact f2) (fun b o q hb hn => ?_) (fun b o q hb => ?_) fun b o q => ?_
    · have b1 : b ≠ e := fun z => hb (by simp [z])
      have b2 : b ≠ T := fun z => hb (by simp [z])
      exact f3 b o ((oth b b2).trans q) b1 hn
    · have b1 : b ≠ e := fun z => hb (by simp [z])
      have b2 : b ≠ T := fun z => hb (by simp [z])
      exact f4 b o ((oth b b2).trans q) b1
    · by_cases hb : b = e
      · obtain ⟨vs', g', _⟩ := f1
        subst hb
        exact ⟨_, g'⟩
      · by_cases hT : b = T
        · subst hT
          obtain ⟨sl, e'⟩ := f4 b _ gT' hb
          exact ⟨_, e'⟩
        · obtain ⟨sl, e'⟩ := f4 b o ((oth b hT).trans q) hb
          exact ⟨_, e'⟩
/-- it is told again that it landed -/
theorem land_again {e : Addr} {cls : Value} {T : Addr} {Q : Unit → Shared → Prop} (F : Fly s.heap e cls [e, T])
    (h : ∀ h', Fly h' e cls [e, T] → (∀ b o, s.heap.get? b = some o → b ≠ T → h'.get? b = some o) → Q () { s with heap := h' }) : wpAny M A (setFlight (.ref e) none) Q E s := by
  obtain ⟨vs, he, h2, ⟨h1, r⟩ | ⟨T', oT, ts, h1, ne, gT, dT, zT, r⟩⟩ := F
  · cases r
  · cases r
    unfold setFlight
    refine wpAny_bind (wpAny_field he rfl h1 ?_)
    rw [if_pos (show (Value.ref T != Value.none) = true from by simp)]
    have z3 := (Array.getElem?_eq_some_iff.mp zT).1
    refine wpAny_setField gT dT z3 (h _ ⟨vs, ?_, h2, .inr ⟨T, _, _, h1, ne, Heap.get?_update_self _ gT (Obj.isFreed_of_fields (Obj.data_mapFields dT _)), Obj.data_mapFields dT _, by simp [z3], rfl⟩⟩ fun b o q hb => ?_)
    · rw [Heap.get?_update_other _ _ ne]; exact he
    · rw [Heap.get?_update_other _ _ (Ne.symm hb)]; exact q
end
end QQ

set_option Elab.async false
set_option linter.all false
set_option maxRecDepth 100000
/-! THE HAND LAYER, for ints, bools, texts, own classes, LISTS and tuples (index, slices, in, append, pop ..), calls, loops. Paste it whole ahead of your own text; what your proof does not reach may be deleted. -/
namespace L2
open PySem PySem.Spec PyProof.Rows

/-- a key: an int or a str -/
abbrev Key := Sum Int Str
def keyIs : Key → Value → Bool
  | .inl k, v => Value.isInt k v
  | .inr x, v => Value.isStrOf x v
def keyH (w : World) : Key → Int
  | .inl k => hashInt k
  | .inr x => hashStr w x
theorem keyIs_shape : ∀ {k : Key} {v : Value}, keyIs k v = true → (∃ i t, k = Sum.inl i ∧ v = Value.int i t) ∨ (∃ x t, k = Sum.inr x ∧ v = Value.str x t)
  | .inl i, v, h => by
    obtain ⟨t, e⟩ := Value.isInt_shape (k := i) (v := v) h
    exact .inl ⟨i, t, rfl, e⟩
  | .inr x, v, h => by
    obtain ⟨t, e⟩ := Value.isStrOf_shape (x := x) (v := v) h
    exact .inr ⟨x, t, rfl, e⟩
theorem key_ll (a b : Int) : decide ((Sum.inl a : Key) = Sum.inl b) = (a == b) := by
  by_cases e : a = b
  · subst e; simp
  · have h : ¬ (Sum.inl a : Key) = Sum.inl b := fun q => e (Sum.inl.inj q)
    rw [decide_eq_false h]
    exact (beq_eq_false_iff_ne.mpr e).symm
theorem key_rr (a b : Str) : decide ((Sum.inr a : Key) = Sum.inr b) = decide (a = b) := by
  by_cases e : a = b
  · subst e; simp
  · have h : ¬ (Sum.inr a : Key) = Sum.inr b := fun q => e (Sum.inr.inj q)
    rw [decide_eq_false h, decide_eq_false e]
theorem key_lr (a : Int) (b : Str) : decide ((Sum.inl a : Key) = Sum.inr b) = false := decide_eq_false (fun q => nomatch q)
theorem key_rl (a : Str) (b : Int) : decide ((Sum.inr a : Key) = Sum.inl b) = false := decide_eq_false (fun q => nomatch q)

def mixKind (prog : Program) (w : World) : PySem.KeyKind prog w Key where
  is := keyIs
  hash := keyH w
  inj := fun v a b ha hb => by
    rcases keyIs_shape ha with ⟨i, t, rfl, rfl⟩ | ⟨x, t, rfl, rfl⟩
    · rcases keyIs_shape hb with ⟨j, u, rfl, e⟩ | ⟨y, u, rfl, e⟩
      · injection e with e1 _; rw [e1]
      · exact nomatch e
    · rcases keyIs_shape hb with ⟨j, u, rfl, e⟩ | ⟨y, u, rfl, e⟩
      · exact nomatch e
      · injection e with e1 _; rw [e1]
  byValue := fun k v h => by
    rcases keyIs_shape h with ⟨i, t, rfl, rfl⟩ | ⟨x, t, rfl, rfl⟩ <;> rfl
  pyHash := fun hv h => by
    rcases keyIs_shape hv with ⟨i, t, rfl, rfl⟩ | ⟨x, t, rfl, rfl⟩
    · exact wpAny_pyHash_int h
    · exact wpAny_pyHash_str h
  eqBool := fun hu hv h => by
    rcases keyIs_shape hu with ⟨i, t, rfl, rfl⟩ | ⟨x, t, rfl, rfl⟩
    · rcases keyIs_shape hv with ⟨j, u, rfl, rfl⟩ | ⟨y, u, rfl, rfl⟩
      · rw [key_ll] at h; exact wpAny_eqBool_int h
      · rw [key_lr] at h; exact SeqAt.EqAt.int_str i t y u _ _ _ _ h
    · rcases keyIs_shape hv with ⟨j, u, rfl, rfl⟩ | ⟨y, u, rfl, rfl⟩
      · rw [key_rl] at h; exact SeqAt.EqAt.str_int x t j u _ _ _ _ h
      · rw [key_rr] at h; exact wpAny_eqBool_str h
  «strs» := fun k x t v h => by
    rcases keyIs_shape h with ⟨i, u, rfl, e⟩ | ⟨y, u, rfl, e⟩
    · exact nomatch e
    · injection e with e1 _
      subst e1
      cases v <;> rfl

end L2

namespace L2
open PySem PySem.Spec PyProof.Rows

/-- a value, without the heap -/
inductive V where
  | non | bl (b : Bool) | int (i : Int) | str (x : Str) | byt (b : Array UInt8) | flt (b : UInt64) | ref (a : Addr) | ty (n : String)
  deriving DecidableEq

def RelV : V → Value → Prop
  | .non, u => u = Value.none
  | .bl b, u => u = Value.bool b
  | .int i, u => ∃ t, u = Value.int i t
  | .str x, u => ∃ t, u = Value.str x t
  | .byt b, u => ∃ t, u = Value.bytes b t
  | .flt b, u => ∃ t, u = Value.float b t
  | .ref a, u => u = Value.ref a
  | .ty n, u => u = Value.type n

abbrev Vals : List V → List Value → Prop := Paired RelV
theorem Vals.length {xs : List V} {us : List Value} (r : Vals xs us) : xs.length = us.length := Paired.length r
theorem Vals.get : ∀ {xs : List V} {us : List Value} {i : Nat} {x : V}, Vals xs us → xs[i]? = some x → ∃ u, us[i]? = some u ∧ RelV x u
  | _, _, _, _, .nil, e => by simp at e
  | _, _, 0, _, .cons r _, e => by simp at e; subst e; exact ⟨_, rfl, r⟩
  | _, _, i + 1, x, .cons _ t, e => by
    obtain ⟨u, h1, h2⟩ := Vals.get (i := i) (x := x) t (by simpa using e)
    exact ⟨u, by simpa using h1, h2⟩
theorem Vals.set {x : V} {u : Value} (r : RelV x u) : ∀ {xs : List V} {us : List Value} (i : Nat), Vals xs us → Vals (xs.set i x) (us.set i u)
  | _, _, _, .nil => .nil
  | _, _, 0, .cons _ t => .cons r t
  | _, _, i + 1, .cons q t => .cons q (Vals.set r i t)
theorem Vals.append : ∀ {xs ys : List V} {us ws : List Value}, Vals xs us → Vals ys ws → Vals (xs ++ ys) (us ++ ws)
  | _, _, _, _, .nil, s => s
  | _, _, _, _, .cons r t, s => .cons r (Vals.append t s)
theorem Vals.take : ∀ {xs : List V} {us : List Value} (n : Nat), Vals xs us → Vals (xs.take n) (us.take n)
  | _, _, 0, _ => .nil
  | _, _, _ + 1, .nil => .nil
  | _, _, n + 1, .cons r t => .cons r (Vals.take n t)
theorem Vals.drop : ∀ {xs : List V} {us : List Value} (n : Nat), Vals xs us → Vals (xs.drop n) (us.drop n)
  | _, _, 0, r => r
  | _, _, _ + 1, .nil => .nil
  | _, _, n + 1, .cons _ t => Vals.drop n t
theorem Vals.none_of : ∀ {xs : List V} {us : List Value} {i : Nat}, Vals xs us → xs[i]? = none → us[i]? = none := fun {xs us i} r e => by
  have h1 := r.length
  have h2 : xs.length ≤ i := List.getElem?_eq_none_iff.mp e
  exact List.getElem?_eq_none_iff.mpr (by omega)

def RelO : Option V → Option Value → Prop
  | some v, some u => RelV v u
  | none, none => True
  | _, _ => False
def KV {κ : Type} : List (κ × V) → List (κ × Value) → Prop := Paired fun (p : κ × V) (q : κ × Value) => p.1 = q.1 ∧ RelV p.2 q.2

/-- a key of a dict (00_mix): an int or a text -/
def kV : Key → V
  | .inl i => .int i
  | .inr x => .str x

/-- what stands at a tracked address -/
inductive HO where
  /-- a list -/
  | lst (xs : List V)
  /-- a tuple (never changes) -/
  | tup (xs : List V)
  /-- a dict whose keys are ints and texts; one whose keys are tuples of ints and texts (the empty one is both) -/
  | dK (kvs : List (Key × V)) | dT (kvs : List (List Key × V))
  /-- a set of ints: its members, its size -/
  | set (S : Int → Bool) (n : Nat)
  /-- an instance of the class at C, its dict at dx, its attributes -/
  | ins (C dx : Addr) (fs : List (Str × V))
  /-- the dict of the instance at x -/
  | own (x : Addr)
  /-- the dict of an exception -/
  | xd (fs : List (Str × V))
  /-- a bound method, f of x -/
  | met (f x : Addr)
  /-- a range object lo, lo + 1, .. below hi -/
  | rng (lo hi : Int)
  /-- a thing that is known to the object (the script; a dict while a loop walks it): read, never written while it is so -/
  | frz (o : Obj) (u : HO)
  /-- a code object's table -/
  | tbl (ps : Array Value)
  /-- any other thing, by what is true of its one object (a def of one's own: SetO a S n := HO.ext fun h => ..) -/
  | ext (φ : Heap → Prop)

abbrev Hp := Addr → Option HO
def upd (H : Hp) (a : Addr) (o : HO) : Hp := fun b => if b = a then some o else H b
theorem upd_same {H : Hp} {a : Addr} {o : HO} : upd H a o a = some o := by unfold upd; rw [if_pos rfl]
theorem upd_ne {H : Hp} {a b : Addr} {o : HO} (h : b ≠ a) : upd H a o b = H b := by unfold upd; rw [if_neg h]
/-- two objects of different content stand apart -/
theorem ne_of {H : Hp} {a b : Addr} {o u : HO} (h : H a = some o) (h' : H b = some u) (d : o ≠ u) : a ≠ b := by
  intro e; subst e; rw [h] at h'; exact d (Option.some.inj h')
theorem ne_of_none {H : Hp} {a b : Addr} {o : HO} (h : H a = some o) (h' : H b = none) : a ≠ b := by
  intro e; subst e; rw [h] at h'; cases h'

section
variable (P : Program) (w : World)
def ObjOk (H : Hp) (h : Heap) (a : Addr) : HO → Prop
  | .lst xs => xs.length ≤ sizeLine ∧ ∃ (its : List Value) (n : Nat), Vals xs its ∧ h.get? a = some { cls := .type "list", data := .seq its.toArray n }
  | .tup xs => xs.length ≤ sizeLine ∧ ∃ its : List Value, Vals xs its ∧ IsTup h a its.toArray
  | .dK kvs => kvs.length ≤ sizeLine ∧ (a == sysModules) = false ∧ ∃ vs, KV kvs vs ∧ h.DictOf (mixKind P w) a vs
  | .dT kvs => kvs.length ≤ sizeLine ∧ (a == sysModules) = false ∧ ∃ xs : List (List Key × Addr × Value),
      Paired (fun (p : List Key × V) (q : List Key × Addr × Value) => p.1 = q.1 ∧ H q.2.1 = some (.tup (p.1.map kV)) ∧ RelV p.2 q.2.2) kvs xs ∧
      ∃ o es ep, h.get? a = some o ∧ o.ExactDict ∧ o.data = .dict es ep ∧ es.toList = xs.map (entryOfKey (tupleKind (mixKind P w))) ∧ (xs.map (·.1)).Nodup
  | .set S n => h.SetOf (intKind P w) a S n
  | .ins C dx fs => H dx = some (.own a) ∧ fs.length ≤ 1000 ∧ dx ≠ a ∧ h.get? a = some (PySem.W.instObj C dx) ∧
      ∃ mA, h.Ns1 dx mA ∧ (∀ f, RelO (fs.lookup f) (mA f)) ∧ PySem.Within mA (fs.map (·.1))
  | .own _ => ∃ o, h.get? a = some o
  | .xd fs => ∃ mA, h.Ns1 a mA ∧ ∀ f, RelO (fs.lookup f) (mA f)
  | .rng lo hi => ∃ t u v, h.get? a = some { cls := .type "range", data := .fields #[.int lo t, .int hi u, .int 1 v] }
  | .frz o u => h.get? a = some o ∧ ObjOk H h a u
  | .tbl ps => h.get? a = some { cls := .none, data := .fields ps }
  | .met f x => h.get? a = some (PySem.W.methodObj (.ref f) (.ref x))
  | .ext φ => φ h ∧ (∃ o, h.get? a = some o) ∧ ∀ h1 h2 : Heap, φ h1 → (∀ o, h1.get? a = some o → h2.get? a = some o) → φ h2
/-- the abstract heap is held -/
def HOk (H : Hp) (h : Heap) : Prop := ∀ a o, H a = some o → ObjOk P w H h a o
end

section
variable {P : Program} {w : World} {H H' : Hp} {h h' : Heap} {a : Addr} {o : HO}
theorem ObjOk.lt (x : ObjOk P w H h a o) : a < h.objs.size := by
  cases o with
  | lst xs => obtain ⟨_, _, _, _, e⟩ := x; exact Heap.lt_size e
  | tup xs => obtain ⟨_, _, _, p⟩ := x; exact p.lt
  | dK kvs => obtain ⟨_, _, _, _, o, _, _, e, _⟩ := x; exact Heap.lt_size e
  | dT kvs => obtain ⟨_, _, _, _, o, _, _, e, _⟩ := x; exact Heap.lt_size e
  | set S n => obtain ⟨o, _, _, _, e, _⟩ := x; exact Heap.lt_size e
  | ins C dx fs => obtain ⟨_, _, _, e, _⟩ := x; exact Heap.lt_size e
  | own y => obtain ⟨_, e⟩ := x; exact Heap.lt_size e
  | xd fs => obtain ⟨_, ⟨_, _, _, e, _⟩, _⟩ := x; exact Heap.lt_size e
  | rng lo hi => obtain ⟨_, _, _, e⟩ := x; exact Heap.lt_size e
  | frz ob u => obtain ⟨e, _⟩ := x; exact Heap.lt_size e
  | tbl ps => exact Heap.lt_size (show h.get? a = some _ from x)
  | met f y => exact Heap.lt_size (show h.get? a = some _ from x)
  | ext φ => obtain ⟨_, ⟨_, e⟩, _⟩ := x; exact Heap.lt_size e
theorem Paired.mapP {α β : Type} {F G : α → β → Prop} : ∀ {l₁ : List α} {l₂ : List β}, Paired F l₁ l₂ → (∀ a b, F a b → G a b) → Paired G l₁ l₂
  | _, _, .nil, _ => .nil
  | _, _, .cons r t, f => .cons (f _ _ r) (Paired.mapP t f)
/-- what an object's description leans on: its own object, its own dict, the tuples -/
theorem ObjOk.stay (x : ObjOk P w H h a o) (k : ∀ b u, (b = a ∨ H b = some (.own a)) → h.get? b = some u → h'.get? b = some u)
    (ho : ∀ b, H b = some (.own a) → H' b = some (.own a)) (ht : ∀ b xs, H b = some (.tup xs) → H' b = some (.tup xs)) : ObjOk P w H' h' a o := by
  induction o with
  | lst xs => obtain ⟨z, its, n, r, e⟩ := x; exact ⟨z, its, n, r, k _ _ (.inl rfl) e⟩
  | tup xs => obtain ⟨z, its, r, ob, e, c⟩ := x; exact ⟨z, its, r, ob, k _ _ (.inl rfl) e, c⟩
  | dK kvs => obtain ⟨z, y, vs, r, ob, es, ep, e, c⟩ := x; exact ⟨z, y, vs, r, ob, es, ep, k _ _ (.inl rfl) e, c⟩
  | dT kvs =>
    obtain ⟨z, y, xs, r, ob, es, ep, e, c⟩ := x
    exact ⟨z, y, xs, Paired.mapP r fun p q z => ⟨z.1, ht _ _ z.2.1, z.2.2⟩, ob, es, ep, k _ _ (.inl rfl) e, c⟩
  | set S n => obtain ⟨ob, es, ep, t, e, c⟩ := x; exact ⟨ob, es, ep, t, k _ _ (.inl rfl) e, c⟩
  | ins C dx fs =>
    obtain ⟨d, z, ne, e, mA, ⟨od, es, ep, e2, c⟩, r⟩ := x
    exact ⟨ho _ d, z, ne, k _ _ (.inl rfl) e, mA, ⟨od, es, ep, k _ _ (.inr d) e2, c⟩, r⟩
  | own y => obtain ⟨ob, e⟩ := x; exact ⟨ob, k _ _ (.inl rfl) e⟩
  | xd fs => obtain ⟨mA, ⟨od, es, ep, e, c⟩, r⟩ := x; exact ⟨mA, ⟨od, es, ep, k _ _ (.inl rfl) e, c⟩, r⟩
  | rng lo hi => obtain ⟨t, u, v, e⟩ := x; exact ⟨t, u, v, k _ _ (.inl rfl) e⟩
  | frz ob u ih => obtain ⟨e, q⟩ := x; exact ⟨k _ _ (.inl rfl) e, ih q⟩
  | tbl ps =>
    have e : h.get? a = some { cls := .none, data := .fields ps } := x
    show h'.get? a = some { cls := .none, data := .fields ps }
    exact k a _ (.inl rfl) e
  | met f y =>
    have e : h.get? a = some (PySem.W.methodObj (.ref f) (.ref y)) := x
    show h'.get? a = some (PySem.W.methodObj (.ref f) (.ref y))
    exact k a _ (.inl rfl) e
  | ext φ => obtain ⟨p, ⟨o, e⟩, st⟩ := x; exact ⟨st _ _ p fun o q => k _ _ (.inl rfl) q, ⟨o, k _ _ (.inl rfl) e⟩, st⟩
theorem HOk.lt (x : HOk P w H h) (e : H a = some o) : a < h.objs.size := (x a o e).lt
theorem HOk.fresh (x : HOk P w H h) (e : h.objs.size ≤ a) : H a = none := by
  cases q : H a with
  | none => rfl
  | some u => exact absurd (Nat.lt_of_lt_of_le (x.lt q) e) (Nat.lt_irrefl _)
/-- every object of the heap is kept -/
theorem HOk.kept (x : HOk P w H h) (k : ∀ b u, h.get? b = some u → h'.get? b = some u) : HOk P w H h' := fun a o e =>
  (x a o e).stay (fun b u _ q => k b u q) (fun _ q => q) fun _ _ q => q
/-- a new object is laid and tracked -/
theorem HOk.laid (x : HOk P w H h) (k : ∀ b u, h.get? b = some u → h'.get? b = some u) (hp : h.objs.size ≤ a) (new : ObjOk P w (upd H a o) h' a o) : HOk P w (upd H a o) h' := fun b u e => by
  have hn := x.fresh hp
  by_cases hb : b = a
  · subst hb; rw [upd_same] at e; cases e; exact new
  · rw [upd_ne hb] at e
    exact (x b u e).stay (fun c v _ q => k c v q) (fun c q => by rw [upd_ne (ne_of_none q hn)]; exact q) fun c xs q => by rw [upd_ne (ne_of_none q hn)]; exact q
end

/-- what may be read as u: it is u, or a known u -/
def Rd (H : Hp) (a : Addr) (u : HO) : Prop := H a = some u ∨ ∃ o, H a = some (.frz o u)
theorem Rd.of {H : Hp} {a : Addr} {u : HO} (h : H a = some u) : Rd H a u := .inl h
theorem Rd.ok {P : Program} {w : World} {H : Hp} {h : Heap} {a : Addr} {u : HO} (r : Rd H a u) (x : HOk P w H h) : ObjOk P w H h a u := by
  rcases r with r | ⟨o, r⟩
  · exact x a u r
  · obtain ⟨_, q⟩ := x a _ r
    exact q
/-- what may be written -/
def Mut : Option HO → Prop
  | some (.lst _) => True
  | some (.dK _) => True
  | some (.dT _) => True
  | some (.set _ _) => True
  | some (.ins _ _ _) => True
  | some (.ext _) => True
  | _ => False
section
variable {P : Program} {w : World} {H : Hp} {h h' : Heap} {x e : Addr} {o' : HO}
/-- the object at e is changed: x itself, or the dict of the instance x -/
theorem HOk.write (ok : HOk P w H h) (mu : Mut (H x)) (he : e = x ∨ H e = some (.own x)) (k : ∀ b u, b ≠ e → h.get? b = some u → h'.get? b = some u) (heo : ∃ u, h'.get? e = some u)
    (new : ObjOk P w (upd H x o') h' x o') : HOk P w (upd H x o') h' := fun b u q => by
  have nown : ∀ c y, H c = some (.own y) → c ≠ x := fun c y r z => by subst z; rw [r] at mu; exact mu
  have ntup : ∀ c xs, H c = some (.tup xs) → c ≠ x := fun c xs r z => by subst z; rw [r] at mu; exact mu
  by_cases hb : b = x
  · subst hb; rw [upd_same] at q; cases q; exact new
  · rw [upd_ne hb] at q
    by_cases hbe : b = e
    · have q' : H b = some (.own x) := by
        rcases he with z | z
        · exact absurd (hbe.trans z) hb
        · rw [hbe]; exact z
      rw [q] at q'; cases q'
      obtain ⟨v, hv⟩ := heo
      exact ⟨v, by rw [hbe]; exact hv⟩
    · refine (ok b u q).stay (fun c v hc r => k c v ?_ r) (fun c r => by rw [upd_ne (nown c b r)]; exact r) fun c xs r => by rw [upd_ne (ntup c xs r)]; exact r
      rcases hc with rfl | hc
      · exact hbe
      · rintro rfl
        rcases he with z | z
        · exact nown c b hc z
        · rw [hc] at z; cases z; exact hb rfl
end

/-! ### kept unless tracked; of the frames at fs (the callers') the slots may change (an exception that passes writes there); of the records at ex (iterators) nothing is said -/
structure Un (fs ex : List Addr) (H H' : Hp) (h h' : Heap) : Prop where
  keep : ∀ b o, h.get? b = some o → H b = none → b ∉ fs → b ∉ ex → h'.get? b = some o
  slot : ∀ b o, h.get? b = some o → H b = none → b ∈ fs → b ∉ ex → ∃ sl, h'.get? b = some { o with slots := sl }
  free : ∀ b o, h.get? b = some o → H b = none → b ∉ ex → H' b = none
  there : ∀ b o, h.get? b = some o → b ∉ ex → ∃ o', h'.get? b = some o'
  tups : ∀ b xs, H b = some (.tup xs) → H' b = some (.tup xs)
  frzs : ∀ b o u, H b = some (.frz o u) → H' b = some (.frz o u)
  tbls : ∀ b ps, H b = some (.tbl ps) → ∃ more, H' b = some (.tbl (ps ++ more))
section
variable {fs fs' ex ex' : List Addr} {H H1 H2 : Hp} {h h1 h2 h' : Heap} {a x e : Addr} {o : HO}
theorem Un.any (u : Un fs ex H H1 h h1) {b : Addr} {ob : Obj} (q : h.get? b = some ob) (n : H b = none) (hx : b ∉ ex) : ∃ sl, h1.get? b = some { ob with slots := sl } := by
  by_cases hb : b ∈ fs
  · exact u.slot b ob q n hb hx
  · exact ⟨ob.slots, u.keep b ob q n hb hx⟩
theorem Un.trans (a : Un fs ex H H1 h h1) (b : Un fs ex H1 H2 h1 h2) : Un fs ex H H2 h h2 where
  keep := fun c ob q n hc hx => b.keep c ob (a.keep c ob q n hc hx) (a.free c ob q n hx) hc hx
  slot := fun c ob q n hc hx => by
    obtain ⟨sl, e1⟩ := a.slot c ob q n hc hx
    obtain ⟨sl', e2⟩ := b.slot c _ e1 (a.free c ob q n hx) hc hx
    exact ⟨sl', e2⟩
  free := fun c ob q n hx => by
    obtain ⟨o', e1⟩ := a.there c ob q hx
    exact b.free c o' e1 (a.free c ob q n hx) hx
  there := fun c ob q hx => by
    obtain ⟨o', e1⟩ := a.there c ob q hx
    exact b.there c o' e1 hx
  tups := fun c xs q => b.tups c xs (a.tups c xs q)
  frzs := fun c ob xs q => b.frzs c ob xs (a.frzs c ob xs q)
  tbls := fun c ps q => by
    obtain ⟨m1, e1⟩ := a.tbls c ps q
    obtain ⟨m2, e2⟩ := b.tbls c _ e1
    exact ⟨m1 ++ m2, by rw [e2, Array.append_assoc]⟩
theorem Un.kept (k : ∀ b u, h.get? b = some u → h'.get? b = some u) : Un fs ex H H h h' :=
  ⟨fun b ob q _ _ _ => k b ob q, fun b ob q _ _ _ => ⟨ob.slots, k b ob q⟩, fun _ _ _ n _ => n, fun b ob q _ => ⟨ob, k b ob q⟩, fun _ _ q => q, fun _ _ _ q => q, fun _ ps q => ⟨#[], by rw [q]; simp⟩⟩
theorem Un.refl : Un fs ex H H h h := Un.kept fun _ _ q => q
theorem Un.laid (k : ∀ b u, h.get? b = some u → h'.get? b = some u) (hp : h.objs.size ≤ a) (hn : H a = none) : Un fs ex H (upd H a o) h h' where
  keep := fun b u q _ _ _ => k b u q
  slot := fun b u q _ _ _ => ⟨u.slots, k b u q⟩
  free := fun b u q n _ => by rw [upd_ne (Nat.ne_of_lt (Nat.lt_of_lt_of_le (Heap.lt_size q) hp))]; exact n
  there := fun b u q _ => ⟨u, k b u q⟩
  tups := fun b xs q => by rw [upd_ne (ne_of_none q hn)]; exact q
  frzs := fun b u xs q => by rw [upd_ne (ne_of_none q hn)]; exact q
  tbls := fun b ps q => ⟨#[], by rw [upd_ne (ne_of_none q hn), q]; simp⟩
theorem Un.write (mu : Mut (H x)) (he : e = x ∨ H e = some (.own x)) (k : ∀ b u, b ≠ e → h.get? b = some u → h'.get? b = some u) (heo : ∃ u, h'.get? e = some u) : Un fs ex H (upd H x o) h h' := by
  have hx : ∀ b, H b = none → b ≠ x := fun b n z => by subst z; rw [n] at mu; exact mu
  have hb : ∀ b, H b = none → b ≠ e := fun b n z => by
    subst z
    rcases he with r | r
    · exact hx b n r
    · rw [n] at r; cases r
  have hm : ∀ b u, H b = some u → ¬ Mut (some u) → b ≠ x := fun b u q nm z => by subst z; rw [q] at mu; exact nm mu
  refine ⟨fun b u q n _ _ => k b u (hb b n) q, fun b u q n _ _ => ⟨u.slots, k b u (hb b n) q⟩, fun b u q n _ => by rw [upd_ne (hx b n)]; exact n, fun b u q _ => ?_,
    fun b xs q => by rw [upd_ne (hm b _ q fun z => z)]; exact q, fun b u xs q => by rw [upd_ne (hm b _ q fun z => z)]; exact q, fun b ps q => ⟨#[], by rw [upd_ne (hm b _ q fun z => z), q]; simp⟩⟩
  by_cases hbe : b = e
  · subst hbe; exact heo
  · exact ⟨u, k b u hbe q⟩
theorem Un.mono (u : Un fs ex H H1 h h1) (hs : ∀ b ∈ fs, b ∈ fs') (hx : ∀ b ∈ ex, b ∈ ex') : Un fs' ex' H H1 h h1 :=
  ⟨fun b ob q n hb he => u.keep b ob q n (fun z => hb (hs b z)) fun z => he (hx b z), fun _ _ q n _ he => u.any q n fun z => he (hx _ z), fun b ob q n he => u.free b ob q n fun z => he (hx b z), fun b ob q he => u.there b ob q fun z => he (hx b z), u.tups, u.frzs, u.tbls⟩
end

/-! ### the heap without what is tracked -/
def trk (h : Heap) (H : Hp) : List Addr := (List.range h.objs.size).filter fun a => (H a).isSome
def hidT (h : Heap) (H : Hp) : Heap := PySem.W.hideAll h (trk h H)
theorem hidT_size (h : Heap) (H : Hp) : (hidT h H).objs.size = h.objs.size := PySem.W.hideAll_size _ _
theorem hidT_get {h : Heap} {H : Hp} {b : Addr} {o : Obj} (e : h.get? b = some o) (n : H b = none) : (hidT h H).get? b = some o :=
  PySem.W.hideAll_get _ e fun hm => by
    have q : (H b).isSome = true := (List.mem_filter.mp hm).2
    rw [n] at q; simp at q
theorem of_hidT {h : Heap} {H : Hp} {b : Addr} {o : Obj} (e : (hidT h H).get? b = some o) : h.get? b = some o ∧ H b = none := by
  have e' : h.get? b = some o := PySem.W.of_hideAll (trk h H) e
  refine ⟨e', ?_⟩
  cases q : H b with
  | none => rfl
  | some x =>
    have hm : b ∈ trk h H := List.mem_filter.mpr ⟨List.mem_range.mpr (Heap.lt_size e'), by simp [q]⟩
    have z : (hidT h H).get? b = none := PySem.W.hideAll_none (trk h H) hm
    rw [z] at e; cases e

/-! ### OpenK's ledger, filled with every new object but one -/
def allNews (g h : Heap) (L : Addr) : List (Addr × Obj) := (List.range h.objs.size).filterMap fun a => if a = L ∨ (g.get? a).isSome = true then none else (h.get? a).map fun o => (a, o)
def rest (g h : Heap) (L d : Addr) : List (Addr × Obj) := (allNews g h L).filter fun p => decide (p.1 ≠ d)
end L2

namespace L2
open PySem PySem.Spec PyProof.Rows

/-- the module's facts, over the base: the heap at the law's entry without what is tracked there -/
structure Mod (K : PySem.W.Frag) (mg : Str → Option Value) (base : Heap) : Prop where
  kin : K.In base
  glob : base.Ns mainGlobals mg
  blt : ∃ mb, base.Ns builtinsNs mb ∧ ∀ x : Str, x ≠ "__name__" → mb x = bootBuiltins x
  nolimit : base.NoLimit

/-- the context: a def's body (or a comprehension's block) running. base: fixed through the whole law; s₀, H₀: the entry; outer: the frames whose slots others may change (a def's callers); stack: all frames that run;
   ex: iterators that were made ahead of the entry and are walked here (a comprehension's); fn: the names whose cells were made at the entry (a def: all; a comprehension's block: its own); calm: not within an except suite; pn: pins that every state bears; xe: what is wanted of an exception that leaves the code -/
structure Cx where
  prog : Program
  w : World
  K : PySem.W.Frag
  mg : Str → Option Value
  base : Heap
  A : Around
  N : List Str
  s₀ : Shared
  H₀ : Hp
  env : Env
  outer : List Env
  stack : List Env
  ex : List Addr
  fn : Str → Bool
  calm : Bool
  pn : List (Addr × Obj)
  xe : Value → Shared → Prop
/-- an error in hand is known, and none stands behind it -/
def Qt (A : Around) (H : Hp) : Prop := A.handled = none ∨ ∃ a o vs, A.handled = some (.ref a) ∧ H a = some (.frz o (.own a)) ∧ o.data = .fields vs ∧ vs[2]? = some Value.none
/-- the callers' frames -/
def frs (l : List Env) : List Addr := l.filterMap (·.frame)
abbrev Cx.fs (X : Cx) : List Addr := frs X.outer

def Vis (sc : Scope) (x : Str) : Prop := sc.names.lookup x = some .local ∨ sc.names.lookup x = some .cell ∨ sc.names.lookup x = some .free
def Loc (sc : Scope) (x : Str) : Prop := sc.names.lookup x = some .local ∨ sc.names.lookup x = some .cell
def Look (env : Env) (h : Heap) (m : Str → Option Value) (x : Str) (u : Value) : Prop :=
  (env.kindOf x = some .local ∧ m x = some u) ∨ ((env.kindOf x = some .cell ∨ env.kindOf x = some .free) ∧ ∃ c, env.cells.lookup x = some c ∧ h.IsCell c (some u))

structure Cx.Ok (X : Cx) : Prop where
  mod : Mod X.K X.mg X.base
  kind : X.env.scope.kind = .function
  glob : X.env.globals = mainGlobals
  blt : X.env.builtins = builtinsNs
  above : X.s₀.heap.objs.size ≤ X.env.locals
  inj : ∀ x y c, X.env.cells.lookup x = some c → X.env.cells.lookup y = some c → x = y
  has : ∀ x, (X.env.kindOf x = some .cell ∨ X.env.kindOf x = some .free) → ∃ c, X.env.cells.lookup x = some c
  cab : ∀ x c, X.fn x = true → X.env.cells.lookup x = some c → X.s₀.heap.objs.size ≤ c
  hd : Qt X.A X.H₀
  frames : X.A.frames = some X.stack
  stk : X.stack = X.outer ∨ (X.stack = X.env :: X.outer ∧ X.env.frame = some X.env.locals)
  exf : ∀ b ∈ X.ex, b ≠ X.env.locals ∧ ∀ x c, X.env.cells.lookup x = some c → c ≠ b
  bs : ∀ b o, X.base.get? b = some o → X.s₀.heap.get? b = some o ∧ X.H₀ b = none
  bsz : X.base.objs.size ≤ X.s₀.heap.objs.size
  noex : ∀ b o, X.base.get? b = some o → b ∉ X.ex
  exfs : ∀ b ∈ X.ex, b ∉ X.fs
  funs : X.s₀.heap.FunFrames X.base X.outer
  frf : ∀ b ∈ X.fs, X.H₀ b = none

structure Inv (X : Cx) (pins : List (Addr × Obj)) (σ : List (Option V)) (H : Hp) (s : Shared) : Prop where
  ok : X.Ok
  os : s.os = X.s₀.os
  bare : AllBare s.gens
  base : Un X.fs X.ex X.H₀ H X.s₀.heap s.heap
  loc : ∃ m, s.heap.Ns X.env.locals m ∧ ∀ (i : Nat) (x : Str) (v : V), X.N[i]? = some x → σ[i]? = some (some v) → Vis X.env.scope x → ∃ u, RelV v u ∧ Look X.env s.heap m x u
  cell : ∀ x c, X.env.cells.lookup x = some c → ∃ v, s.heap.IsCell c v
  free : H X.env.locals = none
  freeC : ∀ x c, X.env.cells.lookup x = some c → H c = none
  pin : ∀ p ∈ X.pn ++ pins, s.heap.get? p.1 = some p.2 ∧ H p.1 = none ∧ p.1 ≠ X.env.locals ∧ p.1 ∉ X.fs ∧ ∀ v, p.2.data ≠ .cell v
  hok : HOk X.prog X.w H s.heap
  len : σ.length = X.N.length

section
variable {X : Cx} {pins : List (Addr × Obj)} {σ : List (Option V)} {H H' : Hp} {s : Shared} {h' : Heap}

theorem Cx.Ok.nofr (ok : X.Ok) {b : Addr} {o : Obj} (e : X.base.get? b = some o) : b ∉ X.fs := fun hb => by
  have := (ok.funs.mem hb).1
  rw [e] at this; cases this
theorem Inv.bs (I : Inv X pins σ H s) : ∀ b o, X.base.get? b = some o → s.heap.get? b = some o ∧ H b = none := fun b o e =>
  ⟨I.base.keep b o (I.ok.bs b o e).1 (I.ok.bs b o e).2 (I.ok.nofr e) (I.ok.noex b o e), I.base.free b o (I.ok.bs b o e).1 (I.ok.bs b o e).2 (I.ok.noex b o e)⟩
theorem Inv.bk (I : Inv X pins σ H s) : ∀ b o, X.base.get? b = some o → s.heap.get? b = some o := fun b o e => (I.bs b o e).1
theorem Inv.mod (I : Inv X pins σ H s) : Mod X.K X.mg X.base := I.ok.mod
theorem Inv.qt (I : Inv X pins σ H s) : Qt X.A H := by
  rcases I.ok.hd with q | ⟨a, o, vs, e, f, r⟩
  · exact .inl q
  · exact .inr ⟨a, o, vs, e, I.base.frzs _ _ _ f, r⟩
theorem Inv.hq (I : Inv X pins σ H s) : QQ.Hq X.A s.heap := by
  rcases I.qt with q | ⟨a, o, vs, e, f, r⟩
  · exact .inl q
  · obtain ⟨g, _⟩ := I.hok a _ f
    exact .inr ⟨a, o, vs, e, g, r⟩
theorem Inv.kIn (I : Inv X pins σ H s) : X.K.In s.heap := I.ok.mod.kin.keeps I.bk
theorem Inv.nolimit (I : Inv X pins σ H s) : s.heap.NoLimit := I.ok.mod.nolimit.keeps I.bk
/-- the frame over the base: for OpenK's rules (K.In X.base is I.mod.kin) -/
theorem Inv.fr (I : Inv X pins σ H s) : ∃ m, Fr X.base X.env.locals s.heap m :=
  let ⟨m, hn, _⟩ := I.loc
  ⟨m, hn, I.bk, Nat.le_trans I.ok.bsz I.ok.above⟩
theorem Inv.lt (I : Inv X pins σ H s) : X.env.locals < s.heap.objs.size := let ⟨_, hn, _⟩ := I.loc; hn.lt
theorem Inv.sz (I : Inv X pins σ H s) : X.s₀.heap.objs.size ≤ s.heap.objs.size := Nat.le_trans I.ok.above (Nat.le_of_lt I.lt)
theorem Inv.nofs (I : Inv X pins σ H s) {a : Addr} (h : s.heap.objs.size ≤ a) : a ∉ X.fs := fun hb => by
  obtain ⟨_, o, ho, _⟩ := I.ok.funs.mem hb
  exact absurd (Nat.lt_of_lt_of_le (Heap.lt_size ho) (Nat.le_trans I.sz h)) (Nat.lt_irrefl _)
theorem Inv.cne (I : Inv X pins σ H s) : ∀ x c, X.env.cells.lookup x = some c → c ≠ X.env.locals := fun x c e z => by
  obtain ⟨v, o, ho, hd⟩ := I.cell x c e
  obtain ⟨m, ⟨o', es, ep, ho', hd', _⟩, _⟩ := I.loc
  rw [z, ho'] at ho; cases ho; rw [hd'] at hd; cases hd
theorem Inv.funs (I : Inv X pins σ H s) : s.heap.FunFrames X.base X.outer := by
  have all : ∀ (l : List Env), (∀ b ∈ frs l, b ∈ X.fs) → X.s₀.heap.FunFrames X.base l → s.heap.FunFrames X.base l := by
    intro l
    induction l with
    | nil => intro _ _; trivial
    | cons env r ih =>
      intro hs hl
      obtain ⟨hk, ⟨L, o, hf, hn, ho, hd⟩, hr⟩ := hl
      have hL : L ∈ X.fs := hs L (by unfold frs; rw [List.filterMap_cons, hf]; exact List.mem_cons_self)
      obtain ⟨sl, e⟩ := I.base.slot L o ho (I.ok.frf L hL) hL fun z => I.ok.exfs L z hL
      exact ⟨hk, ⟨L, _, hf, hn, e, hd⟩, ih (fun b hb => hs b (by unfold frs; rw [List.filterMap_cons, hf]; exact List.mem_cons_of_mem _ hb)) hr⟩
  exact all X.outer (fun _ hb => hb) I.ok.funs

/-- the frames that run, for a call -/
theorem Inv.stack (I : Inv X pins σ H s) : s.heap.FunFrames X.base X.stack := by
  rcases I.ok.stk with e | ⟨e, hf⟩
  · rw [e]; exact I.funs
  · rw [e]
    obtain ⟨m, hn, _⟩ := I.loc
    refine .cons (by rw [I.ok.kind]; decide) hf hn ?_ I.funs
    exact Heap.get?_none_of_le (Nat.le_trans I.ok.bsz I.ok.above)
theorem Inv.stkSub (I : Inv X pins σ H s) : ∀ b ∈ frs X.stack, b ∈ X.env.locals :: X.fs := fun b hb => by
  rcases I.ok.stk with e | ⟨e, hf⟩
  · rw [e] at hb; exact List.mem_cons_of_mem _ hb
  · rw [e] at hb
    unfold frs at hb
    rw [List.filterMap_cons, hf] at hb
    exact hb
theorem Inv.stkFree (I : Inv X pins σ H s) : ∀ b ∈ frs X.stack, H b = none := fun b hb => by
  rcases List.mem_cons.mp (I.stkSub b hb) with e | hb
  · rw [e]; exact I.free
  · obtain ⟨_, o, ho, _⟩ := I.ok.funs.mem hb
    exact I.base.free b o ho (I.ok.frf b hb) fun z => I.ok.exfs b z hb

/-- THE STEP: the untracked objects but the frame and the records at ch are kept (the callers' frames up to slots), the frame's map is kept, the new abstract heap is held -/
theorem Inv.step {g' : Array GenState} {t' : Nat} {d' : Drawn} {ch : List Addr} (I : Inv X pins σ H s)
    (hch : ∀ b ∈ ch, (b ∈ X.ex ∨ X.s₀.heap.objs.size ≤ b) ∧ b ≠ X.env.locals ∧ (∀ x c, X.env.cells.lookup x = some c → c ≠ b) ∧ ∀ p ∈ X.pn ++ pins, p.1 ≠ b)
    (keep : ∀ b o, b ≠ X.env.locals → b ∉ X.fs → b ∉ ch → s.heap.get? b = some o → H b = none → h'.get? b = some o)
    (slot : ∀ b o, b ≠ X.env.locals → b ∈ X.fs → b ∉ ch → s.heap.get? b = some o → H b = none → ∃ sl, h'.get? b = some { o with slots := sl }) (free : ∀ b o, b ∉ ch → s.heap.get? b = some o → H b = none → H' b = none)
    (there : ∀ b o, b ∉ ch → s.heap.get? b = some o → ∃ o', h'.get? b = some o')
    (tups : ∀ b xs, H b = some (.tup xs) → H' b = some (.tup xs)) (frzs : ∀ b o u, H b = some (.frz o u) → H' b = some (.frz o u)) (tbls : ∀ b ps, H b = some (.tbl ps) → ∃ more, H' b = some (.tbl (ps ++ more)))
    (ns : ∀ m, s.heap.Ns X.env.locals m → h'.Ns X.env.locals m) (hok : HOk X.prog X.w H' h') (hg : AllBare g') :
    Inv X pins σ H' { s with heap := h', gens := g', drawn := d', toks := t' } := by
  have neL : ∀ b o, X.s₀.heap.get? b = some o → b ≠ X.env.locals := fun b o e => Nat.ne_of_lt (Nat.lt_of_lt_of_le (Heap.lt_size e) I.ok.above)
  have neC : ∀ b o, X.s₀.heap.get? b = some o → b ∉ X.ex → b ∉ ch := fun b o e hx hb => by
    rcases (hch b hb).1 with z | z
    · exact hx z
    · exact absurd (Nat.lt_of_lt_of_le (Heap.lt_size e) z) (Nat.lt_irrefl _)
  have cellK : ∀ x c, X.env.cells.lookup x = some c → ∀ v, s.heap.IsCell c v → h'.IsCell c v := fun x c e v ⟨o, ho, hd⟩ => by
    have nch : c ∉ ch := fun z => (hch c z).2.2.1 x c e rfl
    by_cases hc : c ∈ X.fs
    · obtain ⟨sl, q⟩ := slot c o (I.cne x c e) hc nch ho (I.freeC x c e)
      exact ⟨_, q, hd⟩
    · exact ⟨o, keep c o (I.cne x c e) hc nch ho (I.freeC x c e), hd⟩
  refine ⟨I.ok, I.os, hg, ⟨fun b o e n hb hx => ?_, fun b o e n hb hx => ?_, fun b o e n hx => ?_, fun b o e hx => ?_, fun b xs e => tups b xs (I.base.tups b xs e), fun b o xs e => frzs b o xs (I.base.frzs b o xs e), fun b ps e => ?_⟩, ?_, fun x c e => ?_, ?_, fun x c e => ?_, fun p hp => ?_, hok, I.len⟩
  · exact keep b o (neL b o e) hb (neC b o e hx) (I.base.keep b o e n hb hx) (I.base.free b o e n hx)
  · obtain ⟨sl, e1⟩ := I.base.slot b o e n hb hx
    obtain ⟨sl', e2⟩ := slot b _ (neL b o e) hb (neC b o e hx) e1 (I.base.free b o e n hx)
    exact ⟨sl', e2⟩
  · obtain ⟨o', e1⟩ := I.base.there b o e hx
    exact free b o' (neC b o e hx) e1 (I.base.free b o e n hx)
  · obtain ⟨o', e1⟩ := I.base.there b o e hx
    exact there b o' (neC b o e hx) e1
  · obtain ⟨m1, e1⟩ := I.base.tbls b ps e
    obtain ⟨m2, e2⟩ := tbls b _ e1
    exact ⟨m1 ++ m2, by rw [e2, Array.append_assoc]⟩
  · obtain ⟨m, hn, hl⟩ := I.loc
    refine ⟨m, ns m hn, fun i x v e1 e2 e3 => ?_⟩
    obtain ⟨u, r, l⟩ := hl i x v e1 e2 e3
    refine ⟨u, r, ?_⟩
    rcases l with l | ⟨k, c, e, z⟩
    · exact .inl l
    · exact .inr ⟨k, c, e, cellK x c e _ z⟩
  · obtain ⟨v, z⟩ := I.cell x c e
    exact ⟨v, cellK x c e v z⟩
  · obtain ⟨m, ⟨o, _, _, ho, _⟩, _⟩ := I.loc
    exact free _ o (fun z => (hch _ z).2.1 rfl) ho I.free
  · obtain ⟨v, o, ho, hd⟩ := I.cell x c e
    exact free c o (fun z => (hch c z).2.2.1 x c e rfl) ho (I.freeC x c e)
  · obtain ⟨e, n, ne, nf, d⟩ := I.pin p hp
    have nch : p.1 ∉ ch := fun z => (hch p.1 z).2.2.2 p hp rfl
    exact ⟨keep p.1 p.2 ne nf nch e n, free p.1 p.2 nch e n, ne, nf, d⟩
theorem Inv.step0 {g' : Array GenState} {t' : Nat} {d' : Drawn} {ch : List Addr} (I : Inv X pins σ H s)
    (hch : ∀ b ∈ ch, (b ∈ X.ex ∨ X.s₀.heap.get? b = none) ∧ b ≠ X.env.locals ∧ (∀ x c, X.env.cells.lookup x = some c → c ≠ b) ∧ ∀ p ∈ X.pn ++ pins, p.1 ≠ b)
    (keep : ∀ b o, b ≠ X.env.locals → b ∉ X.fs → b ∉ ch → s.heap.get? b = some o → H b = none → h'.get? b = some o)
    (slot : ∀ b o, b ≠ X.env.locals → b ∈ X.fs → b ∉ ch → s.heap.get? b = some o → H b = none → ∃ sl, h'.get? b = some { o with slots := sl }) (free : ∀ b o, b ∉ ch → s.heap.get? b = some o → H b = none → H' b = none)
    (there : ∀ b o, b ∉ ch → s.heap.get? b = some o → ∃ o', h'.get? b = some o')
    (tups : ∀ b xs, H b = some (.tup xs) → H' b = some (.tup xs)) (frzs : ∀ b o u, H b = some (.frz o u) → H' b = some (.frz o u)) (tbls : ∀ b ps, H b = some (.tbl ps) → ∃ more, H' b = some (.tbl (ps ++ more)))
    (ns : ∀ m, s.heap.Ns X.env.locals m → h'.Ns X.env.locals m) (hok : HOk X.prog X.w H' h') (hg : AllBare g') :
    Inv X pins σ H' { s with heap := h', gens := g', drawn := d', toks := t' } := by
  have neL : ∀ b o, X.s₀.heap.get? b = some o → b ≠ X.env.locals := fun b o e => Nat.ne_of_lt (Nat.lt_of_lt_of_le (Heap.lt_size e) I.ok.above)
  have neC : ∀ b o, X.s₀.heap.get? b = some o → b ∉ X.ex → b ∉ ch := fun b o e hx hb => by
    rcases (hch b hb).1 with z | z
    · exact hx z
    · rw [e] at z; cases z
  have cellK : ∀ x c, X.env.cells.lookup x = some c → ∀ v, s.heap.IsCell c v → h'.IsCell c v := fun x c e v ⟨o, ho, hd⟩ => by
    have nch : c ∉ ch := fun z => (hch c z).2.2.1 x c e rfl
    by_cases hc : c ∈ X.fs
    · obtain ⟨sl, q⟩ := slot c o (I.cne x c e) hc nch ho (I.freeC x c e)
      exact ⟨_, q, hd⟩
    · exact ⟨o, keep c o (I.cne x c e) hc nch ho (I.freeC x c e), hd⟩
  refine ⟨I.ok, I.os, hg, ⟨fun b o e n hb hx => ?_, fun b o e n hb hx => ?_, fun b o e n hx => ?_, fun b o e hx => ?_, fun b xs e => tups b xs (I.base.tups b xs e), fun b o xs e => frzs b o xs (I.base.frzs b o xs e), fun b ps e => ?_⟩, ?_, fun x c e => ?_, ?_, fun x c e => ?_, fun p hp => ?_, hok, I.len⟩
  · exact keep b o (neL b o e) hb (neC b o e hx) (I.base.keep b o e n hb hx) (I.base.free b o e n hx)
  · obtain ⟨sl, e1⟩ := I.base.slot b o e n hb hx
    obtain ⟨sl', e2⟩ := slot b _ (neL b o e) hb (neC b o e hx) e1 (I.base.free b o e n hx)
    exact ⟨sl', e2⟩
  · obtain ⟨o', e1⟩ := I.base.there b o e hx
    exact free b o' (neC b o e hx) e1 (I.base.free b o e n hx)
  · obtain ⟨o', e1⟩ := I.base.there b o e hx
    exact there b o' (neC b o e hx) e1
  · obtain ⟨m1, e1⟩ := I.base.tbls b ps e
    obtain ⟨m2, e2⟩ := tbls b _ e1
    exact ⟨m1 ++ m2, by rw [e2, Array.append_assoc]⟩
  · obtain ⟨m, hn, hl⟩ := I.loc
    refine ⟨m, ns m hn, fun i x v e1 e2 e3 => ?_⟩
    obtain ⟨u, r, l⟩ := hl i x v e1 e2 e3
    refine ⟨u, r, ?_⟩
    rcases l with l | ⟨k, c, e, z⟩
    · exact .inl l
    · exact .inr ⟨k, c, e, cellK x c e _ z⟩
  · obtain ⟨v, z⟩ := I.cell x c e
    exact ⟨v, cellK x c e v z⟩
  · obtain ⟨m, ⟨o, _, _, ho, _⟩, _⟩ := I.loc
    exact free _ o (fun z => (hch _ z).2.1 rfl) ho I.free
  · obtain ⟨v, o, ho, hd⟩ := I.cell x c e
    exact free c o (fun z => (hch c z).2.2.1 x c e rfl) ho (I.freeC x c e)
  · obtain ⟨e, n, ne, nf, d⟩ := I.pin p hp
    have nch : p.1 ∉ ch := fun z => (hch p.1 z).2.2.2 p hp rfl
    exact ⟨keep p.1 p.2 ne nf nch e n, free p.1 p.2 nch e n, ne, nf, d⟩
/-- .. where the frame's own object is kept too -/
theorem Inv.un {t' : Nat} (I : Inv X pins σ H s) (u : Un X.fs [] H H' s.heap h') (hok : HOk X.prog X.w H' h') : Inv X pins σ H' { s with heap := h', toks := t' } := by
  obtain ⟨m, ⟨o, es, ep, ho, r⟩, _⟩ := id I.loc
  obtain ⟨sl, hL⟩ := u.any ho I.free (by simp)
  exact I.step (g' := s.gens) (d' := s.drawn) (ch := []) (fun _ z => nomatch z) (fun b o _ hb _ e n => u.keep b o e n hb (by simp)) (fun b o _ hb _ e n => u.slot b o e n hb (by simp)) (fun b o _ e n => u.free b o e n (by simp)) (fun b o _ e => u.there b o e (by simp)) u.tups u.frzs u.tbls (fun m' hm => by
    obtain ⟨o', es', ep', ho', r'⟩ := hm
    rw [ho] at ho'; cases ho'
    exact ⟨_, es', ep', hL, r'⟩) hok I.bare
/-- behind a call (or a comprehension's block): the slots of this frame may have changed too, the records at ch may have turned -/
theorem Inv.call {g' : Array GenState} {t' : Nat} {d' : Drawn} {ch : List Addr} (I : Inv X pins σ H s) (u : Un (frs X.stack) ch H H' s.heap h') (hok : HOk X.prog X.w H' h') (hg : AllBare g')
    (hch : ∀ b ∈ ch, (b ∈ X.ex ∨ X.s₀.heap.objs.size ≤ b) ∧ b ≠ X.env.locals ∧ (∀ x c, X.env.cells.lookup x = some c → c ≠ b) ∧ ∀ p ∈ X.pn ++ pins, p.1 ≠ b) :
    Inv X pins σ H' { s with heap := h', gens := g', drawn := d', toks := t' } := by
  obtain ⟨m, ⟨o, es, ep, ho, r⟩, _⟩ := id I.loc
  obtain ⟨sl, hL⟩ := u.any ho I.free fun z => (hch _ z).2.1 rfl
  exact I.step (ch := ch) hch (fun b o hL hb hc e n => u.keep b o e n (fun z => (List.mem_cons.mp (I.stkSub b z)).elim hL hb) hc) (fun b o _ _ hc e n => u.any e n hc) (fun b o hc e n => u.free b o e n hc) (fun b o hc e => u.there b o e hc) u.tups u.frzs u.tbls (fun m' hm => by
    obtain ⟨o', es', ep', ho', r'⟩ := hm
    rw [ho] at ho'; cases ho'
    exact ⟨_, es', ep', hL, r'⟩) hok hg
/-- an untracked record of ours (an iterator) has turned -/
theorem Inv.turned {t' : Nat} {it : Addr} (I : Inv X pins σ H s) (k : ∀ b o, b ≠ it → s.heap.get? b = some o → h'.get? b = some o) (hn : H it = none) (hL : it ≠ X.env.locals)
    (h1 : it ∈ X.ex ∨ X.s₀.heap.objs.size ≤ it) (h2 : ∀ x c, X.env.cells.lookup x = some c → c ≠ it) (h3 : ∀ p ∈ X.pn ++ pins, p.1 ≠ it) : Inv X pins σ H { s with heap := h', toks := t' } := by
  have nit : ∀ b u, H b = some u → b ≠ it := fun b u e z => by rw [z, hn] at e; cases e
  refine I.step (g' := s.gens) (d' := s.drawn) (ch := [it]) (fun b hb => ?_) (fun b o _ _ hc e _ => k b o (fun z => hc (by simp [z])) e) (fun b o _ _ hc e _ => ⟨o.slots, k b o (fun z => hc (by simp [z])) e⟩) (fun _ _ _ _ n => n)
    (fun b o hc e => ⟨o, k b o (fun z => hc (by simp [z])) e⟩) (fun _ _ e => e) (fun _ _ _ e => e) (fun b ps e => ⟨#[], by rw [e]; simp⟩) (fun m hm => ?_) (fun b u e => ?_) I.bare
  · have e : b = it := by simpa using hb
    subst e
    exact ⟨h1, hL, h2, h3⟩
  · obtain ⟨o, es, ep, ho, r⟩ := hm
    exact ⟨o, es, ep, k _ o (Ne.symm hL) ho, r⟩
  · refine (I.hok b u e).stay (fun c v hc q => k c v ?_ q) (fun _ q => q) fun _ _ q => q
    rcases hc with z | z
    · rw [z]; exact nit b u e
    · exact nit c _ z
theorem Inv.tok (I : Inv X pins σ H s) (t : Nat) : Inv X pins σ H { s with toks := t } := I.un (h' := s.heap) (t' := t) Un.refl I.hok
/-- all objects kept -/
theorem Inv.kept {t' : Nat} (I : Inv X pins σ H s) (k : ∀ b u, s.heap.get? b = some u → h'.get? b = some u) : Inv X pins σ H { s with heap := h', toks := t' } := I.un (Un.kept k) (I.hok.kept k)
/-- a new object laid and tracked -/
theorem Inv.laid {a : Addr} {o : HO} {t' : Nat} (I : Inv X pins σ H s) (k : ∀ b u, s.heap.get? b = some u → h'.get? b = some u) (hp : s.heap.objs.size ≤ a) (new : ObjOk X.prog X.w (upd H a o) h' a o) :
    Inv X pins σ (upd H a o) { s with heap := h', toks := t' } := I.un (Un.laid k hp (I.hok.fresh hp)) (I.hok.laid k hp new)
/-- an object written -/
theorem Inv.write {x e : Addr} {o : HO} {t' : Nat} (I : Inv X pins σ H s) (mu : Mut (H x)) (he : e = x ∨ H e = some (.own x)) (k : ∀ b u, b ≠ e → s.heap.get? b = some u → h'.get? b = some u) (heo : ∃ u, h'.get? e = some u)
    (new : ObjOk X.prog X.w (upd H x o) h' x o) : Inv X pins σ (upd H x o) { s with heap := h', toks := t' } := I.un (Un.write mu he k heo) (I.hok.write mu he k heo new)
theorem Inv.pins_of {pins' : List (Addr × Obj)} (I : Inv X pins σ H s) (h : ∀ p ∈ pins', s.heap.get? p.1 = some p.2 ∧ H p.1 = none ∧ p.1 ≠ X.env.locals ∧ p.1 ∉ X.fs ∧ ∀ v, p.2.data ≠ .cell v) : Inv X pins' σ H s :=
  ⟨I.ok, I.os, I.bare, I.base, I.loc, I.cell, I.free, I.freeC, fun p hp => (List.mem_append.mp hp).elim (fun z => I.pin p (List.mem_append_left _ z)) (h p), I.hok, I.len⟩

theorem nodup_ix {N : List Str} (hN : N.Nodup) {i j : Nat} {x : Str} (a : N[i]? = some x) (b : N[j]? = some x) : i = j := by
  obtain ⟨h1, e1⟩ := List.getElem?_eq_some_iff.mp a
  obtain ⟨h2, e2⟩ := List.getElem?_eq_some_iff.mp b
  exact (List.getElem_inj hN).mp (e1.trans e2.symm)

/-- a name is stored; what changed -/
theorem store_ok2 {M : Model} {A : Around} {E : Value → Shared → Prop} {i : Nat} {x : Str} {v : V} {u : Value} {Q : Unit → Shared → Prop} (I : Inv X pins σ H s) (hN : X.N.Nodup) (hi : X.N[i]? = some x) (hx : Loc X.env.scope x) (r : RelV v u)
    (h : ∀ s', Inv X pins (σ.set i (some v)) H s' → (∃ a, Heap.SameBut a s.heap s'.heap ∧ (a = X.env.locals ∨ X.env.cells.lookup x = some a)) → Q () s') (hf : X.fn x = true ∨ X.env.scope.names.lookup x = some .local := by first | exact .inl rfl | exact .inr rfl | assumption) : wpAny M A (storeName X.env x u) Q E s := by
  obtain ⟨m, hn, hl⟩ := id I.loc
  have hcls : (X.env.scope.kind == .class || (X.env.scope.kind == .module && X.env.locals != X.env.globals)) = false := by rw [I.ok.kind]; rfl
  have hiσ : i < σ.length := by rw [I.len]; exact (List.getElem?_eq_some_iff.mp hi).1
  have cne := I.cne
  have tracked : ∀ {a : Addr} {h' : Heap}, (∃ o, s.heap.get? a = some o ∧ H a = none) → Heap.SameBut a s.heap h' → HOk X.prog X.w H h' := fun {a h'} ha hs b ob e => by
    obtain ⟨_, _, hfree⟩ := ha
    refine (I.hok b ob e).stay (fun c w' hc q => (hs.2 c ?_).trans q) (fun _ q => q) fun _ _ q => q
    rintro rfl
    rcases hc with rfl | hc
    · rw [hfree] at e; cases e
    · rw [hfree] at hc; cases hc
  rcases hx with hk | hk
  · refine wpAny_storeName_local hk hn (fun h' hn' hs => ?_) hcls
    obtain ⟨oL, _, _, hoL, _⟩ := id hn
    refine h _ ⟨I.ok, I.os, I.bare, ⟨fun b o e n hb hx => ?_, fun b o e n hb hx => ?_, I.base.free, fun b o e hx => ?_, I.base.tups, I.base.frzs, I.base.tbls⟩, ⟨_, hn', fun j y v' e1 e2 e3 => ?_⟩, fun y c e => ?_, I.free, I.freeC, fun p hp => ?_, tracked ⟨oL, hoL, I.free⟩ hs, by simpa using I.len⟩ ⟨_, hs, .inl rfl⟩
    · exact (hs.2 b (Nat.ne_of_lt (Nat.lt_of_lt_of_le (Heap.lt_size e) I.ok.above))).trans (I.base.keep b o e n hb hx)
    · obtain ⟨sl, e1⟩ := I.base.slot b o e n hb hx
      exact ⟨sl, (hs.2 b (Nat.ne_of_lt (Nat.lt_of_lt_of_le (Heap.lt_size e) I.ok.above))).trans e1⟩
    · obtain ⟨o', e1⟩ := I.base.there b o e hx
      exact ⟨o', (hs.2 b (Nat.ne_of_lt (Nat.lt_of_lt_of_le (Heap.lt_size e) I.ok.above))).trans e1⟩
    · by_cases hj : j = i
      · subst hj
        rw [hi] at e1; cases e1
        rw [List.getElem?_set_self hiσ] at e2
        cases e2
        exact ⟨u, r, .inl ⟨hk, by simp⟩⟩
      · rw [List.getElem?_set_ne (Ne.symm hj)] at e2
        obtain ⟨u', r', q⟩ := hl j y v' e1 e2 e3
        refine ⟨u', r', ?_⟩
        rcases q with ⟨k, e⟩ | ⟨k, c, e, z⟩
        · refine .inl ⟨k, ?_⟩
          have : y ≠ x := fun e => hj (nodup_ix hN e1 (e ▸ hi))
          simp [this, e]
        · exact .inr ⟨k, c, e, z.sameBut hs (cne y c e)⟩
    · obtain ⟨w', z⟩ := I.cell y c e
      exact ⟨w', z.sameBut hs (cne y c e)⟩
    · obtain ⟨e, n, ne, nf, d⟩ := I.pin p hp
      exact ⟨(hs.2 p.1 ne).trans e, n, ne, nf, d⟩
  · have hfn : X.fn x = true := by
      rcases hf with z | z
      · exact z
      · rw [z] at hk; cases hk
    obtain ⟨c, hc⟩ := I.ok.has x (.inl hk)
    obtain ⟨w', z⟩ := I.cell x c hc
    refine wpAny_storeName_cell I.ok.kind hk hc z (fun h' hc' hs => ?_)
    obtain ⟨oc, hoc, hocd⟩ := id z
    refine h { s with heap := h' } ⟨I.ok, I.os, I.bare, ⟨fun b o e n hb hx => ?_, fun b o e n hb hx => ?_, I.base.free, fun b o e hx => ?_, I.base.tups, I.base.frzs, I.base.tbls⟩, ⟨m, hn.sameBut hs (Ne.symm (cne x c hc)), fun j y v' e1 e2 e3 => ?_⟩, fun y c' e => ?_, I.free, I.freeC, fun p hp => ?_, tracked ⟨oc, hoc, I.freeC x c hc⟩ hs, by simpa using I.len⟩ ⟨c, hs, .inr hc⟩
    · exact (hs.2 b (Nat.ne_of_lt (Nat.lt_of_lt_of_le (Heap.lt_size e) (I.ok.cab x c hfn hc)))).trans (I.base.keep b o e n hb hx)
    · obtain ⟨sl, e1⟩ := I.base.slot b o e n hb hx
      exact ⟨sl, (hs.2 b (Nat.ne_of_lt (Nat.lt_of_lt_of_le (Heap.lt_size e) (I.ok.cab x c hfn hc)))).trans e1⟩
    · obtain ⟨o', e1⟩ := I.base.there b o e hx
      exact ⟨o', (hs.2 b (Nat.ne_of_lt (Nat.lt_of_lt_of_le (Heap.lt_size e) (I.ok.cab x c hfn hc)))).trans e1⟩
    · by_cases hj : j = i
      · subst hj
        rw [hi] at e1; cases e1
        rw [List.getElem?_set_self hiσ] at e2
        cases e2
        exact ⟨u, r, .inr ⟨.inl hk, c, hc, hc'⟩⟩
      · rw [List.getElem?_set_ne (Ne.symm hj)] at e2
        obtain ⟨u', r', q⟩ := hl j y v' e1 e2 e3
        refine ⟨u', r', ?_⟩
        rcases q with q | ⟨k, c', e, z'⟩
        · exact .inl q
        · refine .inr ⟨k, c', e, z'.sameBut hs ?_⟩
          rintro rfl
          exact hj (nodup_ix hN e1 (I.ok.inj _ _ _ e hc ▸ hi))
    · by_cases hcc : c' = c
      · subst hcc; exact ⟨_, hc'⟩
      · obtain ⟨w2, z2⟩ := I.cell y c' e
        exact ⟨w2, z2.sameBut hs hcc⟩
    · obtain ⟨e, n, ne, nf, d⟩ := I.pin p hp
      refine ⟨(hs.2 p.1 ?_).trans e, n, ne, nf, d⟩
      intro q
      rw [q, hoc] at e
      have q' : oc = p.2 := Option.some.inj e
      exact d w' (by rw [← q']; exact hocd)
theorem store_ok {M : Model} {A : Around} {E : Value → Shared → Prop} {i : Nat} {x : Str} {v : V} {u : Value} {Q : Unit → Shared → Prop} (I : Inv X pins σ H s) (hN : X.N.Nodup) (hi : X.N[i]? = some x) (hx : Loc X.env.scope x) (r : RelV v u)
    (h : ∀ s', Inv X pins (σ.set i (some v)) H s' → Q () s') (hf : X.fn x = true ∨ X.env.scope.names.lookup x = some .local := by first | exact .inl rfl | exact .inr rfl | assumption) : wpAny M A (storeName X.env x u) Q E s :=
  store_ok2 I hN hi hx r (fun s' I' _ => h s' I') hf
/-- behind a call or a block, the state as it is -/
theorem Inv.call' {s' : Shared} {ch : List Addr} (I : Inv X pins σ H s) (ho : s'.os = s.os) (u : Un (frs X.stack) ch H H' s.heap s'.heap) (hok : HOk X.prog X.w H' s'.heap) (hg : AllBare s'.gens)
    (hch : ∀ b ∈ ch, (b ∈ X.ex ∨ X.s₀.heap.objs.size ≤ b) ∧ b ≠ X.env.locals ∧ (∀ x c, X.env.cells.lookup x = some c → c ≠ b) ∧ ∀ p ∈ X.pn ++ pins, p.1 ≠ b) : Inv X pins σ H' s' := by
  obtain ⟨h', g', d', t', o'⟩ := s'
  have e : o' = s.os := ho
  subst e
  exact I.call (g' := g') (t' := t') (d' := d') u hok hg hch
end

/-! ### the judgements -/
/-- an exception: its class, its own dict's address (where it has one), the abstract heap behind it -/
abbrev XK := Value → Option Addr → Hp → Prop
abbrev St := List (Option V)
abbrev VK := V → Hp → Prop
/-- an expression's reading; a test's; an argument list's -/
abbrev TE := St → Hp → VK → Prop
abbrev TT := St → Hp → (Bool → Hp → Prop) → Prop
abbrev TA := St → Hp → (List V → Hp → Prop) → Prop
/-- what is wanted behind a statement -/
structure Ends where
  nx : St → Hp → Prop
  rt : VK
  bk : St → Hp → Prop := fun _ _ => False
  ct : St → Hp → Prop := fun _ _ => False
abbrev TS := Ends → St → Hp → Prop

def EP (X : Cx) (pins : List (Addr × Obj)) (σ : St) (Q : VK) (u : Value) (s' : Shared) : Prop := ∃ v H', Inv X pins σ H' s' ∧ RelV v u ∧ Q v H'
def TP (X : Cx) (pins : List (Addr × Obj)) (σ : St) (Q : Bool → Hp → Prop) (b : Bool) (s' : Shared) : Prop := ∃ H', Inv X pins σ H' s' ∧ Q b H'
def AP (X : Cx) (pins : List (Addr × Obj)) (σ : St) (Q : List V → Hp → Prop) (us : List Value) (s' : Shared) : Prop := ∃ vs H', Inv X pins σ H' s' ∧ Vals vs us ∧ Q vs H'
def SP (X : Cx) (pins : List (Addr × Obj)) (D : Ends) (f : Flow) (s' : Shared) : Prop :=
  match f with
  | .next => ∃ σ' H', Inv X pins σ' H' s' ∧ D.nx σ' H'
  | .brk => ∃ σ' H', Inv X pins σ' H' s' ∧ D.bk σ' H'
  | .cont => ∃ σ' H', Inv X pins σ' H' s' ∧ D.ct σ' H'
  | .ret u => ∃ v σ' H', Inv X pins σ' H' s' ∧ RelV v u ∧ D.rt v H'

def PE (X : Cx) (e : Expr) (t : TE) : Prop :=
  ∀ (pins : List (Addr × Obj)) (s : Shared) (σ : St) (H : Hp) (Q : VK), Inv X pins σ H s → t σ H Q → wpAny (model X.prog X.w) X.A (eval e X.env) (EP X pins σ Q) X.xe s
def PT (X : Cx) (e : Expr) (t : TT) : Prop :=
  ∀ (pins : List (Addr × Obj)) (s : Shared) (σ : St) (H : Hp) (Q : Bool → Hp → Prop), Inv X pins σ H s → t σ H Q → wpAny (model X.prog X.w) X.A (isTrue e X.env (eval e X.env)) (TP X pins σ Q) X.xe s
/-- a test whatever its 'whole' is (and, or) -/
def PW (X : Cx) (e : Expr) (t : TT) : Prop :=
  ∀ (whole : Sem Value) (pins : List (Addr × Obj)) (s : Shared) (σ : St) (H : Hp) (Q : Bool → Hp → Prop), Inv X pins σ H s → t σ H Q → wpAny (model X.prog X.w) X.A (isTrue e X.env whole) (TP X pins σ Q) X.xe s
theorem PW.pt {X : Cx} {e : Expr} {t : TT} (h : PW X e t) : PT X e t := h _
/-- an argument list (no star), from the left -/
def PA (X : Cx) (es : List Expr) (t : TA) : Prop :=
  ∀ (pos : Pos) (pins : List (Addr × Obj)) (s : Shared) (σ : St) (H : Hp) (Q : List V → Hp → Prop), Inv X pins σ H s → t σ H Q → wpAny (model X.prog X.w) X.A (spliced (backTo pos (starEach es X.env))) (AP X pins σ Q) X.xe s
def PS (X : Cx) (st : Stmt) (t : TS) : Prop :=
  ∀ (pins : List (Addr × Obj)) (s : Shared) (σ : St) (H : Hp) (D : Ends), Inv X pins σ H s → t D σ H → wpAny (model X.prog X.w) X.A (exec st X.env) (SP X pins D) X.xe s
def PSs (X : Cx) (st : List Stmt) (t : TS) : Prop :=
  ∀ (pins : List (Addr × Obj)) (s : Shared) (σ : St) (H : Hp) (D : Ends), Inv X pins σ H s → t D σ H → wpAny (model X.prog X.w) X.A (execs st X.env) (SP X pins D) X.xe s
/-- weaken the end -/
theorem thn {α : Type} {t : Sem α} {Q Q' : α → Shared → Prop} {M : Model} {A : Around} {E : Value → Shared → Prop} {s : Shared} (h : wpAny M A t Q E s) (hQ : ∀ a s, Q a s → Q' a s) : wpAny M A t Q' E s := wpAny_mono h hQ fun _ _ x => x
end L2

namespace L2
open PySem PySem.Spec PyProof.Rows
section
variable {X : Cx}

/-! ### names and constants -/
def tVar (i : Nat) : TE := fun σ H Q => ∃ v, σ[i]? = some (some v) ∧ Q v H
def tC (v : V) : TE := fun _ H Q => Q v H
theorem pe_var {i : Nat} {x : Str} {pos : Pos} (hN : X.N[i]? = some x) (hv : Vis X.env.scope x) (hd : (x == ("__debug__" : Str)) = false := by decide) (hcd : (x == ("__classdict__" : Str)) = false := by decide) : PE X (.Name x pos) (tVar i) := by
  intro pins s σ H Q I h
  obtain ⟨v, e, h⟩ := h
  obtain ⟨m, hn, hl⟩ := I.loc
  obtain ⟨u, r, l⟩ := hl i x v hN e hv
  have fin : EP X pins σ Q u s := ⟨v, H, I, r, h⟩
  rcases l with ⟨hk, hm⟩ | ⟨hk, c, hc, hcell⟩
  · exact wpAny_Name (wpAny_loadName_local I.ok.kind hk hn hm fin) hd
  · rcases hk with hk | hk
    · exact wpAny_Name (wpAny_loadName_cell I.ok.kind hk hc hcell fin) hd
    · exact wpAny_Name (wpAny_loadName_free I.ok.kind hk hc hcell fin hcd) hd
theorem pe_int {i j pos} : PE X (.Constant (.int i) j pos) (tC (.int i)) := fun _ _ _ H _ I h => wpAny_Constant_int ⟨.int i, H, I.tok _, ⟨_, rfl⟩, h⟩
theorem pe_bl {b j pos} : PE X (.Constant (.bool b) j pos) (tC (.bl b)) := fun _ _ _ H _ I h => Constant_bool ⟨.bl b, H, I, rfl, h⟩
theorem pe_non {j pos} : PE X (.Constant .none j pos) (tC .non) := fun _ _ _ H _ I h => Constant_none ⟨.non, H, I, rfl, h⟩
theorem pe_str {x j pos} : PE X (.Constant (.str x) j pos) (tC (.str x)) := fun _ _ _ H _ I h => Calls.Constant_str ⟨.str x, H, I.tok _, ⟨_, rfl⟩, h⟩

/-- a global name of the def -/
def Gl (X : Cx) (x : Str) : Prop := X.env.kindOf x = some .globalImplicit
theorem ld_glob {E : Value → Shared → Prop} {pins : List (Addr × Obj)} {s : Shared} {σ : St} {H : Hp} {x : Str} {u : Value} {pos : Pos} {Q : Value → Shared → Prop} (I : Inv X pins σ H s) (hg : Gl X x) (hm : X.mg x = some u) (h : Q u s)
    (hd : (x == ("__debug__" : Str)) = false := by decide) : wpAny (model X.prog X.w) X.A (eval (.Name x pos) X.env) Q E s :=
  Calls.Name_function_global I.ok.kind hg (Calls.loadGlobal_global (by rw [I.ok.glob]; exact I.mod.glob.keeps I.bk) hm h) hd
theorem ld_blt {E : Value → Shared → Prop} {pins : List (Addr × Obj)} {s : Shared} {σ : St} {H : Hp} {x : Str} {u : Value} {pos : Pos} {Q : Value → Shared → Prop} (I : Inv X pins σ H s) (hg : Gl X x) (hm : X.mg x = none) (hv : bootBuiltins x = some u) (h : Q u s)
    (hn : x ≠ "__name__" := by decide) (hd : (x == ("__debug__" : Str)) = false := by decide) : wpAny (model X.prog X.w) X.A (eval (.Name x pos) X.env) Q E s := by
  obtain ⟨mb, h1, h2⟩ := I.mod.blt
  exact Calls.Name_function_global I.ok.kind hg (Calls.loadGlobal_builtin (by rw [I.ok.glob]; exact I.mod.glob.keeps I.bk) hm (by rw [I.ok.blt]; exact h1.keeps I.bk) ((h2 x hn).trans hv) h) hd
/-- a module's constant, a class, a function, as a value -/
theorem pe_glob {x : Str} {v : V} {u : Value} {pos : Pos} (hg : Gl X x) (hm : X.mg x = some u) (r : RelV v u) (hd : (x == ("__debug__" : Str)) = false := by decide) : PE X (.Name x pos) (tC v) :=
  fun _ _ _ H _ I h => ld_glob I hg hm ⟨v, H, I, r, h⟩ hd
theorem pe_bltn {x : Str} {v : V} {u : Value} {pos : Pos} (hg : Gl X x) (hm : X.mg x = none) (hv : bootBuiltins x = some u) (r : RelV v u) (hn : x ≠ "__name__" := by decide) (hd : (x == ("__debug__" : Str)) = false := by decide) : PE X (.Name x pos) (tC v) :=
  fun _ _ _ H _ I h => ld_blt I hg hm hv ⟨v, H, I, r, h⟩ hn hd

/-! ### arithmetic -/
/-- two ints -/
def t2I (ta tb : TE) (k : Int → Int → Hp → Prop) : St → Hp → Prop := fun σ H => ta σ H fun x H1 => tb σ H1 fun y H2 => ∃ i j, x = .int i ∧ y = .int j ∧ k i j H2
def tAdd (ta tb : TE) : TE := fun σ H Q => t2I ta tb (fun i j H2 => Q (.int (i + j)) H2) σ H
def tSub (ta tb : TE) : TE := fun σ H Q => t2I ta tb (fun i j H2 => Q (.int (i - j)) H2) σ H
/-- the left factor below 2^64 -/
def tMul (ta tb : TE) : TE := fun σ H Q => t2I ta tb (fun i j H2 => (-(2 ^ 64) < i ∧ i < 2 ^ 64) ∧ Q (.int (i * j)) H2) σ H
variable {a b : Expr} {ta tb : TE} {pos : Pos}
/-! ### comparisons -/
def PC (X : Cx) (op : CmpOp) (a b : Expr) (t : TE) : Prop :=
  ∀ (pins : List (Addr × Obj)) (s : Shared) (σ : St) (H : Hp) (Q : VK), Inv X pins σ H s → t σ H Q →
    wpAny (model X.prog X.w) X.A (eval a X.env) (fun v s₁ => wpAny (model X.prog X.w) X.A (eval b X.env) (fun u s₂ => wpAny (model X.prog X.w) X.A (compareOp op v u) (EP X pins σ Q) X.xe s₂) X.xe s₁) X.xe s
def tCmp (p : Int → Int → Bool) (ta tb : TE) : TE := fun σ H Q => t2I ta tb (fun i j H2 => Q (.bl (p i j)) H2) σ H
abbrev tLt : TE → TE → TE := tCmp fun i j => decide (i < j)
abbrev tLe : TE → TE → TE := tCmp fun i j => decide (i ≤ j)
abbrev tGt : TE → TE → TE := tCmp fun i j => decide (j < i)
abbrev tGe : TE → TE → TE := tCmp fun i j => decide (j ≤ i)
abbrev tEqI : TE → TE → TE := tCmp fun i j => decide (i = j)
abbrev tNeI : TE → TE → TE := tCmp fun i j => !decide (i = j)
/-- is None -/
def tIsN (ta : TE) : TE := fun σ H Q => ta σ H fun x H1 => Q (.bl (decide (x = .non))) H1
def tNotN (ta : TE) : TE := fun σ H Q => ta σ H fun x H1 => Q (.bl (!decide (x = .non))) H1
/-- a comparison as a value, as a test -/
def tB (t : TE) : TT := fun σ H Q => t σ H fun x H1 => ∃ c, x = .bl c ∧ Q c H1
/-- an expression whose value is a bool, as a test -/
theorem pt_val {e : Expr} {t : TE} (h : PE X e t) (he : ∀ whole, isTrue e X.env whole = (do let v ← whole; standAt e.pos; holding [v] (truthy v)) := by intro _; rfl) : PT X e (tB t) := by
  intro pins s σ H Q I hw
  refine isTrue_plain (thn (h pins s σ H _ I hw) fun v s1 ⟨x, H1, I1, r1, q1⟩ => ?_) (he _)
  obtain ⟨d, rfl, q⟩ := q1
  cases r1
  exact wpAny_truthy_bool ⟨H1, I1, q⟩

/-! ### and, or, not -/
variable {tA tB' : TT} {rest : List Expr}
def tAnd (t u : TT) : TT := fun σ H Q => t σ H fun c H1 => if c = true then u σ H1 Q else Q false H1
def tOr (t u : TT) : TT := fun σ H Q => t σ H fun c H1 => if c = true then Q true H1 else u σ H1 Q
def tNot (t : TT) : TT := fun σ H Q => t σ H fun c H1 => Q (!c) H1
theorem pw_and1 (ha : PT X a tA) : PW X (.BoolOp .And [a] pos) tA := by
  intro wh pins s σ H Q I h
  refine isTrue_and (thn (ha pins s σ H Q I h) fun c s1 e => ?_)
  cases c with
  | true => exact isTrue_and_nil e
  | false => exact e
theorem pw_or1 (ha : PT X a tA) : PW X (.BoolOp .Or [a] pos) tA := by
  intro wh pins s σ H Q I h
  refine isTrue_or (thn (ha pins s σ H Q I h) fun c s1 e => ?_)
  cases c with
  | false => exact isTrue_or_nil e
  | true => exact e
theorem pw_and (ha : PT X a tA) (hb : PW X (.BoolOp .And (b :: rest) pos) tB') : PW X (.BoolOp .And (a :: b :: rest) pos) (tAnd tA tB') := by
  intro wh pins s σ H Q I h
  refine isTrue_and (thn (ha pins s σ H _ I h) fun c s1 ⟨H1, I1, q1⟩ => ?_)
  cases c with
  | true => exact hb wh pins s1 σ H1 Q I1 q1
  | false => exact ⟨H1, I1, q1⟩
theorem pw_or (ha : PT X a tA) (hb : PW X (.BoolOp .Or (b :: rest) pos) tB') : PW X (.BoolOp .Or (a :: b :: rest) pos) (tOr tA tB') := by
  intro wh pins s σ H Q I h
  refine isTrue_or (thn (ha pins s σ H _ I h) fun c s1 ⟨H1, I1, q1⟩ => ?_)
  cases c with
  | true => exact ⟨H1, I1, q1⟩
  | false => exact hb wh pins s1 σ H1 Q I1 q1
theorem pt_not (ha : PT X a tA) : PT X (.UnaryOp .Not a pos) (tNot tA) := by
  intro pins s σ H Q I h
  exact isTrue_not (ha pins s σ H (fun c H1 => Q (!c) H1) I h)
/-- .. as values (bools) -/
def tAndV (ta tb : TE) : TE := fun σ H Q => ta σ H fun x H1 => ∃ c, x = .bl c ∧ if c = true then tb σ H1 Q else Q (.bl false) H1
def tOrV (ta tb : TE) : TE := fun σ H Q => ta σ H fun x H1 => ∃ c, x = .bl c ∧ if c = true then Q (.bl true) H1 else tb σ H1 Q
def tNotV (ta : TE) : TE := fun σ H Q => ta σ H fun x H1 => ∃ c, x = .bl c ∧ Q (.bl (!c)) H1
theorem pe_one {op} {t : TE} (h : PE X a t) : PE X (.BoolOp op [a] pos) t := fun pins s σ H Q I hw => BoolOp_one (h pins s σ H Q I hw)
theorem pe_and (ha : PE X a ta) (hb : PE X (.BoolOp .And (b :: rest) pos) tb) : PE X (.BoolOp .And (a :: b :: rest) pos) (tAndV ta tb) := by
  intro pins s σ H Q I h
  refine BoolOp_and (thn (ha pins s σ H _ I h) fun v s1 ⟨x, H1, I1, r1, q1⟩ => ?_)
  obtain ⟨c, rfl, q1⟩ := q1
  cases r1
  refine wpAny_truthy_bool ?_
  cases c with
  | true => exact hb pins s1 σ H1 Q I1 q1
  | false => exact ⟨.bl false, H1, I1, rfl, q1⟩
theorem pe_or (ha : PE X a ta) (hb : PE X (.BoolOp .Or (b :: rest) pos) tb) : PE X (.BoolOp .Or (a :: b :: rest) pos) (tOrV ta tb) := by
  intro pins s σ H Q I h
  refine BoolOp_or (thn (ha pins s σ H _ I h) fun v s1 ⟨x, H1, I1, r1, q1⟩ => ?_)
  obtain ⟨c, rfl, q1⟩ := q1
  cases r1
  refine wpAny_truthy_bool ?_
  cases c with
  | false => exact hb pins s1 σ H1 Q I1 q1
  | true => exact ⟨.bl true, H1, I1, rfl, q1⟩
theorem pe_not (ha : PE X a ta) : PE X (.UnaryOp .Not a pos) (tNotV ta) := by
  intro pins s σ H Q I h
  refine UnaryOp_ (thn (ha pins s σ H _ I h) fun v s1 ⟨x, H1, I1, r1, q1⟩ => ?_)
  obtain ⟨c, rfl, q1⟩ := q1
  cases r1
  exact not_of (wpAny_truthy_bool ⟨.bl (!c), H1, I1, rfl, q1⟩)
/-- a if t else b -/
def tIf (t : TT) (ta tb : TE) : TE := fun σ H Q => t σ H fun c H1 => if c = true then ta σ H1 Q else tb σ H1 Q
theorem pe_ifExp {c : Expr} (hc : PT X c tA) (ha : PE X a ta) (hb : PE X b tb) : PE X (.IfExp c a b pos) (tIf tA ta tb) := by
  intro pins s σ H Q I h
  refine wpAny_IfExp (thn (hc pins s σ H _ I h) fun d s1 ⟨H1, I1, q1⟩ => ?_)
  cases d with
  | true => exact ha pins s1 σ H1 Q I1 q1
  | false => exact hb pins s1 σ H1 Q I1 q1
end
end L2

namespace L2
open PySem PySem.Spec PyProof.Rows

/-! ### a list, a tuple that is read: tracked, frozen, or an object of the module -/
def SqL (K : PySem.W.Frag) (H : Hp) (a : Addr) (xs : List V) : Prop :=
  Rd H a (.lst xs) ∨
    ∃ (o : Obj) (its : Array Value) (n : Nat), K.lookup a = some o ∧ o.cls = .type "list" ∧ o.dict = none ∧ o.data = .seq its n ∧ its.size ≤ sizeLine ∧ Vals xs its.toList
def SqT (K : PySem.W.Frag) (H : Hp) (a : Addr) (xs : List V) : Prop :=
  Rd H a (.tup xs) ∨
    ∃ (o : Obj) (its : Array Value) (n : Nat), K.lookup a = some o ∧ o.cls = .type "tuple" ∧ o.data = .seq its n ∧ its.size ≤ sizeLine ∧ Vals xs its.toList
def absV : Value → Option V
  | .none => some .non
  | .bool b => some (.bl b)
  | .int i _ => some (.int i)
  | .str x _ => some (.str x)
  | .bytes b _ => some (.byt b)
  | .float b _ => some (.flt b)
  | .ref a => some (.ref a)
  | .type n => some (.ty n)
  | _ => none
theorem RelV.abs {x : V} {u : Value} (r : RelV x u) : absV u = some x := by
  cases x with
  | non => cases r; rfl
  | bl _ => cases r; rfl
  | int _ => obtain ⟨t, rfl⟩ := r; rfl
  | str _ => obtain ⟨t, rfl⟩ := r; rfl
  | byt _ => obtain ⟨t, rfl⟩ := r; rfl
  | flt _ => obtain ⟨t, rfl⟩ := r; rfl
  | ref _ => cases r; rfl
  | ty _ => cases r; rfl
theorem RelV.inj {x y : V} {u : Value} (r : RelV x u) (q : RelV y u) : x = y := Option.some.inj (r.abs.symm.trans q.abs)
theorem Vals.inj : ∀ {xs ys : List V} {us : List Value}, Vals xs us → Vals ys us → xs = ys
  | _, _, _, .nil, .nil => rfl
  | _, _, _, .cons r t, .cons r' t' => by rw [r.inj r', Vals.inj t t']
section
variable {X : Cx} {pins : List (Addr × Obj)} {σ : St} {H : Hp} {s : Shared} {a : Addr} {xs ys : List V}
theorem SqL.of {K : PySem.W.Frag} (h : H a = some (.lst xs)) : SqL K H a xs := .inl (.inl h)
theorem SqT.of {K : PySem.W.Frag} (h : H a = some (.tup xs)) : SqT K H a xs := .inl (.inl h)
theorem Inv.list (I : Inv X pins σ H s) (h : SqL X.K H a xs) : ∃ its : List Value, Vals xs its ∧ PlainL s.heap a its.toArray ∧ xs.length ≤ sizeLine := by
  rcases h with h | ⟨o, its, n, hk, hc, hd, hs, hz, r⟩
  · obtain ⟨z, its, n, r, e⟩ := h.ok I.hok
    exact ⟨its, r, ⟨_, n, e, rfl, rfl, rfl⟩, z⟩
  · refine ⟨its.toList, r, ⟨o, n, I.kIn a o hk, hc, hd, by simpa using hs⟩, ?_⟩
    have e := r.length
    simp only [Array.length_toList] at e
    omega
theorem Inv.tuple (I : Inv X pins σ H s) (h : SqT X.K H a xs) : ∃ its : List Value, Vals xs its ∧ IsTup s.heap a its.toArray ∧ xs.length ≤ sizeLine := by
  rcases h with h | ⟨o, its, n, hk, hc, hs, hz, r⟩
  · obtain ⟨z, its, r, p⟩ := h.ok I.hok
    exact ⟨its, r, p, z⟩
  · refine ⟨its.toList, r, ⟨o, I.kIn a o hk, hc, n, by simpa using hs⟩, ?_⟩
    have e := r.length
    simp only [Array.length_toList] at e
    omega
theorem Inv.list_inj (I : Inv X pins σ H s) (h : SqL X.K H a xs) (h' : SqL X.K H a ys) : xs = ys := by
  obtain ⟨its, r, ⟨o, n, e, _, _, d⟩, _⟩ := I.list h
  obtain ⟨its', r', ⟨o', n', e', _, _, d'⟩, _⟩ := I.list h'
  rw [e] at e'; cases e'
  rw [d] at d'
  injection d' with d1 _
  have : its = its' := by simpa using congrArg Array.toList d1
  subst this
  exact r.inj r'
end

/-! ### another wish about exceptions -/
abbrev Cx.wish (X : Cx) (E : Value → Shared → Prop) : Cx := { X with xe := E }
/-- no exception leaves -/
abbrev Cx.nox (X : Cx) : Cx := X.wish fun _ _ => False
theorem Cx.Ok.wish {X : Cx} (ok : X.Ok) (E : Value → Shared → Prop) : (X.wish E).Ok :=
  ⟨ok.mod, ok.kind, ok.glob, ok.blt, ok.above, ok.inj, ok.has, ok.cab, ok.hd, ok.frames, ok.stk, ok.exf, ok.bs, ok.bsz, ok.noex, ok.exfs, ok.funs, ok.frf⟩
theorem Cx.Ok.unwish {X : Cx} {E : Value → Shared → Prop} (ok : (X.wish E).Ok) : X.Ok :=
  ⟨ok.mod, ok.kind, ok.glob, ok.blt, ok.above, ok.inj, ok.has, ok.cab, ok.hd, ok.frames, ok.stk, ok.exf, ok.bs, ok.bsz, ok.noex, ok.exfs, ok.funs, ok.frf⟩
section
variable {X : Cx} {pins : List (Addr × Obj)} {σ : St} {H : Hp} {s : Shared} {E : Value → Shared → Prop}
theorem Inv.wish (I : Inv X pins σ H s) (E : Value → Shared → Prop) : Inv (X.wish E) pins σ H s := ⟨I.ok.wish E, I.os, I.bare, I.base, I.loc, I.cell, I.free, I.freeC, I.pin, I.hok, I.len⟩
theorem Inv.unwish (I : Inv (X.wish E) pins σ H s) : Inv X pins σ H s := ⟨I.ok.unwish, I.os, I.bare, I.base, I.loc, I.cell, I.free, I.freeC, I.pin, I.hok, I.len⟩
theorem SP.unwish {D : Ends} {f : Flow} {s' : Shared} (h : SP (X.wish E) pins D f s') : SP X pins D f s' := by
  cases f with
  | next => obtain ⟨σ', H', I, q⟩ := h; exact ⟨σ', H', I.unwish, q⟩
  | brk => obtain ⟨σ', H', I, q⟩ := h; exact ⟨σ', H', I.unwish, q⟩
  | cont => obtain ⟨σ', H', I, q⟩ := h; exact ⟨σ', H', I.unwish, q⟩
  | ret u => obtain ⟨v, σ', H', I, r, q⟩ := h; exact ⟨v, σ', H', I.unwish, r, q⟩
theorem PE.nox {e : Expr} {t : TE} (h : PE X.nox e t) : PE X e t := fun pins s σ H Q I hw =>
  wpAny_mono (h pins s σ H Q (I.wish _) hw) (fun _ _ ⟨v, H', I', r, q⟩ => ⟨v, H', I'.unwish, r, q⟩) fun _ _ z => False.elim z
theorem PT.nox {e : Expr} {t : TT} (h : PT X.nox e t) : PT X e t := fun pins s σ H Q I hw =>
  wpAny_mono (h pins s σ H Q (I.wish _) hw) (fun _ _ ⟨H', I', q⟩ => ⟨H', I'.unwish, q⟩) fun _ _ z => False.elim z
theorem PSs.nox {st : List Stmt} {t : TS} (h : PSs X.nox st t) : PSs X st t := fun pins s σ H D I hw =>
  wpAny_mono (h pins s σ H D (I.wish _) hw) (fun _ _ q => q.unwish) fun _ _ z => False.elim z
end

/-! ### blocks and small statements -/
section
variable {X : Cx} {st : Stmt} {rest : List Stmt} {t u : TS} {e : Expr} {te : TE} {pos : Pos}
def tNext : TS := fun D σ H => D.nx σ H
def tSeq (t u : TS) : TS := fun D σ H => t { D with nx := u D } σ H
theorem pss_nil : PSs X [] tNext := fun _ _ σ H _ I h => wpAny_execs_nil ⟨σ, H, I, h⟩
theorem pss_cons (h1 : PS X st t) (h2 : PSs X rest u) : PSs X (st :: rest) (tSeq t u) := by
  intro pins s σ H D I h
  refine wpAny_execs_cons (thn (h1 pins s σ H { D with nx := u D } I h) fun f s1 q => ?_)
  cases f with
  | next =>
    obtain ⟨σ', H', I', q⟩ := q
    exact h2 pins s1 σ' H' D I' q
  | ret v => exact q
  | brk => exact q
  | cont => exact q
theorem pss_one (h1 : PS X st t) : PSs X [st] t := by
  intro pins s σ H D I h
  refine wpAny_execs_cons (thn (h1 pins s σ H D I h) fun f s1 q => ?_)
  cases f with
  | next => exact wpAny_execs_nil q
  | ret v => exact q
  | brk => exact q
  | cont => exact q
def tBreak : TS := fun D σ H => D.bk σ H
def tCont : TS := fun D σ H => D.ct σ H
/-- in a def's body nothing is shown -/
theorem Inv.quiet {pins : List (Addr × Obj)} {σ : St} {H : Hp} {s : Shared} (I : Inv X pins σ H s) : interactive X.env = false := by simp [interactive, I.ok.kind]
/-- an expression whose value is dropped -/
def tDrop (te : TE) : TS := fun D σ H => te σ H fun _ H1 => D.nx σ H1
theorem ps_expr (he : PE X e te) (hs : swapsWith e none pos.line X.env = pure false := by rfl) : PS X (.Expr e pos) (tDrop te) := by
  intro pins s σ H D I h
  exact wpAny_Expr_any (thn (he pins s σ H _ I h) fun v s1 ⟨x, H1, I1, r1, q1⟩ => ⟨σ, H1, I1, q1⟩) I.quiet hs
def tRet (te : TE) : TS := fun D σ H => te σ H D.rt
theorem ps_ret (he : PE X e te) : PS X (.Return (some e) pos) (tRet te) := by
  intro pins s σ H D I h
  exact wpAny_Return_some (thn (he pins s σ H _ I h) fun v s1 ⟨x, H1, I1, r1, q1⟩ => ⟨x, σ, H1, I1, r1, q1⟩)
def tRetN : TS := fun D _ H => D.rt .non H
def tIfS (c : TT) (t u : TS) : TS := fun D σ H => c σ H fun b H1 => if b = true then t D σ H1 else u D σ H1
theorem ps_if {c : Expr} {a b : List Stmt} {tc : TT} (hc : PT X c tc) (ha : PSs X a t) (hb : PSs X b u) : PS X (.If c a b pos) (tIfS tc t u) := by
  intro pins s σ H D I h
  refine wpAny_If (thn (hc pins s σ H _ I h) fun d s1 ⟨H1, I1, q1⟩ => ?_)
  cases d with
  | true => exact ha pins s1 σ H1 D I1 q1
  | false => exact hb pins s1 σ H1 D I1 q1
/-- code that the proof never comes to -/
def tNever : TS := fun _ _ _ => False
end

/-! ### targets -/
abbrev TG := V → St → Hp → (St → Hp → Prop) → Prop
abbrev TGs := List V → St → Hp → (St → Hp → Prop) → Prop
def PG (X : Cx) (target : Expr) (t : TG) : Prop :=
  ∀ (pins : List (Addr × Obj)) (s : Shared) (σ : St) (H : Hp) (v : V) (u : Value) (Q : St → Hp → Prop), Inv X pins σ H s → RelV v u → t v σ H Q →
    wpAny (model X.prog X.w) X.A (assign target X.env u) (fun _ s' => ∃ σ' H', Inv X pins σ' H' s' ∧ Q σ' H') X.xe s
/-- several targets, one after another -/
def PGs (X : Cx) (ts : List Expr) (t : TGs) : Prop :=
  ∀ (pins : List (Addr × Obj)) (s : Shared) (σ : St) (H : Hp) (vs : List V) (us : List Value) (Q : St → Hp → Prop), Inv X pins σ H s → Vals vs us → t vs σ H Q →
    wpAny (model X.prog X.w) X.A (assignInOrder ((assignEach ts X.env).map (·.2)) us) (fun _ s' => ∃ σ' H', Inv X pins σ' H' s' ∧ Q σ' H') X.xe s
/-- o[i] = v, by values -/
abbrev TSet := V → V → V → Hp → (Hp → Prop) → Prop
def PSet (X : Cx) (t : TSet) : Prop :=
  ∀ (pins : List (Addr × Obj)) (s : Shared) (σ : St) (H : Hp) (o i v : V) (ov iv u : Value) (Q : Hp → Prop), Inv X pins σ H s → RelV o ov → RelV i iv → RelV v u → t o i v H Q →
    wpAny (model X.prog X.w) X.A (setItem ov iv u) (fun _ s' => ∃ H', Inv X pins σ H' s' ∧ Q H') X.xe s
/-- a op= b, by values -/
abbrev TIp := V → V → Hp → VK → Prop
def PIp (X : Cx) (op : Operator) (t : TIp) : Prop :=
  ∀ (pins : List (Addr × Obj)) (s : Shared) (σ : St) (H : Hp) (x y : V) (v u : Value) (Q : VK), Inv X pins σ H s → RelV x v → RelV y u → t x y H Q →
    wpAny (model X.prog X.w) X.A (inplaceOp op v u) (EP X pins σ Q) X.xe s
section
variable {X : Cx} {pos : Pos}
def gName (i : Nat) : TG := fun v σ H Q => Q (σ.set i (some v)) H
theorem pg_name {i : Nat} {x : Str} (hN : X.N.Nodup) (hi : X.N[i]? = some x) (hx : Loc X.env.scope x) (hf : X.fn x = true ∨ X.env.scope.names.lookup x = some .local := by first | exact .inl rfl | exact .inr rfl | assumption) : PG X (.Name x pos) (gName i) := by
  intro pins s σ H v u Q I r h
  exact wpAny_assign_Name (store_ok I hN hi hx r (fun s' I' => ⟨_, H, I', h⟩) hf)
def gNil : TGs := fun vs σ H Q => vs = [] ∧ Q σ H
def gCons (t : TG) (u : TGs) : TGs := fun vs σ H Q => ∃ v r, vs = v :: r ∧ t v σ H fun σ' H' => u r σ' H' Q
theorem pgs_nil : PGs X [] gNil := by
  intro pins s σ H vs us Q I r h
  obtain ⟨e, h⟩ := h
  subst e
  cases r
  exact assignInOrder_nil ⟨σ, H, I, h⟩
theorem pgs_cons {e : Expr} {es : List Expr} {t : TG} {u : TGs} (h1 : PG X e t) (h2 : PGs X es u)
    (hs : (assignEach (e :: es) X.env).map (·.2) = assign e X.env :: (assignEach es X.env).map (·.2) := by rfl) : PGs X (e :: es) (gCons t u) := by
  intro pins s σ H vs us Q I r h
  obtain ⟨v, vr, e1, h⟩ := h
  subst e1
  cases r with
  | cons r rr =>
    rw [hs]
    refine assignInOrder_cons (thn (h1 pins s σ H _ _ _ I r h) fun _ s1 ⟨σ1, H1, I1, q1⟩ => ?_)
    exact h2 pins s1 σ1 H1 _ _ Q I1 rr q1
/-- (a, b, ..) = a tuple of that length -/
def gTup (K : PySem.W.Frag) (n : Nat) (t : TGs) : TG := fun v σ H Q => ∃ a xs, v = .ref a ∧ SqT K H a xs ∧ xs.length = n ∧ t xs σ H Q
theorem pg_tup {es : List Expr} {k : Nat} {t : TGs} {n : Nat} (hc : X.calm = true) (h : PGs X es t)
    (hn : (assignEach es X.env).length = n := by rfl) (hst : (assignEach es X.env).findIdx? (·.1) = none := by rfl) : PG X (.Tuple es k pos) (gTup X.K n t) := by
  intro pins s σ H v u Q I r hw
  obtain ⟨a, xs, e1, hq, hl, hw⟩ := hw
  subst e1
  cases r
  obtain ⟨its, rv, ht, hz⟩ := I.tuple hq
  refine QQ.assign_Tuple_q I.hq ht (by simp [hn, ← hl, rv.length]) hst fun h' hx => ?_
  have I1 : Inv X pins σ H { s with heap := h' } := I.kept (t' := s.toks) fun b o e => hx b o (Nat.ne_of_lt (Heap.lt_size e)) e
  exact h pins _ σ H xs _ Q I1 (by simpa using rv) hw
/-- o[i] = .. -/
def gSub (to ti : TE) (t : TSet) : TG := fun v σ H Q => to σ H fun o H1 => ti σ H1 fun i H2 => t o i v H2 fun H3 => Q σ H3
theorem pg_sub {o i : Expr} {to ti : TE} {t : TSet} (ho : PE X o to) (hi : PE X i ti) (hs : PSet X t)
    (ha : ∀ v, assign (.Subscript o i pos) X.env v = (do
      let ov ← holding [v] (eval o X.env)
      let iv ← holding [v, ov] (eval i X.env)
      standAt pos
      holding [v, ov, iv] (setItem ov iv v)
      release [v, ov, iv] []) := by intro _; rfl) : PG X (.Subscript o i pos) (gSub to ti t) := by
  intro pins s σ H v u Q I r h
  rw [ha]
  refine wpAny_bind (wpAny_holding (thn (ho pins s σ H _ I h) fun ov s1 ⟨x, H1, I1, r1, q1⟩ => ?_))
  refine wpAny_bind (wpAny_holding (thn (hi pins s1 σ H1 _ I1 q1) fun iv s2 ⟨y, H2, I2, r2, q2⟩ => ?_))
  refine wpAny_bind (wpAny_standAt (wpAny_bind (wpAny_holding (thn (hs pins s2 σ H2 x y v ov iv u _ I2 r1 r2 r q2) fun _ s3 ⟨H3, I3, q3⟩ => ?_))))
  exact wpAny_release ⟨σ, H3, I3, q3⟩
/-- target = value -/
def tAsg (te : TE) (g : TG) : TS := fun D σ H => te σ H fun x H1 => g x σ H1 D.nx
theorem ps_asg {tg e : Expr} {te : TE} {g : TG} (he : PE X e te) (hg : PG X tg g) (hs : swapsWithSole [tg] e pos.line X.env = pure false := by rfl) (hw : swappedStores [tg] e X.env = pure none := by rfl)
    (h1 : (assignEach [tg] X.env).map (·.2) = [assign tg X.env] := by rfl) : PS X (.Assign [tg] e pos) (tAsg te g) := by
  intro pins s σ H D I h
  refine wpAny_Assign_stores (thn (he pins s σ H _ I h) fun v s1 ⟨x, H1, I1, r1, q1⟩ => ?_) hs hw
  rw [h1]
  exact thn (hg pins s1 σ H1 x v _ I1 r1 q1) fun _ s2 q => q
/-- name = value -/
theorem ps_set {i : Nat} {x : Str} {e : Expr} {te : TE} {pos' : Pos} (hN : X.N.Nodup) (hi : X.N[i]? = some x) (hx : Loc X.env.scope x) (he : PE X e te) (hs : swapsWith e (some (.Name x pos')) pos.line X.env = pure false := by rfl) (hf : X.fn x = true ∨ X.env.scope.names.lookup x = some .local := by first | exact .inl rfl | exact .inr rfl | assumption) :
    PS X (.Assign [.Name x pos'] e pos) (tAsg te (gName i)) := by
  intro pins s σ H D I h
  refine wpAny_Assign_Name (thn (he pins s σ H _ I h) fun v s1 ⟨y, H1, I1, r1, q1⟩ => ?_) hs
  exact store_ok I1 hN hi hx r1 (fun s2 I2 => ⟨_, H1, I2, q1⟩) hf
/-- a, b = x, y with plain local names: stored from the right; the pair itself is not tracked (the opening rows as in PyProof/Rows/TupAssign.lean:23) -/
def tPar (i j : Nat) (ta : TA) : TS := fun D σ H => ta σ H fun vs H1 => ∃ v w, vs = [v, w] ∧ D.nx ((σ.set i (some v)).set j (some w)) H1
/-- name op= e -/
def tAug (i : Nat) (te : TE) (ti : TIp) : TS := fun D σ H => ∃ x, σ[i]? = some (some x) ∧ te σ H fun y H1 => ti x y H1 fun z H2 => D.nx (σ.set i (some z)) H2
/-- o[i] op= e -/
def tAugS (to ti te : TE) (tget : V → V → Hp → VK → Prop) (tip : TIp) (tset : TSet) : TS := fun D σ H => to σ H fun o H1 => ti σ H1 fun i H2 => tget o i H2 fun x H3 => te σ H3 fun y H4 => tip x y H4 fun z H5 => tset o i z H5 fun H6 => D.nx σ H6
/-- o[i], by values -/
def PGet (X : Cx) (t : V → V → Hp → VK → Prop) : Prop :=
  ∀ (pins : List (Addr × Obj)) (s : Shared) (σ : St) (H : Hp) (o i : V) (ov iv : Value) (Q : VK), Inv X pins σ H s → RelV o ov → RelV i iv → t o i H Q →
    wpAny (model X.prog X.w) X.A (getItem ov iv) (EP X pins σ Q) X.xe s
/-- ints -/
def ipI (f : Int → Int → Int) : TIp := fun x y H Q => ∃ i j, x = .int i ∧ y = .int j ∧ Q (.int (f i j)) H
end

/-! ### while -/
section
variable {X : Cx} {pos : Pos}
/-- the invariant W with its measure -/
def tWhile (c : TT) (tb : TS) : TS := fun D σ H => ∃ W : Nat → St → Hp → Prop, (∃ m, W m σ H) ∧ ∀ m σ H, W m σ H →
  c σ H fun b H1 => if b = true then ∃ N : St → Hp → Prop, (∀ σ' H', N σ' H' → ∃ m', m' < m ∧ W m' σ' H') ∧ tb { D with nx := N, ct := N, bk := D.nx } σ H1 else D.nx σ H1
end

/-! ### what a loop or a comprehension walks -/
/-- at turn i: it yields x (the heap may grow), or it stops -/
structure It where
  go : Nat → Hp → Prop
  yld : Nat → Hp → V → Hp → Prop
  stop : Nat → Hp → Prop
/-- the iterator's own objects may turn: they are not the frame's, not pinned, younger than the entry (or a comprehension's own) -/
def FpOk (X : Cx) (pins : List (Addr × Obj)) (H : Hp) (b : Addr) : Prop :=
  H b = none ∧ b ≠ X.env.locals ∧ b ∉ X.fs ∧ (b ∈ X.ex ∨ X.s₀.heap.objs.size ≤ b) ∧ (∀ x c, X.env.cells.lookup x = some c → c ≠ b) ∧ ∀ p ∈ X.pn ++ pins, p.1 ≠ b
theorem Inv.fpOk {X : Cx} {pins : List (Addr × Obj)} {σ : St} {H H' : Hp} {s : Shared} {b : Addr} (I : Inv X pins σ H s) (hb : s.heap.objs.size ≤ b) (hn : H' b = none) : FpOk X pins H' b := by
  refine ⟨hn, Nat.ne_of_gt (Nat.lt_of_lt_of_le I.lt hb), I.nofs hb, .inr (Nat.le_trans I.sz hb), fun x c e z => ?_, fun p hp z => ?_⟩
  · obtain ⟨v, q⟩ := I.cell x c e
    exact absurd (Nat.lt_of_lt_of_le q.lt (by rw [z]; exact hb)) (Nat.lt_irrefl _)
  · exact absurd (Nat.lt_of_lt_of_le (Heap.lt_size (I.pin p hp).1) (by rw [z]; exact hb)) (Nat.lt_irrefl _)
structure Turn (P : Program) (w : World) (K : PySem.W.Frag) (tg : Expr) (J : It) (fp : List Addr) (it : Addr) (tn : Nat → Heap → Prop) : Prop where
  mem : it ∈ fp
  obj : ∀ i h, tn i h → ∀ b ∈ fp, ∃ o, h.get? b = some o ∧ ∀ v, o.data ≠ .cell v
  keep : ∀ i h h', tn i h → (∀ b ∈ fp, ∀ o, h.get? b = some o → h'.get? b = some o) → tn i h'
  item : ∀ (X : Cx), X.prog = P → X.w = w → X.K = K → X.calm = true → ∀ (i : Nat) (pins : List (Addr × Obj)) (s : Shared) (σ : St) (H : Hp) (E : Value → Shared → Prop), Inv X pins σ H s → (∀ b ∈ fp, FpOk X pins H b) → tn i s.heap → J.go i H →
    wpAny (model P w) X.A (pyNext (.ref it)) (fun r s1 => ∃ u, r = some u ∧
      wpAny (model P w) X.A (letOwnedTupleGo tg (.ref it) u) (fun _ s2 => ∃ x H', Inv X pins σ H' s2 ∧ RelV x u ∧ J.yld i H x H' ∧ tn (i + 1) s2.heap ∧ ∀ b ∈ fp, H' b = none) E s1) E s
  done : ∀ (X : Cx), X.prog = P → X.w = w → X.K = K → X.calm = true → ∀ (i : Nat) (pins : List (Addr × Obj)) (s : Shared) (σ : St) (H : Hp) (E : Value → Shared → Prop), Inv X pins σ H s → (∀ b ∈ fp, FpOk X pins H b) → tn i s.heap → J.stop i H →
    wpAny (model P w) X.A (pyNext (.ref it)) (fun r s1 => r = none ∧ Inv X pins σ H s1) E s
  self : ∀ (A : Around) (i : Nat) (s : Shared) (Q : Value → Shared → Prop) (E : Value → Shared → Prop), tn i s.heap → Q (.ref it) s → wpAny (model P w) A (pyIter (.ref it)) Q E s
abbrev TI := St → Hp → (It → Hp → Prop) → Prop
/-- an iterator has come -/
def PIE (X : Cx) (pins : List (Addr × Obj)) (σ : St) (tg : Expr) (R : It → Hp → Prop) (itv : Value) (s2 : Shared) : Prop :=
  ∃ (it : Addr) (fp : List Addr) (tn : Nat → Heap → Prop) (J : It) (H' : Hp), itv = .ref it ∧ Inv X pins σ H' s2 ∧ Turn X.prog X.w X.K tg J fp it tn ∧ tn 0 s2.heap ∧ (∀ b ∈ fp, FpOk X pins H' b) ∧ R J H'
def PI (X : Cx) (tg iter : Expr) (wi : TI) : Prop :=
  ∀ (pins : List (Addr × Obj)) (s : Shared) (σ : St) (H : Hp) (R : It → Hp → Prop), Inv X pins σ H s → wi σ H R →
    wpAny (model X.prog X.w) X.A (eval iter X.env) (fun v s1 => wpAny (model X.prog X.w) X.A (pyIter v) (PIE X pins σ tg R) X.xe s1) X.xe s

/-- the step ahead of the store is nothing for an iterator that keeps no tuple -/
theorem go_of {M : Model} {A : Around} {E : Value → Shared → Prop} {s : Shared} {tg : Expr} {it : Addr} {u : Value} {o : Obj} {n : String} {vs : Array Value} {Q : Unit → Shared → Prop} (ho : s.heap.get? it = some o) (hc : o.cls = .type n) (hd : o.data = .fields vs)
    (hn : ["enumerate", "zip", "dict_itemiterator", "dict_reverseitemiterator", "odict_iterator", "itertools.zip_longest", "itertools.pairwise"].contains n = false) (hQ : Q () s) : wpAny M A (letOwnedTupleGo tg (.ref it) u) Q E s := by
  unfold letOwnedTupleGo
  cases tg <;> first
    | exact wpAny_pure hQ
    | (cases u <;> first
        | exact wpAny_pure hQ
        | (refine wpAny_bind (wpAny_load ho ?_)
           rw [hc, hd]
           show wpAny M A (if (["enumerate", "zip", "dict_itemiterator", "dict_reverseitemiterator", "odict_iterator", "itertools.zip_longest", "itertools.pairwise"].contains n && vs[0]? == some (rawInt _)) = true then _ else _) Q E s
           rw [if_neg (by intro h; rw [hn, Bool.false_and] at h; cases h)]
           exact wpAny_pure hQ))

/-- the list at a, as it stands at each turn (a loop may append to it) -/
def Itl (K : PySem.W.Frag) (a : Addr) : It :=
  ⟨fun i H => ∃ xs x, SqL K H a xs ∧ xs[i]? = some x, fun i H x H' => H' = H ∧ ∀ xs, SqL K H a xs → xs[i]? = some x, fun i H => ∃ xs, SqL K H a xs ∧ xs.length ≤ i⟩
def Itt (K : PySem.W.Frag) (a : Addr) : It :=
  ⟨fun i H => ∃ xs x, SqT K H a xs ∧ xs[i]? = some x, fun i H x H' => H' = H ∧ ∀ xs, SqT K H a xs → xs[i]? = some x, fun i H => ∃ xs, SqT K H a xs ∧ xs.length ≤ i⟩
/-- lo, lo + 1, .. (n of them) -/
def Itr (lo : Int) (n : Nat) : It := ⟨fun i _ => i < n, fun i H x H' => H' = H ∧ x = .int (lo + i), fun i _ => n ≤ i⟩
theorem turn_list {P : Program} {w : World} {K : PySem.W.Frag} {tg : Expr} (a it : Addr) : Turn P w K tg (Itl K a) [it] it (fun i h => h.IsListIter it a i) where
  mem := by simp
  obj := fun i h st b hb => by
    have e : b = it := by simpa using hb
    subst e
    obtain ⟨o, e, c, d⟩ := st
    exact ⟨o, e, fun v z => by rw [d] at z; cases z⟩
  keep := fun i h h' st k => st.at fun o e => k it (by simp) o e
  item := by
    intro X hP hw hK hc i pins s σ H E I hf st hg
    subst hP hw hK
    obtain ⟨xs, x, hq, hx⟩ := hg
    obtain ⟨its, rv, p, hz⟩ := I.list hq
    obtain ⟨u, hu, ru⟩ := rv.get hx
    obtain ⟨f0, f1, f2, f3, f4, f5⟩ := hf it (by simp)
    refine wpAny_pyNext_list_item st p.isList (x := u) (by simpa using hu) fun h' st' sb => ?_
    have I1 : Inv X pins σ H { s with heap := h' } := I.turned (t' := s.toks) (fun b o hb e => (sb.2 b hb).trans e) f0 f1 f3 f4 f5
    obtain ⟨o, e, c, d⟩ := id st'
    exact ⟨u, rfl, go_of (s := { s with heap := h' }) e c d (by decide) ⟨x, H, I1, ru, ⟨rfl, fun ys hy => by rw [I.list_inj hy hq]; exact hx⟩, st', fun b hb => (hf b hb).1⟩⟩
  done := by
    intro X hP hw hK hc i pins s σ H E I hf st hg
    subst hP hw hK
    obtain ⟨xs, hq, hx⟩ := hg
    obtain ⟨its, rv, p, hz⟩ := I.list hq
    obtain ⟨f0, f1, f2, f3, f4, f5⟩ := hf it (by simp)
    have hl := rv.length
    exact QQ.list_end_q I.hq st p.isList (by simp; omega) fun h' eb => ⟨rfl, I.turned (t' := s.toks) (fun b o hb e => eb b o hb e) f0 f1 f3 f4 f5⟩
  self := fun _ _ _ _ _ st h => wpAny_pyIter_listiter st h
theorem turn_range {P : Program} {w : World} {K : PySem.W.Frag} {tg : Expr} (it : Addr) (lo : Int) (n : Nat) : Turn P w K tg (Itr lo n) [it] it (fun i h => IsRangeIter h it (lo + (i : Nat) * 1) ((n : Int) - (i : Nat)) 1) where
  mem := by simp
  obj := fun i h st b hb => by
    have e : b = it := by simpa using hb
    subst e
    exact ⟨_, st, fun v z => by
      have z' : Data.fields _ = Data.cell v := z
      cases z'⟩
  keep := fun i h h' st k => k it (by simp) _ st
  item := by
    intro X hP hw hK hc i pins s σ H E I hf st hg
    subst hP hw hK
    obtain ⟨f0, f1, f2, f3, f4, f5⟩ := hf it (by simp)
    refine wpAny_pyNext_range_item st (by have : i < n := hg; omega) fun h' st1 sb => ?_
    have st' : IsRangeIter h' it (lo + ((i + 1 : Nat) : Int) * 1) ((n : Int) - ((i + 1 : Nat) : Int)) 1 := by
      have e1 : lo + ((i + 1 : Nat) : Int) * 1 = lo + (i : Int) * 1 + 1 := by omega
      have e2 : (n : Int) - ((i + 1 : Nat) : Int) = (n : Int) - (i : Int) - 1 := by omega
      rw [e1, e2]; exact st1
    have I1 : Inv X pins σ H { s with heap := h', toks := s.toks + 1 } := I.turned (fun b o hb e => sb.extBut b o hb e) f0 f1 f3 f4 f5
    refine ⟨_, rfl, go_of (s := { s with heap := h', toks := s.toks + 1 }) (n := "range_iterator") st' rfl rfl (by decide) ⟨.int (lo + i), H, I1, ⟨s.toks, ?_⟩, ⟨rfl, rfl⟩, st', fun b hb => (hf b hb).1⟩⟩
    rw [Int.mul_one]
  done := by
    intro X hP hw hK hc i pins s σ H E I hf st hg
    subst hP hw hK
    obtain ⟨f0, f1, f2, f3, f4, f5⟩ := hf it (by simp)
    exact QQ.range_end_q I.hq st (by have : n ≤ i := hg; omega) fun h' eb => ⟨rfl, I.turned (t' := s.toks) (fun b o hb e => eb b o hb e) f0 f1 f3 f4 f5⟩
  self := fun _ _ _ _ _ st h => wpAny_pyIter_rangeiter st h
end L2

namespace L2
open PySem PySem.Spec PyProof.Rows
section
variable {X : Cx} {tg : Expr}
def iList (K : PySem.W.Frag) (tl : TE) : TI := fun σ H R => tl σ H fun x H1 => ∃ a, x = .ref a ∧ (∃ xs, SqL K H1 a xs) ∧ R (Itl K a) H1
def iTup (K : PySem.W.Frag) (tl : TE) : TI := fun σ H R => tl σ H fun x H1 => ∃ a, x = .ref a ∧ (∃ xs, SqT K H1 a xs) ∧ R (Itt K a) H1
theorem pi_list {l : Expr} {tl : TE} (hl : PE X l tl) : PI X tg l (iList X.K tl) := by
  intro pins s σ H R I h
  refine thn (hl pins s σ H _ I h) fun v s1 ⟨x, H1, I1, r1, q1⟩ => ?_
  obtain ⟨a, e, ⟨xs, hq⟩, q⟩ := q1
  subst e
  cases r1
  obtain ⟨its, rv, p, hz⟩ := I1.list hq
  refine wpAny_pyIter_list p.isList ?_
  refine ⟨s1.heap.objs.size, [s1.heap.objs.size], _, _, H1, rfl, I1.kept (t' := s1.toks) fun b o e => Heap.get?_push_of_some _ e, turn_list a _, ⟨_, Heap.get?_push_size _ rfl, rfl, rfl⟩, fun b hb => ?_, q⟩
  have e : b = s1.heap.objs.size := by simpa using hb
  subst e
  exact I1.fpOk (Nat.le_refl _) (I1.hok.fresh (Nat.le_refl _))
/-- a range object just made, walked -/
theorem range_it {pins : List (Addr × Obj)} {σ : St} {H : Hp} {s : Shared} {R : It → Hp → Prop} {E : Value → Shared → Prop} {lo hi : Int} {t u v : Tok} {tk : Nat} (I : Inv X pins σ H s) (h1 : -(2 ^ 62) ≤ lo) (h2 : lo < 2 ^ 62) (h3 : -(2 ^ 62) ≤ hi) (h4 : hi < 2 ^ 62)
    (q : R (Itr lo (hi - lo).toNat) H) : wpAny (model X.prog X.w) X.A (pyIter (.ref s.heap.objs.size)) (PIE X pins σ tg R) E { s with heap := s.heap.push { cls := .type "range", data := .fields #[.int lo t, .int hi u, .int 1 v] }, toks := tk } := by
  refine wpAny_pyIter_range (IsRange.new ..) (small_one h1 h2 h3 h4) ?_
  have I1 : Inv X pins σ H { s with heap := s.heap.push { cls := .type "range", data := .fields #[.int lo t, .int hi u, .int 1 v] }, toks := tk } := I.kept fun b o e => Heap.get?_push_of_some _ e
  refine ⟨(s.heap.push { cls := .type "range", data := .fields #[.int lo t, .int hi u, .int 1 v] }).objs.size, [(s.heap.push { cls := .type "range", data := .fields #[.int lo t, .int hi u, .int 1 v] }).objs.size], _, _, H, rfl,
    I1.kept (t' := tk) fun b o e => Heap.get?_push_of_some _ e, turn_range _ lo (hi - lo).toNat, ?_, fun b hb => ?_, q⟩
  · have e1 : lo + ((0 : Nat) : Int) * 1 = lo := by simp
    have e2 : (((hi - lo).toNat : Nat) : Int) - ((0 : Nat) : Int) = Builtin.Range.rangeSize lo hi 1 := by rw [rangeSize_one]; split <;> omega
    show IsRangeIter _ _ (lo + ((0 : Nat) : Int) * 1) ((((hi - lo).toNat : Nat) : Int) - ((0 : Nat) : Int)) 1
    rw [e1, e2]
    exact Heap.get?_push_size _ rfl
  · have e : b = (s.heap.push { cls := .type "range", data := .fields #[.int lo t, .int hi u, .int 1 v] }).objs.size := by simpa using hb
    subst e
    exact I1.fpOk (Nat.le_refl _) (I1.hok.fresh (Nat.le_refl _))
def iRng1 (ta : TA) : TI := fun σ H R => ta σ H fun vs H1 => ∃ j : Int, vs = [.int j] ∧ -(2 ^ 62) ≤ j ∧ j < 2 ^ 62 ∧ R (Itr 0 j.toNat) H1
def iRng2 (ta : TA) : TI := fun σ H R => ta σ H fun vs H1 => ∃ i j : Int, vs = [.int i, .int j] ∧ (-(2 ^ 62) ≤ i ∧ i < 2 ^ 62 ∧ -(2 ^ 62) ≤ j ∧ j < 2 ^ 62) ∧ R (Itr i (j - i).toNat) H1
theorem pi_range1 {a : Expr} {ta : TA} {p pos : Pos} (hg : Gl X "range") (hm : X.mg "range" = none) (ha : PA X [a] ta) (hs : starEach [a] X.env = [(false, eval a X.env)] := by rfl) : PI X tg (.Call (.Name "range" p) [a] [] pos) (iRng1 ta) := by
  intro pins s σ H R I h
  refine Call_ (ld_blt I hg hm boot_range (PyProof.Rows.callWith_type1 (thn (ha pos pins s σ H _ I h) fun us s1 ⟨vs, H1, I1, r1, q1⟩ => ?_) hs rfl))
  obtain ⟨j, e, q1, q2, q⟩ := q1
  subst e
  cases r1 with
  | cons r rr =>
    cases rr
    obtain ⟨t, rfl⟩ := r
    exact call_range_1 (range_it I1 (by omega) (by omega) q1 q2 (by simpa using q))
/-! ### for -/
/-- W: the invariant by the turn and a measure; N: what the body is to reach -/
def tFor (wi : TI) (g : TG) (tb : TS) : TS := fun D σ H => wi σ H fun J H1 => ∃ W : Nat → Nat → St → Hp → Prop, (∃ m, W 0 m σ H1) ∧ ∀ i m σ H, W i m σ H →
  (J.stop i H ∧ D.nx σ H) ∨ (J.go i H ∧ ∃ N : St → Hp → Prop, (∀ σ' H', N σ' H' → ∃ m', m' < m ∧ W (i + 1) m' σ' H') ∧ ∀ x H', J.yld i H x H' → g x σ H' fun σ2 H2 => tb { D with nx := N, ct := N, bk := D.nx } σ2 H2)
/-- the records at fp as they stand -/
def pinsAt (fp : List Addr) (h : Heap) : List (Addr × Obj) := fp.filterMap fun b => (h.get? b).map fun o => (b, o)
theorem mem_pinsAt {fp : List Addr} {h : Heap} {b : Addr} {o : Obj} (hb : b ∈ fp) (e : h.get? b = some o) : (b, o) ∈ pinsAt fp h := List.mem_filterMap.mpr ⟨b, hb, by rw [e]; rfl⟩
theorem of_pinsAt {fp : List Addr} {h : Heap} {p : Addr × Obj} (hp : p ∈ pinsAt fp h) : p.1 ∈ fp ∧ h.get? p.1 = some p.2 := by
  obtain ⟨b, hb, e⟩ := List.mem_filterMap.mp hp
  cases q : h.get? b with
  | none => rw [q] at e; cases e
  | some o =>
    rw [q] at e
    have e' : (b, o) = p := Option.some.inj e
    subst e'
    exact ⟨hb, q⟩
theorem Inv.pinned {pins : List (Addr × Obj)} {σ : St} {H : Hp} {s : Shared} {fp : List Addr} (I : Inv X pins σ H s) (hf : ∀ b ∈ fp, FpOk X pins H b) (ho : ∀ b ∈ fp, ∃ o, s.heap.get? b = some o ∧ ∀ v, o.data ≠ .cell v) : Inv X (pins ++ pinsAt fp s.heap) σ H s :=
  I.pins_of fun p hp => (List.mem_append.mp hp).elim (fun z => I.pin p (List.mem_append_right _ z)) fun z => by
    obtain ⟨hb, e⟩ := of_pinsAt z
    obtain ⟨f0, f1, f2, _⟩ := hf p.1 hb
    obtain ⟨o, e', d⟩ := ho p.1 hb
    rw [e] at e'; cases e'
    exact ⟨e, f0, f1, f2, d⟩
theorem Inv.unpinned {pins pl : List (Addr × Obj)} {σ : St} {H : Hp} {s : Shared} (I : Inv X (pins ++ pl) σ H s) : Inv X pins σ H s := I.pins_of fun p hp => I.pin p (List.mem_append_right _ (List.mem_append_left _ hp))
theorem ps_for {iter : Expr} {body : List Stmt} {wi : TI} {g : TG} {tb : TS} {pos : Pos} (hp : PassesOwn (model X.prog X.w) X.A X.env X.xe) (hc : X.calm = true) (hi : PI X tg iter wi) (hg : PG X tg g) (hb : PSs X body tb)
    (hs : ∀ x, foldedSetIterable iter X.env x = pure x := by intro _; rfl) : PS X (.For tg iter body [] pos) (tFor wi g tb) := by
  intro pins s σ H D I h
  refine wpAny_For (thn (hi pins s σ H _ I h) fun v s1 h1 => thn h1 fun itv s2 h2 => ?_) hs
  obtain ⟨it, fp, tn, J, H2, e, I2, T, st2, f2, W, ⟨m0, w0⟩, turn⟩ := h2
  subst e
  -- what stays true of the iterator's objects through the loop
  have stat : ∀ {H' : Hp}, (∀ b ∈ fp, H' b = none) → ∀ b ∈ fp, FpOk X pins H' b := fun hn b hb => ⟨hn b hb, (f2 b hb).2⟩
  refine codeAny_forLoop_any (fun n s' => ∃ i σ' H', Inv X pins σ' H' s' ∧ tn i s'.heap ∧ (∀ b ∈ fp, H' b = none) ∧ W i n σ' H') ?_ m0 ⟨0, σ, H2, I2, st2, fun b hb => (f2 b hb).1, w0⟩
  rintro n s3 ⟨i, σ3, H3, I3, st3, fr3, w3⟩
  rcases turn i n σ3 H3 w3 with ⟨stop, qn⟩ | ⟨go, N, hN, step⟩
  · refine wpAny_passesOwn hp (thn (T.done X rfl rfl rfl hc i pins s3 σ3 H3 X.xe I3 (stat fr3) st3 stop) fun r s4 ⟨hr, I4⟩ => ?_)
    subst hr
    exact wpAny_execs_nil ⟨σ3, H3, I4, qn⟩
  · refine wpAny_passesOwn hp (thn (T.item X rfl rfl rfl hc i pins s3 σ3 H3 X.xe I3 (stat fr3) st3 go) fun r s4 ⟨u, hr, h4⟩ => ?_)
    subst hr
    refine wpAny_passesOwn hp (thn h4 fun _ s5 ⟨x, H5, I5, r5, y5, st5, fr5⟩ => ?_)
    have I5' := I5.pinned (stat fr5) (T.obj _ _ st5)
    refine wpAny_passesOwn hp (thn (hg _ s5 σ3 H5 x u _ I5' r5 (step x H5 y5)) fun _ s6 ⟨σ6, H6, I6, q6⟩ => ?_)
    refine wpAny_passesOwn hp (thn (hb _ s6 σ6 H6 _ I6 q6) fun f s7 q7 => ?_)
    have again : ∀ {σ7 : St} {H7 : Hp}, Inv X (pins ++ pinsAt fp s5.heap) σ7 H7 s7 → N σ7 H7 → ∃ m, m < n ∧ ∃ i σ' H', Inv X pins σ' H' s7 ∧ tn i s7.heap ∧ (∀ b ∈ fp, H' b = none) ∧ W i m σ' H' := fun {σ7 H7} I7 n7 => by
      obtain ⟨m', hm, w7⟩ := hN σ7 H7 n7
      refine ⟨m', hm, i + 1, σ7, H7, I7.unpinned, T.keep _ _ _ st5 fun b hb o e => (I7.pin (b, o) (List.mem_append_right _ (List.mem_append_right _ (mem_pinsAt hb e)))).1, fun b hb => ?_, w7⟩
      obtain ⟨o, e, d⟩ := T.obj _ _ st5 b hb
      exact (I7.pin (b, o) (List.mem_append_right _ (List.mem_append_right _ (mem_pinsAt hb e)))).2.1
    cases f with
    | next => obtain ⟨σ7, H7, I7, n7⟩ := q7; exact again I7 n7
    | cont => obtain ⟨σ7, H7, I7, n7⟩ := q7; exact again I7 n7
    | brk => obtain ⟨σ7, H7, I7, q7⟩ := q7; exact ⟨σ7, H7, I7.unpinned, q7⟩
    | ret v => obtain ⟨x7, σ7, H7, I7, r7, q7⟩ := q7; exact ⟨x7, σ7, H7, I7.unpinned, r7, q7⟩
end

/-! ### the forms one uses -/
/-- over a list that the body leaves as it is -/
theorem for_list {K : PySem.W.Frag} {a : Addr} {xs : List V} {g : TG} {tb : TS} {D : Ends} {σ : St} {H : Hp} (Pv : Nat → St → Hp → Prop) (h0 : Pv 0 σ H) (hl : ∀ i σ H, i ≤ xs.length → Pv i σ H → SqL K H a xs)
    (hs : ∀ i x σ H, xs[i]? = some x → Pv i σ H → g x σ H fun σ2 H2 => tb { D with nx := Pv (i + 1), ct := Pv (i + 1), bk := D.nx } σ2 H2) (hd : ∀ σ H, Pv xs.length σ H → D.nx σ H) :
    ∃ W : Nat → Nat → St → Hp → Prop, (∃ m, W 0 m σ H) ∧ ∀ i m σ H, W i m σ H →
      ((Itl K a).stop i H ∧ D.nx σ H) ∨ ((Itl K a).go i H ∧ ∃ N : St → Hp → Prop, (∀ σ' H', N σ' H' → ∃ m', m' < m ∧ W (i + 1) m' σ' H') ∧ ∀ x H', (Itl K a).yld i H x H' → g x σ H' fun σ2 H2 => tb { D with nx := N, ct := N, bk := D.nx } σ2 H2) := by
  refine ⟨fun i m σ H => m = xs.length - i ∧ i ≤ xs.length ∧ Pv i σ H, ⟨xs.length, by simp, Nat.zero_le _, h0⟩, ?_⟩
  rintro i m σ H ⟨rfl, hi, p⟩
  have q := hl i σ H hi p
  by_cases hlt : i < xs.length
  · refine .inr ⟨⟨xs, xs[i], q, by simp [hlt]⟩, Pv (i + 1), fun σ' H' p' => ⟨xs.length - (i + 1), by omega, rfl, hlt, p'⟩, fun x H' y => ?_⟩
    obtain ⟨e, y⟩ := y
    subst e
    exact hs i x σ _ (y xs q) p
  · have e : i = xs.length := by omega
    subst e
    exact .inl ⟨⟨xs, q, Nat.le_refl _⟩, hd σ H p⟩
theorem for_range {lo : Int} {n : Nat} {g : TG} {tb : TS} {D : Ends} {σ : St} {H : Hp} (Pv : Nat → St → Hp → Prop) (h0 : Pv 0 σ H)
    (hs : ∀ i σ H, i < n → Pv i σ H → g (.int (lo + i)) σ H fun σ2 H2 => tb { D with nx := Pv (i + 1), ct := Pv (i + 1), bk := D.nx } σ2 H2) (hd : ∀ σ H, Pv n σ H → D.nx σ H) :
    ∃ W : Nat → Nat → St → Hp → Prop, (∃ m, W 0 m σ H) ∧ ∀ i m σ H, W i m σ H →
      ((Itr lo n).stop i H ∧ D.nx σ H) ∨ ((Itr lo n).go i H ∧ ∃ N : St → Hp → Prop, (∀ σ' H', N σ' H' → ∃ m', m' < m ∧ W (i + 1) m' σ' H') ∧ ∀ x H', (Itr lo n).yld i H x H' → g x σ H' fun σ2 H2 => tb { D with nx := N, ct := N, bk := D.nx } σ2 H2) := by
  refine ⟨fun i m σ H => m = n - i ∧ i ≤ n ∧ Pv i σ H, ⟨n, by simp, Nat.zero_le _, h0⟩, ?_⟩
  rintro i m σ H ⟨rfl, hi, p⟩
  by_cases hlt : i < n
  · refine .inr ⟨hlt, Pv (i + 1), fun σ' H' p' => ⟨n - (i + 1), by omega, rfl, hlt, p'⟩, fun x H' y => ?_⟩
    obtain ⟨e, y⟩ := y
    subst e y
    exact hs i σ _ hlt p
  · have e : i = n := by omega
    subst e
    exact .inl ⟨Nat.le_refl _, hd σ H p⟩
end L2

namespace L2
open PySem PySem.Spec PyProof.Rows

abbrev R2 := V → V → Hp → VK → Prop
/-- a two-place operation on values: f is binaryOp op, inplaceOp op or compareOp op -/
def OpR (X : Cx) (f : Value → Value → Sem Value) (r : R2) : Prop :=
  ∀ (pins : List (Addr × Obj)) (s : Shared) (σ : St) (H : Hp) (x y : V) (v u : Value) (Q : VK), Inv X pins σ H s → RelV x v → RelV y u → r x y H Q →
    wpAny (model X.prog X.w) X.A (f v u) (EP X pins σ Q) X.xe s
/-- a one-place operation -/
def UnR (X : Cx) (f : Value → Sem Value) (r : V → Hp → VK → Prop) : Prop :=
  ∀ (pins : List (Addr × Obj)) (s : Shared) (σ : St) (H : Hp) (x : V) (v : Value) (Q : VK), Inv X pins σ H s → RelV x v → r x H Q →
    wpAny (model X.prog X.w) X.A (f v) (EP X pins σ Q) X.xe s
/-- a call of a value that is known (a builtin, a type) with values -/
def CallR (X : Cx) (f : Value) (r : List V → Hp → VK → Prop) : Prop :=
  ∀ (pins : List (Addr × Obj)) (s : Shared) (σ : St) (H : Hp) (xs : List V) (us : List Value) (Q : VK), Inv X pins σ H s → Vals xs us → r xs H Q →
    wpAny (model X.prog X.w) X.A (call f us) (EP X pins σ Q) X.xe s
/-- a value's truth -/
def TruR (X : Cx) (r : V → Hp → (Bool → Hp → Prop) → Prop) : Prop :=
  ∀ (pins : List (Addr × Obj)) (s : Shared) (σ : St) (H : Hp) (x : V) (v : Value) (Q : Bool → Hp → Prop), Inv X pins σ H s → RelV x v → r x H Q →
    wpAny (model X.prog X.w) X.A (truthy v) (TP X pins σ Q) X.xe s

def tOp (r : R2) (ta tb : TE) : TE := fun σ H Q => ta σ H fun x H1 => tb σ H1 fun y H2 => r x y H2 Q
def tUn (r : V → Hp → VK → Prop) (ta : TE) : TE := fun σ H Q => ta σ H fun x H1 => r x H1 Q
/-- ints in, under C, and a value out -/
def rI (C : Int → Int → Prop) (g : Int → Int → V) : R2 := fun x y H Q => ∃ i j, x = .int i ∧ y = .int j ∧ C i j ∧ Q (g i j) H
def rI0 (g : Int → Int → V) : R2 := fun x y H Q => ∃ i j, x = .int i ∧ y = .int j ∧ Q (g i j) H
def rU (g : Int → V) : V → Hp → VK → Prop := fun x H Q => ∃ i, x = .int i ∧ Q (g i) H

section
variable {X : Cx} {a b c : Expr} {ta tb tc : TE} {pos : Pos}

theorem binT (ha : PE X a ta) (hb : PE X b tb) {pins : List (Addr × Obj)} {s : Shared} {σ : St} {H : Hp} {R : V → V → Hp → Prop} (I : Inv X pins σ H s)
    (h : ta σ H fun x H1 => tb σ H1 fun y H2 => R x y H2) {Q : Value → Shared → Prop} {f : Value → Value → Sem Value}
    (hf : ∀ v u s2 x y H2, Inv X pins σ H2 s2 → RelV x v → RelV y u → R x y H2 → wpAny (model X.prog X.w) X.A (f v u) Q X.xe s2) :
    wpAny (model X.prog X.w) X.A (eval a X.env) (fun v s₁ => wpAny (model X.prog X.w) X.A (eval b X.env) (fun u s₂ => wpAny (model X.prog X.w) X.A (f v u) Q X.xe s₂) X.xe s₁) X.xe s := by
  refine thn (ha pins s σ H _ I h) fun v s1 ⟨x, H1, I1, r1, q1⟩ => ?_
  refine thn (hb pins s1 σ H1 _ I1 q1) fun u s2 ⟨y, H2, I2, r2, q2⟩ => ?_
  exact hf v u s2 x y H2 I2 r1 r2 q2

theorem pe_op {op : Operator} {r : R2} (ho : OpR X (binaryOp op) r) (ha : PE X a ta) (hb : PE X b tb) : PE X (.BinOp a op b pos) (tOp r ta tb) := by
  intro pins s σ H Q I h
  exact wpAny_BinOp (binT ha hb I h fun v u s2 x y H2 I2 rx ry q => ho pins s2 σ H2 x y v u Q I2 rx ry q)
theorem pe_un {op : UnaryOp} {r : V → Hp → VK → Prop} (ho : UnR X (unaryOp op) r) (ha : PE X a ta) : PE X (.UnaryOp op a pos) (tUn r ta) := by
  intro pins s σ H Q I h
  exact UnaryOp_ (thn (ha pins s σ H _ I h) fun v s1 ⟨x, H1, I1, r1, q1⟩ => ho pins s1 σ H1 x v Q I1 r1 q1)
/-! ### ints -/
theorem opI {f : Value → Value → Sem Value} {C : Int → Int → Prop} {g : Int → Int → Int}
    (rule : ∀ (i j : Int) (t u : Tok) (s : Shared) (Q : Value → Shared → Prop) (E : Value → Shared → Prop), C i j → Q (.int (g i j) s.toks) { s with toks := s.toks + 1 } → wpAny (model X.prog X.w) X.A (f (.int i t) (.int j u)) Q E s) :
    OpR X f (rI C fun i j => .int (g i j)) := by
  intro pins s σ H x y v u Q I rx ry h
  obtain ⟨i, j, rfl, rfl, hc, q⟩ := h
  obtain ⟨t, rfl⟩ := rx
  obtain ⟨t', rfl⟩ := ry
  exact rule i j t t' s _ _ hc ⟨.int (g i j), H, I.tok _, ⟨_, rfl⟩, q⟩
theorem opI0 {f : Value → Value → Sem Value} {g : Int → Int → Int}
    (rule : ∀ (i j : Int) (t u : Tok) (s : Shared) (Q : Value → Shared → Prop) (E : Value → Shared → Prop), Q (.int (g i j) s.toks) { s with toks := s.toks + 1 } → wpAny (model X.prog X.w) X.A (f (.int i t) (.int j u)) Q E s) :
    OpR X f (rI0 fun i j => .int (g i j)) := by
  intro pins s σ H x y v u Q I rx ry h
  obtain ⟨i, j, rfl, rfl, q⟩ := h
  obtain ⟨t, rfl⟩ := rx
  obtain ⟨t', rfl⟩ := ry
  exact rule i j t t' s _ _ ⟨.int (g i j), H, I.tok _, ⟨_, rfl⟩, q⟩
theorem opB0 {f : Value → Value → Sem Value} {g : Int → Int → Bool}
    (rule : ∀ (i j : Int) (t u : Tok) (s : Shared) (Q : Value → Shared → Prop) (E : Value → Shared → Prop), Q (.bool (g i j)) s → wpAny (model X.prog X.w) X.A (f (.int i t) (.int j u)) Q E s) :
    OpR X f (rI0 fun i j => .bl (g i j)) := by
  intro pins s σ H x y v u Q I rx ry h
  obtain ⟨i, j, rfl, rfl, q⟩ := h
  obtain ⟨t, rfl⟩ := rx
  obtain ⟨t', rfl⟩ := ry
  exact rule i j t t' s _ _ ⟨.bl (g i j), H, I, rfl, q⟩

def CDiv (i j : Int) : Prop := 0 < j ∧ j < 1073741824
def CDivN (i j : Int) : Prop := j ≠ 0 ∧ j.natAbs < 1073741824
def CPow (i j : Int) : Prop := 0 ≤ j ∧ j ≤ 1000000 ∧ i.natAbs < 2 ^ 64
def CMul (i j : Int) : Prop := (-(2 ^ 64) < i ∧ i < 2 ^ 64) ∨ (-(2 ^ 64) < j ∧ j < 2 ^ 64)
theorem CMul.ok {i j : Int} (h : CMul i j) : IntMulOk i j := by
  rcases h with ⟨h1, h2⟩ | ⟨h1, h2⟩
  · exact .of_left (intBits_le_64 h1 h2)
  · exact .of_right (intBits_le_64 h1 h2)
theorem two_pow_nn (k : Nat) : (0 : Int) ≤ 2 ^ k := by
  rw [two_pow_cast]
  exact Int.natCast_nonneg _

theorem op_add : OpR X (binaryOp .Add) (rI0 fun i j => .int (i + j)) := opI0 fun _ _ _ _ _ _ _ q => add_int q
theorem op_sub : OpR X (binaryOp .Sub) (rI0 fun i j => .int (i - j)) := opI0 fun _ _ _ _ _ _ _ q => sub_int q
theorem op_mul : OpR X (binaryOp .Mult) (rI CMul fun i j => .int (i * j)) := opI fun _ _ _ _ _ _ _ hc q => mul_int q hc.ok
/-- // by a positive divisor -/
theorem op_fdiv : OpR X (binaryOp .FloorDiv) (rI CDiv fun i j => .int (i / j)) := opI fun i j _ _ _ _ _ hc q => by
  have h1 : (0 : Int) < j := hc.1
  have h2 : j < 1073741824 := hc.2
  exact floordiv_int (by omega) (by rw [Int.fdiv_eq_ediv_of_nonneg i (by omega)]; exact q) (.inl (PyProof.noPylong_small (by omega)))
/-- % by a positive divisor of any size -/
theorem op_mod : OpR X (binaryOp .Mod) (rI (fun _ j => 0 < j) fun i j => .int (i % j)) := opI fun i j _ _ _ _ _ hc q => by
  have h1 : (0 : Int) < j := hc
  exact mod_int' (by omega) (by rw [Int.fmod_eq_emod_of_nonneg i (by omega)]; exact q)
theorem op_pow : OpR X (binaryOp .Pow) (rI CPow fun i j => .int (i ^ j.toNat)) := opI fun _ _ _ _ _ _ _ hc q => pow_int_small hc.1 hc.2.1 hc.2.2 q
theorem op_shl : OpR X (binaryOp .LShift) (rI CPow fun i j => .int (i * 2 ^ j.toNat)) := opI fun _ _ _ _ _ _ _ hc q => lshift_int_small hc.1 hc.2.1 hc.2.2 q
theorem op_shr : OpR X (binaryOp .RShift) (rI (fun _ j => 0 ≤ j) fun i j => .int (i / 2 ^ j.toNat)) := opI fun i j _ _ _ _ _ hc q =>
  rshift_int hc (by rw [Int.fdiv_eq_ediv_of_nonneg i (two_pow_nn _)]; exact q)
theorem op_and : OpR X (binaryOp .BitAnd) (rI0 fun i j => .int (Builtin.bitAnd i j)) := opI0 fun _ _ _ _ _ _ _ q => and_int q
theorem unI {f : Value → Sem Value} {g : Int → Int}
    (rule : ∀ (i : Int) (t : Tok) (s : Shared) (Q : Value → Shared → Prop) (E : Value → Shared → Prop), Q (.int (g i) s.toks) { s with toks := s.toks + 1 } → wpAny (model X.prog X.w) X.A (f (.int i t)) Q E s) :
    UnR X f (rU fun i => .int (g i)) := by
  intro pins s σ H x v Q I rx h
  obtain ⟨i, rfl, q⟩ := h
  obtain ⟨t, rfl⟩ := rx
  exact rule i t s _ _ ⟨.int (g i), H, I.tok _, ⟨_, rfl⟩, q⟩
theorem un_neg : UnR X (unaryOp .USub) (rU fun i => .int (-i)) := unI fun _ _ _ _ _ q => neg_int q
/-! ### bools among ints: n += (a < b) -/
end

/-! ### comparisons -/
/-- the scalars that == tells apart as data does -/
def scal : V → V → Bool
  | .non, .non => true | .non, .int _ => true | .int _, .non => true | .non, .bl _ => true | .bl _, .non => true | .non, .str _ => true | .str _, .non => true
  | .int _, .int _ => true | .bl _, .bl _ => true | .str _, .str _ => true | .byt _, .byt _ => true
  | .int _, .str _ => true | .str _, .int _ => true | .bl _, .str _ => true | .str _, .bl _ => true
  | _, _ => false
def rEq : R2 := fun x y H Q => scal x y = true ∧ Q (.bl (decide (x = y))) H
def rNe : R2 := fun x y H Q => scal x y = true ∧ Q (.bl (!decide (x = y))) H

theorem dec_int {i j : Int} : decide (V.int i = V.int j) = (i == j) := by
  rw [Bool.eq_iff_iff]
  simp
theorem dec_bl {i j : Bool} : decide (V.bl i = V.bl j) = (i == j) := by
  rw [Bool.eq_iff_iff]
  simp
theorem dec_str {i j : Str} : decide (V.str i = V.str j) = (i == j) := by
  rw [Bool.eq_iff_iff]
  simp
theorem dec_byt {i j : Array UInt8} : decide (V.byt i = V.byt j) = (i.toList == j.toList) := by
  rw [Bool.eq_iff_iff]
  cases i
  cases j
  simp

section
variable {X : Cx} {a b c : Expr} {ta tb tc : TE} {pos : Pos}
theorem fin_bl {pins : List (Addr × Obj)} {σ : St} {H : Hp} {s : Shared} {Q : VK} {k k' : Bool} (I : Inv X pins σ H s) (q : Q (.bl k) H) (e : k = k') : EP X pins σ Q (.bool k') s := by
  subst e
  exact ⟨.bl k, H, I, rfl, q⟩
theorem op_eq : OpR X (compareOp .Eq) rEq := by
  intro pins s σ H x y v u Q I rx ry h
  obtain ⟨hs, q⟩ := h
  cases x with
  | non =>
    cases rx
    cases y with
    | non => cases ry; exact PySem.EqNone.eq_none_none (fin_bl I q (by simp))
    | bl j => cases ry; exact PySem.EqNone.eq_none_bool (fin_bl I q (by simp))
    | int j => obtain ⟨t', rfl⟩ := ry; exact PySem.EqNone.eq_none_int (fin_bl I q (by simp))
    | str j => obtain ⟨t', rfl⟩ := ry; exact PySem.EqNone.eq_none_str (fin_bl I q (by simp))
    | _ => exact absurd (show false = true from hs) Bool.false_ne_true
  | bl i =>
    cases rx
    cases y with
    | non => cases ry; exact PySem.EqNone.eq_bool_none (fin_bl I q (by simp))
    | bl j => cases ry; exact eq_bool (fin_bl I q dec_bl)
    | str j => obtain ⟨t', rfl⟩ := ry; exact PySem.EqMixed.eq_bool_str (fin_bl I q (by simp))
    | _ => exact absurd (show false = true from hs) Bool.false_ne_true
  | int i =>
    obtain ⟨t, rfl⟩ := rx
    cases y with
    | non => cases ry; exact PySem.EqNone.eq_int_none (fin_bl I q (by simp))
    | int j => obtain ⟨t', rfl⟩ := ry; exact eq_int (fin_bl I q dec_int)
    | str j => obtain ⟨t', rfl⟩ := ry; exact PySem.EqMixed.eq_int_str (fin_bl I q (by simp))
    | _ => exact absurd (show false = true from hs) Bool.false_ne_true
  | str i =>
    obtain ⟨t, rfl⟩ := rx
    cases y with
    | non => cases ry; exact PySem.EqNone.eq_str_none (fin_bl I q (by simp))
    | bl j => cases ry; exact PySem.EqMixed.eq_str_bool (fin_bl I q (by simp))
    | int j => obtain ⟨t', rfl⟩ := ry; exact PySem.EqMixed.eq_str_int (fin_bl I q (by simp))
    | str j => obtain ⟨t', rfl⟩ := ry; exact eq_str (fin_bl I q dec_str)
    | _ => exact absurd (show false = true from hs) Bool.false_ne_true
  | byt i =>
    obtain ⟨t, rfl⟩ := rx
    cases y with
    | byt j => obtain ⟨t', rfl⟩ := ry; exact PySem.W.eq_bytes (fin_bl I q dec_byt)
    | _ => exact absurd (show false = true from hs) Bool.false_ne_true
  | _ => cases y <;> exact absurd (show false = true from hs) Bool.false_ne_true
theorem op_ne : OpR X (compareOp .NotEq) rNe := by
  intro pins s σ H x y v u Q I rx ry h
  obtain ⟨hs, q⟩ := h
  cases x with
  | non =>
    cases rx
    cases y with
    | non => cases ry; exact PySem.EqNone.ne_none_none (fin_bl I q (by simp))
    | bl j => cases ry; exact PySem.EqNone.ne_none_bool (fin_bl I q (by simp))
    | int j => obtain ⟨t', rfl⟩ := ry; exact PySem.EqNone.ne_none_int (fin_bl I q (by simp))
    | str j => obtain ⟨t', rfl⟩ := ry; exact PySem.EqNone.ne_none_str (fin_bl I q (by simp))
    | _ => exact absurd (show false = true from hs) Bool.false_ne_true
  | bl i =>
    cases rx
    cases y with
    | non => cases ry; exact PySem.EqNone.ne_bool_none (fin_bl I q (by simp))
    | bl j => cases ry; exact ne_bool (fin_bl I q (congrArg not dec_bl))
    | str j => obtain ⟨t', rfl⟩ := ry; exact PySem.EqMixed.ne_bool_str (fin_bl I q (by simp))
    | _ => exact absurd (show false = true from hs) Bool.false_ne_true
  | int i =>
    obtain ⟨t, rfl⟩ := rx
    cases y with
    | non => cases ry; exact PySem.EqNone.ne_int_none (fin_bl I q (by simp))
    | int j => obtain ⟨t', rfl⟩ := ry; exact ne_int (fin_bl I q (congrArg not dec_int))
    | str j => obtain ⟨t', rfl⟩ := ry; exact PySem.EqMixed.ne_int_str (fin_bl I q (by simp))
    | _ => exact absurd (show false = true from hs) Bool.false_ne_true
  | str i =>
    obtain ⟨t, rfl⟩ := rx
    cases y with
    | non => cases ry; exact PySem.EqNone.ne_str_none (fin_bl I q (by simp))
    | bl j => cases ry; exact PySem.EqMixed.ne_str_bool (fin_bl I q (by simp))
    | int j => obtain ⟨t', rfl⟩ := ry; exact PySem.EqMixed.ne_str_int (fin_bl I q (by simp))
    | str j => obtain ⟨t', rfl⟩ := ry; exact ne_str (fin_bl I q (congrArg not dec_str))
    | _ => exact absurd (show false = true from hs) Bool.false_ne_true
  | byt i =>
    obtain ⟨t, rfl⟩ := rx
    cases y with
    | byt j => obtain ⟨t', rfl⟩ := ry; exact PySem.W.ne_bytes (fin_bl I q (congrArg not dec_byt))
    | _ => exact absurd (show false = true from hs) Bool.false_ne_true
  | _ => cases y <;> exact absurd (show false = true from hs) Bool.false_ne_true

theorem op_lt : OpR X (compareOp .Lt) (rI0 fun i j => .bl (decide (i < j))) := opB0 fun _ _ _ _ _ _ _ q => lt_int q
theorem op_le : OpR X (compareOp .LtE) (rI0 fun i j => .bl (decide (i ≤ j))) := opB0 fun _ _ _ _ _ _ _ q => le_int q
theorem op_gt : OpR X (compareOp .Gt) (rI0 fun i j => .bl (decide (j < i))) := opB0 fun _ _ _ _ _ _ _ q => gt_int q
/-- is, is not of two objects that are tracked lists or instances -/
def isObj : HO → Bool
  | .lst _ => true
  | .ins _ _ _ => true
  | _ => false
/-- two rules for one operation: by cases -/
theorem OpR.or {f : Value → Value → Sem Value} {r r' : R2} (h : OpR X f r) (h' : OpR X f r') : OpR X f (fun x y H Q => r x y H Q ∨ r' x y H Q) := by
  intro pins s σ H x y v u Q I rx ry q
  rcases q with q | q
  · exact h pins s σ H x y v u Q I rx ry q
  · exact h' pins s σ H x y v u Q I rx ry q

theorem nomark (b : Expr) {op : CmpOp} (h : op ≠ .In := by decide) (h2 : op ≠ .NotIn := by decide) : behindInMarks op b = false := by
  have e1 : (op == CmpOp.In) = false := by cases op <;> first | rfl | exact absurd rfl h
  have e2 : (op == CmpOp.NotIn) = false := by cases op <;> first | rfl | exact absurd rfl h2
  cases b <;> simp [behindInMarks, e1, e2]
/-- a comparison as a value; hm: nomark b, or (for in, not in) by with_unfolding_all rfl -/
theorem pe_cmpR {op : CmpOp} {r : R2} (ho : OpR X (compareOp op) r) (ha : PE X a ta) (hb : PE X b tb) (hm : behindInMarks op b = false) : PE X (.Compare a [op] [b] pos) (tOp r ta tb) := by
  intro pins s σ H Q I h
  exact wpAny_Compare1 (binT ha hb I h fun v u s2 x y H2 I2 rx ry q => ho pins s2 σ H2 x y v u Q I2 rx ry q) hm
/-- a reading of a value as a test -/
def tTest (t : TE) : TT := fun σ H Q => t σ H fun x H' => ∃ k, x = .bl k ∧ Q k H'
theorem pt_cmpR {op : CmpOp} {r : R2} (ho : OpR X (compareOp op) r) (ha : PE X a ta) (hb : PE X b tb) (hm : behindInMarks op b = false) : PT X (.Compare a [op] [b] pos) (tTest (tOp r ta tb)) := by
  intro pins s σ H Q I h
  refine wpAny_isTrue_Compare1 (thn (ha pins s σ H _ I h) fun v s1 ⟨x, H1, I1, r1, q1⟩ => thn (hb pins s1 σ H1 _ I1 q1) fun u s2 ⟨y, H2, I2, r2, q2⟩ =>
    thn (ho pins s2 σ H2 x y v u _ I2 r1 r2 q2) fun c s3 ⟨z, H3, I3, r3, k, e, q3⟩ => ?_) hm
  subst e
  cases r3
  exact wpAny_truthy_bool ⟨H3, I3, q3⟩
/-- a op1 b op2 c -/
def tChain (r r' : R2) (ta tb tc : TE) : TE := fun σ H Q => ta σ H fun x H1 => tb σ H1 fun y H2 => r x y H2 fun z H3 => ∃ k, z = .bl k ∧
  (if k = true then tc σ H3 fun w' H4 => r' y w' H4 Q else Q (.bl false) H3)
theorem pe_chain {op op' : CmpOp} {r r' : R2} (ho : OpR X (compareOp op) r) (ho' : OpR X (compareOp op') r') (ha : PE X a ta) (hb : PE X b tb) (hc : PE X c tc)
    (hm : lastMarks [op, op'] [b, c] = false := by with_unfolding_all rfl) : PE X (.Compare a [op, op'] [b, c] pos) (tChain r r' ta tb tc) := by
  intro pins s σ H Q I h
  refine Compare_chain (thn (ha pins s σ H _ I h) fun v s1 ⟨x, H1, I1, r1, q1⟩ => chain_link (thn (hb pins s1 σ H1 _ I1 q1) fun u s2 ⟨y, H2, I2, r2, q2⟩ =>
    thn (ho pins s2 σ H2 x y v u _ I2 r1 r2 q2) fun d s3 ⟨z, H3, I3, r3, k, e, q3⟩ => ?_)) hm
  subst e
  cases r3
  refine wpAny_truthy_bool ?_
  cases k with
  | false => exact ite_ff ⟨.bl false, H3, I3, rfl, q3⟩
  | true => exact ite_tt (chain_last (thn (hc pins s3 σ H3 _ I3 q3) fun w' s4 ⟨z', H4, I4, r4, q4⟩ => ho' pins s4 σ H4 y z' u w' Q I4 r2 r4 q4))
/-! ### truth -/
/-- a value's truth by the abstract heap -/
def TruV (K : PySem.W.Frag) (x : V) (H : Hp) (k : Bool) : Prop :=
  match x with
  | .non => k = false
  | .bl b => k = b
  | .int i => k = (i != 0)
  | .str y => y.length ≤ sizeLine ∧ k = ((y.length : Int) != 0)
  | .byt y => y.size ≤ sizeLine ∧ k = ((y.size : Int) != 0)
  | .ref p => (∃ xs, SqL K H p xs ∧ k = !xs.isEmpty) ∨ (∃ xs, SqT K H p xs ∧ k = !xs.isEmpty) ∨ ∃ kvs, H p = some (.dK kvs) ∧ k = !kvs.isEmpty
  | _ => False
theorem line63 : (sizeLine : Nat) < 2 ^ 63 := by rw [sizeLine_eq]; decide
/-! ### strs and bytes -/
def PlainIxT (b : Expr) : Prop := ∀ o i, subscripted b false o i = operate [o, i] (getItem o i)
/-! ### scalar builtins, by CallR -/
theorem vals1 {x : V} {us : List Value} (r : Vals [x] us) : ∃ u, us = [u] ∧ RelV x u := by
  cases r with
  | cons r1 r2 => cases r2; exact ⟨_, rfl, r1⟩
theorem vals2 {x y : V} {us : List Value} (r : Vals [x, y] us) : ∃ u w', us = [u, w'] ∧ RelV x u ∧ RelV y w' := by
  cases r with
  | cons r1 r2 =>
    cases r2 with
    | cons r3 r4 => cases r4; exact ⟨_, _, rfl, r1, r3⟩
theorem call_max2 (hc : X.A.handled = none) : CallR X (.builtin "max") (fun xs H Q => ∃ i j, xs = [.int i, .int j] ∧ Q (.int (if j > i then j else i)) H) := by
  intro pins s σ H xs us Q I r h
  obtain ⟨i, j, rfl, q⟩ := h
  obtain ⟨u, w', rfl, ⟨t, rfl⟩, ⟨t', rfl⟩⟩ := vals2 r
  refine max_two_ints hc fun h' tk k => ⟨_, H, I.kept k, ?_, q⟩
  by_cases hj : j > i
  · rw [if_pos hj, if_pos hj]; exact ⟨_, rfl⟩
  · rw [if_neg hj, if_neg hj]; exact ⟨_, rfl⟩
theorem call_min2 (hc : X.A.handled = none) : CallR X (.builtin "min") (fun xs H Q => ∃ i j, xs = [.int i, .int j] ∧ Q (.int (if j < i then j else i)) H) := by
  intro pins s σ H xs us Q I r h
  obtain ⟨i, j, rfl, q⟩ := h
  obtain ⟨u, w', rfl, ⟨t, rfl⟩, ⟨t', rfl⟩⟩ := vals2 r
  refine min_two_ints hc fun h' tk k => ⟨_, H, I.kept k, ?_, q⟩
  by_cases hj : j < i
  · rw [if_pos hj, if_pos hj]; exact ⟨_, rfl⟩
  · rw [if_neg hj, if_neg hj]; exact ⟨_, rfl⟩
theorem call_int1 : CallR X (.type "int") (fun xs H Q => (∃ i, xs = [.int i] ∧ Q (.int i) H) ∨ ∃ k, xs = [.bl k] ∧ Q (.int (if k then 1 else 0)) H) := by
  intro pins s σ H xs us Q I r h
  rcases h with ⟨i, rfl, q⟩ | ⟨k, rfl, q⟩
  · obtain ⟨u, rfl, t, rfl⟩ := vals1 r
    exact call_int_int ⟨.int i, H, I, ⟨_, rfl⟩, q⟩
  · obtain ⟨u, rfl, r1⟩ := vals1 r
    cases r1
    exact call_int_bool ⟨.int (if k then 1 else 0), H, I.tok _, ⟨_, rfl⟩, q⟩
/-- len of a str, a bytes, a list, a tuple -/
def LenV (K : PySem.W.Frag) (x : V) (H : Hp) (n : Nat) : Prop :=
  match x with
  | .str y => y.length ≤ sizeLine ∧ n = y.length
  | .byt y => y.size ≤ sizeLine ∧ n = y.size
  | .ref p => (∃ xs, SqL K H p xs ∧ n = xs.length) ∨ ∃ xs, SqT K H p xs ∧ n = xs.length
  | _ => False
end
end L2

namespace L2
open PySem PySem.Spec PyProof.Rows

/-! ### an instance, its attributes a map -/
structure ObjM (h : Heap) (x dx C : Addr) (mA : Str → Option Value) : Prop where
  obj : h.get? x = some (PySem.W.instObj C dx)
  ns : h.Ns1 dx mA
  ne : dx ≠ x

theorem lookIn_ns {h : Heap} {dx : Addr} {mA : Str → Option Value} (n : h.Ns1 dx mA) : ∃ od, h.get? dx = some od ∧ ∀ name, PySem.W.lookIn name od = some (mA name) := by
  obtain ⟨o, es, ep, ho, hd, hk, _, hm⟩ := n
  refine ⟨o, ho, fun name => ?_⟩
  have e := hm name
  unfold nsFind findBy at e
  rw [← Array.find?_toList] at e
  unfold PySem.W.lookIn
  rw [hd]
  dsimp only
  split
  · rename_i y q
    rw [q] at e
    exact congrArg some e
  · rename_i q
    rw [q] at e
    have a : es.toList.any (·.refKey) = false := by
      rw [List.any_eq_false]
      intro y hy
      obtain ⟨z, t, hkey⟩ := hk y (Array.mem_toList_iff.mp hy)
      simp [DictEntry.refKey, hkey]
    have a' : ¬ es.toList.any (·.refKey) = true := by rw [a]; exact Bool.false_ne_true
    rw [if_neg a']
    exact congrArg some e

theorem ObjM.look {h : Heap} {x dx C : Addr} {mA : Str → Option Value} (I : ObjM h x dx C mA) : ∃ od, PySem.W.InstAt h x (PySem.W.instObj C dx) C (some od) ∧ ∀ name, PySem.W.lookIn name od = some (mA name) :=
  let ⟨od, ho, hl⟩ := lookIn_ns I.ns
  ⟨od, ⟨I.obj, rfl, rfl, ho⟩, hl⟩

section
variable {prog : Program} {w : World} {A : Around} {E : Value → Shared → Prop} {s : Shared} {K : PySem.W.Frag} {x dx C f : Addr} {mA : Str → Option Value} {name : Str} {v : Value}

theorem get_map {expr : Bool} {Q : Value → Shared → Prop} (X : K.In s.heap) (I : ObjM s.heap x dx C mA) (hg : PySem.W.plainGet K C name = true) (hh : PySem.W.hasDictIn K C = true)
    (ha : PySem.W.findIn K (.ref C) name = some none) (hv : mA name = some v) (hv' : PySem.W.handedIn v = true) (h : Q v { s with toks := s.toks + 1 }) :
    wpAny (model prog w) A (getAttr (.ref x) name expr) Q E s := by
  obtain ⟨od, J, hl⟩ := I.look
  exact PySem.W.get_value X J (PySem.W.plainGet_of hg).1 (PySem.W.findObj_own hh ha rfl (by rw [hl, hv])) hv' h

theorem get_meth {pl : Sem Bool} {Q : Value × List Value → Shared → Prop} (X : K.In s.heap) (I : ObjM s.heap x dx C mA) (hg : PySem.W.plainGet K C name = true)
    (hf : PySem.W.findIn K (.ref C) name = some (some (.ref f))) (ht : PySem.W.isFn K (.ref f) = true) (hv : mA name = none) (h : Q (.ref f, [.ref x]) s) :
    wpAny (model prog w) A (getMethod (.ref x) name pl) Q E s := by
  obtain ⟨od, J, hl⟩ := I.look
  exact PySem.W.method_fn X J (PySem.W.plainGet_of hg).1 (PySem.W.plainGet_of hg).2 hf (beq_iff_eq.mp ht) (by show (PySem.W.lookIn name od).map (·.isSome) = some false; rw [hl, hv]; rfl) h

theorem set_map {ns : List Str} {Q : Unit → Shared → Prop} (X : K.In s.heap) (I : ObjM s.heap x dx C mA)
    (hs : PySem.W.findIn K (.ref C) "__setattr__" = some (some (.builtin "object.__setattr__"))) (hp : PySem.W.plainOver K C = true) (ht : PySem.W.takerIn K C name = some none) (hh : PySem.W.hasDictIn K C = true)
    (hw : PySem.Within mA ns) (hsz : ns.length ≤ sizeLine)
    (h : ∀ h', ObjM h' x dx C (fun y => if y = name then some v else mA y) → Heap.SameBut dx s.heap h' → Q () { s with heap := h', toks := s.toks + 2 }) :
    wpAny (model prog w) A (setAttr (.ref x) name v) Q E s := by
  obtain ⟨od, J, hl⟩ := I.look
  refine PySem.W.set_plain X J hs (PySem.W.osa_open (s := { s with toks := s.toks + 1 }) (r := none) X J hp ht fun b => ?_)
  obtain ⟨cd, hc, hd'⟩ := PySem.W.any_some hh
  have hx : s.heap.get? x = some ⟨.ref C, some dx, .plain, #[]⟩ := I.obj
  refine wpAny_bind (wpAny_pure (wpAny_bind (wpAny_bind (wpAny_loadPart hx (wpAny_bind (PySem.W.Looks.here (s := { s with toks := s.toks + 1 }) (PySem.W.looks_clsIn X hc) ?_))))))
  rw [hd']
  refine wpAny_pure (a := some dx) (wpAny_bind (wpAny_pure (wpAny_bind ?_)))
  refine wpAny_nsSet1 (s := { s with toks := s.toks + 1 }) I.ns fun h' hn2 hs2 => ?_
  obtain ⟨oD, esD, epD, hoD, hdD, hcD⟩ := hn2.count (PySem.Within.cons name v hw)
  refine wpAny_bind (wpAny_lookBehind hoD (by rw [hdD]; exact pastItsLine_dict (Nat.le_trans hcD (by rw [List.length_cons]; omega))) ?_)
  exact wpAny_pure (h _ ⟨(hs2.2 _ (Ne.symm I.ne)).trans I.obj, hn2, I.ne⟩ hs2)

/-- C(..): the dict at the heap's end, the instance behind it; then its __init__ -/
theorem make_map {R : Result → Shared → Prop} {vs : List Value} {kw : List (Str × Value)} (X : K.In s.heap) (hm : PySem.W.makesIn K C = true)
    (hi : PySem.W.findIn K (.ref C) "__init__" = some (some (.ref f))) (hf : PySem.W.typeIn K (.ref f) = some (.type "function"))
    (h : codeAny (model prog w) (A.under (.builtin "type.__call__" ⟨.ref C :: vs, kw⟩)) (.call (.ref f) ⟨.ref (s.heap.objs.size + 1) :: vs, kw⟩) (PySem.W.InitBack (s.heap.objs.size + 1) R)
      { s with heap := (s.heap.push PySem.W.emptyDict).push (PySem.W.instObj C s.heap.objs.size) }) :
    codeAny (model prog w) A (.call (.ref C) ⟨vs, kw⟩) R s := by
  obtain ⟨hh, g, d, t, os⟩ := s
  exact PySem.W.make_core (PySem.W.makes_of X hm) (PySem.W.looks_findIn X hi) (fun self => PySem.W.bind_fn X self hf) (.inl rfl) h
/-- C() where there is no __init__ but object's -/
theorem make_map0 {R : Result → Shared → Prop} (X : K.In s.heap) (hm : PySem.W.makesIn K C = true)
    (hi : PySem.W.findIn K (.ref C) "__init__" = some (some (.builtin "object.__init__")))
    (hb : ∀ self, PySem.W.Looks (model prog w) s.heap (bindSpecial (.builtin "object.__init__") self) (.builtin "object.__init__", [self]))
    (h : codeAny (model prog w) (A.under (.builtin "type.__call__" ⟨[.ref C], []⟩)) (.call (.builtin "object.__init__") ⟨[.ref (s.heap.objs.size + 1)], []⟩) (PySem.W.InitBack (s.heap.objs.size + 1) R)
      { s with heap := (s.heap.push PySem.W.emptyDict).push (PySem.W.instObj C s.heap.objs.size) }) :
    codeAny (model prog w) A (.call (.ref C) ⟨[], []⟩) R s := by
  obtain ⟨hh, g, d, t, os⟩ := s
  exact PySem.W.make_core (PySem.W.makes_of X hm) (PySem.W.looks_findIn X hi) hb (.inr ⟨rfl, rfl⟩) h
end

/-! ### the attributes as a list of pairs -/
def putF (f : Str) (v : V) : List (Str × V) → List (Str × V)
  | [] => [(f, v)]
  | (g, x) :: r => if g = f then (g, v) :: r else (g, x) :: putF f v r
theorem lookup_putF (f g : Str) (v : V) : ∀ fs : List (Str × V), (putF f v fs).lookup g = if g = f then some v else fs.lookup g
  | [] => by
    show List.lookup g [(f, v)] = _
    by_cases h : g = f
    · have hb : (g == f) = true := beq_iff_eq.mpr h
      simp only [List.lookup, hb, if_pos h]
    · have hb : (g == f) = false := beq_eq_false_iff_ne.mpr h
      simp only [List.lookup, hb, if_neg h]
  | (k, x) :: r => by
    have ih := lookup_putF f g v r
    rw [show putF f v ((k, x) :: r) = (if k = f then (k, v) :: r else (k, x) :: putF f v r) from rfl]
    by_cases hk : k = f
    · rw [if_pos hk]
      by_cases h : g = k
      · have hb : (g == k) = true := beq_iff_eq.mpr h
        simp only [List.lookup, hb, if_pos (h.trans hk)]
      · have hb : (g == k) = false := beq_eq_false_iff_ne.mpr h
        simp only [List.lookup, hb, if_neg (fun e : g = f => h (e.trans hk.symm))]
    · rw [if_neg hk]
      by_cases h : g = k
      · have hb : (g == k) = true := beq_iff_eq.mpr h
        simp only [List.lookup, hb, if_neg (fun e : g = f => hk (h.symm.trans e))]
      · have hb : (g == k) = false := beq_eq_false_iff_ne.mpr h
        simp only [List.lookup, hb]
        exact ih
theorem keys_putF (f : Str) (v : V) : ∀ fs : List (Str × V), f ∈ (putF f v fs).map (·.1) ∧ ∀ g, g ∈ fs.map (·.1) → g ∈ (putF f v fs).map (·.1)
  | [] => ⟨by simp [putF], fun g h => by simp at h⟩
  | (k, x) :: r => by
    obtain ⟨i1, i2⟩ := keys_putF f v r
    rw [show putF f v ((k, x) :: r) = (if k = f then (k, v) :: r else (k, x) :: putF f v r) from rfl]
    by_cases hk : k = f
    · rw [if_pos hk]
      subst hk
      exact ⟨by simp, fun g h => by simpa using h⟩
    · rw [if_neg hk]
      refine ⟨?_, fun g h => ?_⟩
      · rw [List.map_cons]
        exact List.mem_cons_of_mem _ i1
      · rw [List.map_cons] at h ⊢
        rcases List.mem_cons.mp h with e | e
        · exact List.mem_cons.mpr (.inl e)
        · exact List.mem_cons_of_mem _ (i2 g e)
theorem length_putF (f : Str) (v : V) : ∀ fs : List (Str × V), (putF f v fs).length ≤ fs.length + 1
  | [] => by simp [putF]
  | (k, x) :: r => by
    have ih := length_putF f v r
    rw [show putF f v ((k, x) :: r) = (if k = f then (k, v) :: r else (k, x) :: putF f v r) from rfl]
    by_cases hk : k = f
    · rw [if_pos hk, List.length_cons, List.length_cons]; omega
    · rw [if_neg hk, List.length_cons, List.length_cons]; omega

theorem RelO.some_of {v : V} {o : Option Value} (r : RelO (some v) o) : ∃ u, o = some u ∧ RelV v u := by
  cases o with
  | none => exact (show False from r).elim
  | some u => exact ⟨u, rfl, r⟩
theorem RelO.none_of {o : Option Value} (r : RelO none o) : o = none := by
  cases o with
  | none => rfl
  | some u => exact (show False from r).elim
theorem handed_of {v : V} {u : Value} (r : RelV v u) : PySem.W.handedIn u = true := by
  cases v with
  | non => cases (show u = Value.none from r); rfl
  | bl b => cases (show u = Value.bool b from r); rfl
  | int i => obtain ⟨t, e⟩ := (show ∃ t, u = Value.int i t from r); cases e; rfl
  | str x => obtain ⟨t, e⟩ := (show ∃ t, u = Value.str x t from r); cases e; rfl
  | byt b => obtain ⟨t, e⟩ := (show ∃ t, u = Value.bytes b t from r); cases e; rfl
  | flt b => obtain ⟨t, e⟩ := (show ∃ t, u = Value.float b t from r); cases e; rfl
  | ref a => cases (show u = Value.ref a from r); rfl
  | ty n => cases (show u = Value.type n from r); rfl

section
variable {P : Program} {w : World} {H H' : Hp} {h h' : Heap} {a C dx : Addr} {fs fs' : List (Str × V)}
theorem ins_get (hok : HOk P w H h) (e : H a = some (.ins C dx fs)) : ∃ mA, ObjM h a dx C mA ∧ (∀ f, RelO (fs.lookup f) (mA f)) ∧ PySem.Within mA (fs.map (·.1)) ∧ fs.length ≤ 1000 ∧ H dx = some (.own a) := by
  obtain ⟨d, z, ne, ob, mA, n, r, q⟩ := (show ObjOk P w H h a (.ins C dx fs) from hok a _ e)
  exact ⟨mA, ⟨ob, n, ne⟩, r, q, z, d⟩
end

/-! ### what of the text a class must have -/
structure Cls (K : PySem.W.Frag) (C : Addr) : Prop where
  pg : PySem.W.plainGet K C Str.empty = true
  hd : PySem.W.hasDictIn K C = true
  po : PySem.W.plainOver K C = true
  sa : PySem.W.findIn K (.ref C) "__setattr__" = some (some (.builtin "object.__setattr__"))
theorem Cls.get {K : PySem.W.Frag} {C : Addr} (c : Cls K C) (f : Str) : PySem.W.plainGet K C f = true := c.pg
/-- no class of it has the name -/
def NoAttr (K : PySem.W.Frag) (C : Addr) (f : Str) : Prop := PySem.W.findIn K (.ref C) f = some none
theorem NoAttr.taker {K : PySem.W.Frag} {C : Addr} {f : Str} (n : NoAttr K C f) : PySem.W.takerIn K C f = some none := by
  unfold PySem.W.takerIn
  rw [show PySem.W.findIn K (.ref C) f = some none from n]
  rfl
/-- a constant of the class -/
structure Con (K : PySem.W.Frag) (C : Addr) (f : Str) (v : V) (u : Value) : Prop where
  at_ : PySem.W.findIn K (.ref C) f = some (some u)
  rel : RelV v u
  get : PySem.W.specialIn K u "__get__" = some none
  cp : PySem.W.copiedNames.contains f = false
/-- a method: a plain def of the class or of one above it -/
structure Meth (K : PySem.W.Frag) (C : Addr) (m : Str) (f : Addr) : Prop where
  at_ : PySem.W.findIn K (.ref C) m = some (some (.ref f))
  fn : PySem.W.isFn K (.ref f) = true
  kp : PySem.W.keepIn K (.ref f) = true

section
variable {X : Cx} {pins : List (Addr × Obj)} {σ : St} {H : Hp} {s : Shared} {a C dx : Addr} {fs : List (Str × V)} {f : Str} {v : V} {A : Around} {E : Value → Shared → Prop}

theorem getattr_ok {b : Bool} {Q : Value → Shared → Prop} (I : Inv X pins σ H s) (e : H a = some (.ins C dx fs)) (c : Cls X.K C) (n : NoAttr X.K C f) (l : fs.lookup f = some v)
    (h : ∀ u s', Inv X pins σ H s' → RelV v u → Q u s') : wpAny (model X.prog X.w) A (getAttr (.ref a) f b) Q E s := by
  obtain ⟨mA, O, r, _, _, _⟩ := ins_get I.hok e
  obtain ⟨u, hu, ru⟩ := RelO.some_of (v := v) (o := mA f) (by rw [← l]; exact r f)
  exact get_map I.kIn O (c.get f) c.hd n hu (handed_of ru) (h u _ (I.tok _) ru)

theorem getmeth_ok {m : Str} {g : Addr} {pl : Sem Bool} {Q : Value × List Value → Shared → Prop} (I : Inv X pins σ H s) (e : H a = some (.ins C dx fs)) (c : Cls X.K C) (k : Meth X.K C m g) (l : fs.lookup m = none)
    (h : Q (.ref g, [.ref a]) s) : wpAny (model X.prog X.w) A (getMethod (.ref a) m pl) Q E s := by
  obtain ⟨mA, O, r, _, _, _⟩ := ins_get I.hok e
  have hn : mA m = none := RelO.none_of (by rw [← l]; exact r m)
  exact get_meth I.kIn O (c.get m) k.at_ k.fn hn h

theorem setattr_ok {y : V} {u : Value} {Q : Unit → Shared → Prop} (I : Inv X pins σ H s) (e : H a = some (.ins C dx fs)) (c : Cls X.K C) (n : NoAttr X.K C f) (hl : fs.length < 1000) (ry : RelV y u)
    (h : ∀ s', Inv X pins σ (upd H a (.ins C dx (putF f y fs))) s' → Q () s') : wpAny (model X.prog X.w) A (setAttr (.ref a) f u) Q E s := by
  obtain ⟨mA, O, r, wi, _, ho⟩ := ins_get I.hok e
  have hz : (fs.map (·.1)).length ≤ sizeLine := by rw [List.length_map, sizeLine_eq]; omega
  refine set_map I.kIn O c.sa c.po n.taker c.hd wi hz fun h' O' sb => h _ ?_
  have hd : ∃ o, h'.get? dx = some o := let ⟨o, _, _, e', _⟩ := O'.ns; ⟨o, e'⟩
  refine I.write (x := a) (e := dx) (by rw [e]; exact True.intro) (.inr ho) (fun b q hb z => (sb.2 b hb).trans z) hd ?_
  refine ⟨by rw [upd_ne O.ne]; exact ho, ?_, O.ne, O'.obj, _, O'.ns, fun g => ?_, fun g hg => ?_⟩
  · have := length_putF f y fs; omega
  · show RelO ((putF f y fs).lookup g) (if g = f then some u else mA g)
    rw [lookup_putF]
    by_cases q : g = f
    · rw [if_pos q, if_pos q]; exact ry
    · rw [if_neg q, if_neg q]; exact r g
  · by_cases q : g = f
    · rw [q]; exact (keys_putF f y fs).1
    · refine (keys_putF f y fs).2 g (wi g fun z => hg ?_)
      show (if g = f then some u else mA g) = none
      rw [if_neg q]; exact z

/-- a new instance, tracked, without attributes -/
theorem Inv.made (I : Inv X pins σ H s) : Inv X pins σ (upd (upd H s.heap.objs.size (.own (s.heap.objs.size + 1))) (s.heap.objs.size + 1) (.ins C s.heap.objs.size []))
    { s with heap := (s.heap.push PySem.W.emptyDict).push (PySem.W.instObj C s.heap.objs.size) } := by
  have e1 : (s.heap.push PySem.W.emptyDict).get? s.heap.objs.size = some PySem.W.emptyDict := Heap.get?_push_size s.heap rfl
  have e2 : ((s.heap.push PySem.W.emptyDict).push (PySem.W.instObj C s.heap.objs.size)).get? (s.heap.objs.size + 1) = some (PySem.W.instObj C s.heap.objs.size) := by
    have := Heap.get?_push_size (s.heap.push PySem.W.emptyDict) (o := PySem.W.instObj C s.heap.objs.size) rfl
    rwa [Heap.size_push] at this
  have e3 : (s.heap.push PySem.W.emptyDict).Ns s.heap.objs.size (fun _ => none) := ⟨PySem.W.emptyDict, #[], _, e1, rfl, (fun e he => absurd he (by simp)), fun _ => rfl⟩
  have I1 := I.laid (a := s.heap.objs.size) (o := .own (s.heap.objs.size + 1)) (h' := s.heap.push PySem.W.emptyDict) (t' := s.toks) (fun b u q => Heap.get?_push_of_some _ q) (Nat.le_refl _) ⟨_, e1⟩
  refine I1.laid (a := s.heap.objs.size + 1) (o := .ins C s.heap.objs.size []) (t' := s.toks) (fun b u q => Heap.get?_push_of_some _ q) (Nat.le_of_eq (Heap.size_push _ _)) ?_
  have ne : s.heap.objs.size ≠ s.heap.objs.size + 1 := Nat.ne_of_lt (Nat.lt_succ_self _)
  refine ⟨by rw [upd_ne ne, upd_same], Nat.zero_le _, ne, e2, fun _ => none, (Heap.Ns1.of_empty e3).at fun o q => Heap.get?_push_of_some _ q, fun _ => True.intro, fun y hy => absurd rfl hy⟩

/-- e.f where nothing but the object is asked: through attributeBase (super) and the last hold -/
theorem attr_of {prog : Program} {w : World} {env : Env} {e : Expr} {f : Str} {pos : Pos} {s : Shared} {Q : Value → Shared → Prop} (hb : attributeBase e f env (eval e env) = eval e env)
    (h : wpAny (model prog w) A (eval e env) (fun o s₁ => wpAny (model prog w) A (getAttr o f true) Q E s₁) E s) : wpAny (model prog w) A (eval (.Attribute e f pos) env) Q E s :=
  Attribute_any_ h (by rw [arm_eval_Attribute, hb])
end

/-! ### readings and rules -/
/-- e.f, an attribute of the instance -/
def tFld (K : PySem.W.Frag) (ta : TE) (f : Str) : TE := fun σ H Q => ta σ H fun x H1 => ∃ a C dx fs v, x = .ref a ∧ H1 a = some (.ins C dx fs) ∧ Cls K C ∧ NoAttr K C f ∧ fs.lookup f = some v ∧ Q v H1
/-- e.f, a constant of the class -/
def tCon (K : PySem.W.Frag) (ta : TE) (f : Str) : TE := fun σ H Q => ta σ H fun x H1 => ∃ a C dx fs v u, x = .ref a ∧ H1 a = some (.ins C dx fs) ∧ Cls K C ∧ Con K C f v u ∧ fs.lookup f = none ∧ Q v H1
/-- e.f = value -/
def sFld (K : PySem.W.Frag) (ta tv : TE) (f : Str) : TS := fun D σ H => tv σ H fun y H1 => ta σ H1 fun x H2 => ∃ a C dx fs, x = .ref a ∧ H2 a = some (.ins C dx fs) ∧ Cls K C ∧ NoAttr K C f ∧ fs.length < 1000 ∧
  D.nx σ (upd H2 a (.ins C dx (putF f y fs)))
/-- an augmented operator on two values -/
def InOp (X : Cx) (op : Operator) (rd : V → V → Hp → VK → Prop) : Prop :=
  ∀ (pins : List (Addr × Obj)) (s : Shared) (σ : St) (H : Hp) (x y : V) (u v : Value) (Q : VK), Inv X pins σ H s → RelV x u → RelV y v → rd x y H Q → wpAny (model X.prog X.w) X.A (inplaceOp op u v) (EP X pins σ Q) X.xe s
/-- e.f op= value -/
def sFldAug (K : PySem.W.Frag) (ta tv : TE) (rd : V → V → Hp → VK → Prop) (f : Str) : TS := fun D σ H => ta σ H fun x H1 => ∃ a C dx fs v, x = .ref a ∧ H1 a = some (.ins C dx fs) ∧ Cls K C ∧ NoAttr K C f ∧ fs.lookup f = some v ∧
  tv σ H1 fun y H2 => rd v y H2 fun z H3 => ∃ dx' fs', H3 a = some (.ins C dx' fs') ∧ fs'.length < 1000 ∧ D.nx σ (upd H3 a (.ins C dx' (putF f z fs')))

section
variable {X : Cx} {o e value : Expr} {f : Str} {pos pos' tpos : Pos} {ta tv : TE}
theorem pe_fld (he : PE X e ta) (hb : attributeBase e f X.env (eval e X.env) = eval e X.env) : PE X (.Attribute e f pos) (tFld X.K ta f) := by
  intro pins s σ H Q I h
  refine attr_of hb (thn (he pins s σ H _ I h) fun u s1 ⟨x, H1, I1, rx, a, C, dx, fs, v, ex, ea, c, n, l, q⟩ => ?_)
  subst ex
  obtain rfl : u = Value.ref a := rx
  exact getattr_ok I1 ea c n l fun u' s2 I2 ru => ⟨v, H1, I2, ru, q⟩
theorem ps_fld (ha : PE X o ta) (hv : PE X value tv) (hs : swapsWith value (some (.Attribute o f pos')) pos.line X.env = pure false) : PS X (.Assign [.Attribute o f pos'] value pos) (sFld X.K ta tv f) := by
  intro pins s σ H D I h
  refine plainObj_wpAny_Assign_Attribute (thn (hv pins s σ H _ I h) fun u s1 ⟨y, H1, I1, ry, q⟩ => thn (ha pins s1 σ H1 _ I1 q) fun ov s2 ⟨x, H2, I2, rx, a, C, dx, fs, ex, ea, c, n, l, q2⟩ => ?_) hs
  subst ex
  obtain rfl : ov = Value.ref a := rx
  exact setattr_ok I2 ea c n l ry fun s3 I3 => ⟨σ, _, I3, q2⟩
def rAdd : V → V → Hp → VK → Prop := fun x y H Q => ∃ i j, x = .int i ∧ y = .int j ∧ Q (.int (i + j)) H
def rSub : V → V → Hp → VK → Prop := fun x y H Q => ∃ i j, x = .int i ∧ y = .int j ∧ Q (.int (i - j)) H
end

/-! ### isinstance -/
section
variable {X : Cx} {pins : List (Addr × Obj)} {σ : St} {H : Hp} {s : Shared} {A : Around} {E : Value → Shared → Prop} {Q : Value → Shared → Prop} {c : Value} {b : Bool}
/-- the type of a value, as the fragment's deciders take it; for an instance its class -/
inductive TyOf (K : PySem.W.Frag) (H : Hp) : V → Value → Prop where
  | non : TyOf K H .non (.type "NoneType")
  | bl (x : Bool) : TyOf K H (.bl x) (.type "bool")
  | int (i : Int) : TyOf K H (.int i) (.type "int")
  | str (x : Str) : TyOf K H (.str x) (.type "str")
  | flt (x : UInt64) : TyOf K H (.flt x) (.type "float")
  | lst {a : Addr} {xs : List V} (e : H a = some (.lst xs)) : TyOf K H (.ref a) (.type "list")
  | frz {a : Addr} {o : Obj} {xs : List V} (e : H a = some (.frz o (.lst xs))) : TyOf K H (.ref a) (.type "list")
  | tup {a : Addr} {xs : List V} (e : H a = some (.tup xs)) : TyOf K H (.ref a) (.type "tuple")
  | dK {a : Addr} {kvs : List (Key × V)} (e : H a = some (.dK kvs)) : TyOf K H (.ref a) (.type "dict")
  | dT {a : Addr} {kvs : List (List Key × V)} (e : H a = some (.dT kvs)) : TyOf K H (.ref a) (.type "dict")
  | ins {a C dx : Addr} {fs : List (Str × V)} (e : H a = some (.ins C dx fs)) (cl : Cls K C) (ha : PySem.W.findIn K (.ref C) "__class__" = some (some (.builtin "object.__class__")))
      (hn : PySem.W.specialIn K (.builtin "object.__class__") "__get__" = some (some (.builtin "getset_descriptor.__get__"))) (htk : PySem.W.takesIn K (.builtin "object.__class__") = some true)
      (hm : PySem.W.mroIn K C (.type "object") = some true) : TyOf K H (.ref a) (.ref C)
/-- isinstance(x, c) for one class c, a built-in or an own one: kitOne's answer -/
theorem isinst_ok {x : V} {u t : Value} (I : Inv X pins σ H s) (rx : RelV x u) (ty : TyOf X.K H x t) (e : PySem.W.kitOne X.K t c = some b) (h : ∀ tk, Q (.bool b) { s with toks := tk }) :
    wpAny (model X.prog X.w) A (call (.builtin "isinstance") [u, c]) Q E s := by
  cases ty with
  | non => cases (show u = Value.none from rx); exact PySem.W.kia_one PySem.W.kitx_none I.kIn True.intro e (fun z => nomatch z) h
  | bl y => cases (show u = Value.bool y from rx); exact PySem.W.kia_one PySem.W.kitx_bool I.kIn True.intro e (fun z => nomatch z) h
  | int i => obtain ⟨t, q⟩ := (show ∃ t, u = Value.int i t from rx); cases q; exact PySem.W.kia_one PySem.W.kitx_int I.kIn True.intro e (fun z => nomatch z) h
  | str y => obtain ⟨t, q⟩ := (show ∃ t, u = Value.str y t from rx); cases q; exact PySem.W.kia_one PySem.W.kitx_str I.kIn True.intro e (fun z => nomatch z) h
  | flt y => obtain ⟨t, q⟩ := (show ∃ t, u = Value.float y t from rx); cases q; exact PySem.W.kia_one PySem.W.kitx_float I.kIn True.intro e (fun z => nomatch z) h
  | @lst a xs ea =>
    cases (show u = Value.ref a from rx)
    obtain ⟨_, _, n, _, h1⟩ := (show ObjOk X.prog X.w H s.heap a (.lst xs) from I.hok a _ ea)
    exact PySem.W.kia_one PySem.W.kitx_list I.kIn ⟨_, h1, rfl⟩ e (fun z => nomatch z) h
  | @frz a ob xs ea =>
    cases (show u = Value.ref a from rx)
    obtain ⟨_, _, _, n, _, h1⟩ := (show ObjOk X.prog X.w H s.heap a (.frz ob (.lst xs)) from I.hok a _ ea)
    exact PySem.W.kia_one PySem.W.kitx_list I.kIn ⟨_, h1, rfl⟩ e (fun z => nomatch z) h
  | @tup a xs ea =>
    cases (show u = Value.ref a from rx)
    obtain ⟨_, _, _, p⟩ := (show ObjOk X.prog X.w H s.heap a (.tup xs) from I.hok a _ ea)
    obtain ⟨o, h1, h2, _⟩ := p
    exact PySem.W.kia_one PySem.W.kitx_tuple I.kIn ⟨o, h1, h2⟩ e (fun z => nomatch z) h
  | @dK a kvs ea =>
    cases (show u = Value.ref a from rx)
    obtain ⟨_, _, vs, _, p⟩ := (show ObjOk X.prog X.w H s.heap a (.dK kvs) from I.hok a _ ea)
    obtain ⟨o, es, ep, h1, h2, _⟩ := p
    exact PySem.W.kia_one PySem.W.kitx_dict I.kIn ⟨o, h1, h2.1⟩ e (fun z => nomatch z) h
  | @dT a kvs ea =>
    cases (show u = Value.ref a from rx)
    obtain ⟨_, _, xs, _, o, es, ep, h1, h2, _⟩ := (show ObjOk X.prog X.w H s.heap a (.dT kvs) from I.hok a _ ea)
    exact PySem.W.kia_one PySem.W.kitx_dict I.kIn ⟨o, h1, h2.1⟩ e (fun z => nomatch z) h
  | @ins a C dx fs ea cl ha hn htk hm =>
    cases (show u = Value.ref a from rx)
    obtain ⟨mA, O, _⟩ := ins_get I.hok ea
    obtain ⟨od, J, _⟩ := O.look
    exact PySem.W.kia_one (PySem.W.kitx_own (cl.get _) cl.hd ha hn htk hm) I.kIn J e (fun z => nomatch z) h
end
end L2

namespace L2
open PySem PySem.Spec PyProof.Rows

/-! ### room -/
structure Room (k : Nat) (A : Around) : Prop where
  hd : 30 ≤ k → A.handled = none
  dp : A.depth + 3 * k + 5 < recursionLimit
  un : A.units + 16 * k + 200 < cLine
theorem Room.mono {j k : Nat} {A : Around} (r : Room k A) (h : j ≤ k) : Room j A := ⟨fun z => r.hd (by omega), by have := r.dp; omega, by have := r.un; omega⟩
theorem Room.deeper {k : Nat} {A : Around} (r : Room (k + 1) A) (env : Env) : Room k (A.deeper env) :=
  ⟨fun z => r.hd (by omega), by have := r.dp; show A.depth + 1 + 3 * k + 5 < _; omega, by have := r.un; show A.units + 3 + 16 * k + 200 < _; omega⟩
theorem Room.in1 {k : Nat} {A : Around} (r : Room (k + 1) A) : Room k A.in1 :=
  ⟨fun z => r.hd (by omega), by have := r.dp; show A.depth + 3 * k + 5 < _; omega, by have := r.un; show A.units + 1 + 16 * k + 200 < _; omega⟩
theorem make_depth {A : Around} {C : Addr} {us : List Value} {kw : List (Str × Value)} : (A.under (.builtin "type.__call__" ⟨.ref C :: us, kw⟩)).depth = A.depth + 1 := by
  first | rfl | simp [Around.under, Code.weight, Code.isCreation, Code.isGuard, Code.isCaller, Code.frames, Code.isFrame, guardIds]
theorem make_units {A : Around} {C : Addr} {us : List Value} {kw : List (Str × Value)} : (A.under (.builtin "type.__call__" ⟨.ref C :: us, kw⟩)).units = A.units + 1 := by
  first | rfl | simp [Around.under, Code.cUnits, Code.frames, Code.isFrame]
theorem Room.make {k : Nat} {A : Around} (r : Room (k + 1) A) (C : Addr) (us : List Value) (kw : List (Str × Value)) : Room k (A.under (.builtin "type.__call__" ⟨.ref C :: us, kw⟩)) :=
  ⟨fun z => r.hd (by omega), by have := r.dp; rw [make_depth]; omega, by have := r.un; rw [make_units]; omega⟩
theorem Room.depth {k : Nat} {A : Around} (r : Room k A) : A.depth < recursionLimit := by have := r.dp; omega
theorem Room.units {k : Nat} {A : Around} (r : Room k A) : A.units + 64 < cLine := by have := r.un; omega
/-! ### argument lists and displays -/
def tNil : TA := fun _ H Q => Q [] H
def tCons (ta : TE) (tr : TA) : TA := fun σ H Q => ta σ H fun x H1 => tr σ H1 fun xs H2 => Q (x :: xs) H2
section
variable {X : Cx} {e : Expr} {es : List Expr} {te : TE} {t : TA} {pos : Pos}
theorem pa_nil : PA X [] tNil := fun _ _ _ _ H Q I h => Calls.spliced_nil ⟨[], H, I, .nil, h⟩
theorem pa_cons (ha : PE X e te) (hr : PA X es t) (hs : starEach (e :: es) X.env = (false, eval e X.env) :: starEach es X.env := by rfl) : PA X (e :: es) (tCons te t) := by
  intro pos pins s σ H Q I h
  rw [hs]
  show wpAny _ _ (spliced ((false, eval e X.env) :: backTo pos (starEach es X.env))) _ _ s
  refine Calls.spliced_cons (thn (ha pins s σ H _ I h) fun u s1 ⟨x, H1, I1, r1, q1⟩ => ?_)
  exact thn (hr pos pins s1 σ H1 _ I1 q1) fun us s2 ⟨xs, H2, I2, r2, q2⟩ => ⟨x :: xs, H2, I2, .cons r1 r2, q2⟩

/-- a tuple, a list of written items -/
def tTup (t : TA) : TE := fun σ H Q => t σ H fun xs H1 => xs.length ≤ sizeLine ∧ ∀ p, H1 p = none → Q (.ref p) (upd H1 p (.tup xs))
def tLst (t : TA) : TE := fun σ H Q => t σ H fun xs H1 => xs.length ≤ sizeLine ∧ ∀ p, H1 p = none → Q (.ref p) (upd H1 p (.lst xs))
theorem pe_tup {x1} (h : PA X es t) : PE X (.Tuple es x1 pos) (tTup t) := by
  intro pins s σ H Q I hq
  refine wpAny_Tuple_spliced (thn (h pos pins s σ H _ I hq) fun us s1 ⟨xs, H1, I1, r, z, q⟩ => ⟨by rw [← r.length]; exact z, ?_⟩)
  have hf : H1 s1.heap.objs.size = none := I1.hok.fresh (Nat.le_refl _)
  refine ⟨.ref s1.heap.objs.size, upd H1 s1.heap.objs.size (.tup xs), I1.laid (t' := s1.toks) (fun b u e => Heap.get?_push_of_some _ e) (Nat.le_refl _) ?_, rfl, q _ hf⟩
  exact ⟨z, us, r, ⟨_, Heap.get?_push_size _ rfl, rfl, _, rfl⟩⟩
theorem pe_lst (h : PA X es t) : PE X (.List es pos) (tLst t) := by
  intro pins s σ H Q I hq
  refine wpAny_List_spliced (thn (h pos pins s σ H _ I hq) fun us s1 ⟨xs, H1, I1, r, z, q⟩ => ⟨by rw [← r.length]; exact z, ?_⟩)
  have hf : H1 s1.heap.objs.size = none := I1.hok.fresh (Nat.le_refl _)
  refine ⟨.ref s1.heap.objs.size, upd H1 s1.heap.objs.size (.lst xs), I1.laid (t' := s1.toks) (fun b u e => Heap.get?_push_of_some _ e) (Nat.le_refl _) ?_, rfl, q _ hf⟩
  exact ⟨z, us, 0, r, Heap.get?_push_size _ rfl⟩
end

/-! ### what a def promises -/
/-- a def's promise: the bound arguments in the parameters' order, the heap, the wanted end, the wanted exception -/
abbrev Sp := List V → Hp → VK → XK → Prop
/-- how an exception lies behind a call (file 08 gives it): the callers' frames, abstract heap and state ahead of the call, the wish, the exception, the state -/
abbrev CXT := List Env → Hp → Shared → XK → Value → Shared → Prop

/-- the state at a call -/
structure Env0 (P : Program) (w : World) (K : PySem.W.Frag) (mg : Str → Option Value) (base : Heap) (A : Around) (outer : List Env) (s : Shared) (H : Hp) : Prop where
  frames : A.frames = some outer
  mod : Mod K mg base
  bs : ∀ b o, base.get? b = some o → s.heap.get? b = some o ∧ H b = none
  bsz : base.objs.size ≤ s.heap.objs.size
  funs : s.heap.FunFrames base outer
  frf : ∀ b ∈ frs outer, H b = none
  hok : HOk P w H s.heap
  bare : AllBare s.gens
  qt : Qt A H
/-- a call's end -/
def CE (outer : List Env) (P : Program) (w : World) (H : Hp) (s : Shared) (Q : VK) (u : Value) (s' : Shared) : Prop :=
  ∃ v H', s'.os = s.os ∧ AllBare s'.gens ∧ Un (frs outer) [] H H' s.heap s'.heap ∧ HOk P w H' s'.heap ∧ RelV v u ∧ Q v H'
def CR (CX : CXT) (outer : List Env) (P : Program) (w : World) (H : Hp) (s : Shared) (Q : VK) (E : XK) (r : Result) (s' : Shared) : Prop :=
  match r with
  | .ok (.ret u) => CE outer P w H s Q u s'
  | .ok _ => False
  | .error e => CX outer H s E e s'
structure FnOk (P : Program) (w : World) (K : PySem.W.Frag) (mg : Str → Option Value) (base : Heap) (CX : CXT) (k : Nat) (f : Addr) (fd : FuncData) (ps : List Str) (sp : Sp) : Prop where
  len : ∀ vs H Q E, sp vs H Q E → vs.length = ps.length
  run : ∀ (A : Around) (outer : List Env) (s : Shared) (H : Hp) (args : Args) (us : List Value) (vs : List V) (Q : VK) (E : XK), Room k A → Env0 P w K mg base A outer s H → BindsTo s fd args (ps.zip us) → Vals vs us → sp vs H Q E →
    codeAny (model P w) A (.call (.ref f) args) (CR CX outer P w H s Q E) s
theorem FnOk.mono {P : Program} {w : World} {K : PySem.W.Frag} {mg : Str → Option Value} {base : Heap} {CX : CXT} {j k : Nat} {f : Addr} {fd : FuncData} {ps : List Str} {sp : Sp} (F : FnOk P w K mg base CX j f fd ps sp) (h : j ≤ k) :
    FnOk P w K mg base CX k f fd ps sp := ⟨F.len, fun A outer s H args us vs Q E hr => F.run A outer s H args us vs Q E (hr.mono h)⟩
/-- a weaker promise -/
theorem FnOk.imp {P : Program} {w : World} {K : PySem.W.Frag} {mg : Str → Option Value} {base : Heap} {CX : CXT} {k : Nat} {f : Addr} {fd : FuncData} {ps : List Str} {sp sp' : Sp} (F : FnOk P w K mg base CX k f fd ps sp)
    (h : ∀ vs H Q E, sp' vs H Q E → sp vs H Q E) : FnOk P w K mg base CX k f fd ps sp' :=
  ⟨fun vs H Q E q => F.len vs H Q E (h _ _ _ _ q), fun A outer s H args us vs Q E hr he hb hv hs => F.run A outer s H args us vs Q E hr he hb hv (h _ _ _ _ hs)⟩

theorem Env0.make {P : Program} {w : World} {K : PySem.W.Frag} {mg : Str → Option Value} {base : Heap} {A : Around} {outer : List Env} {s : Shared} {H : Hp} (e : Env0 P w K mg base A outer s H) (C : Addr) (us : List Value) (kw : List (Str × Value)) :
    Env0 P w K mg base (A.under (.builtin "type.__call__" ⟨.ref C :: us, kw⟩)) outer s H := ⟨by first | exact e.frames | (simpa [Around.under, Code.envs, Code.isFrame, pushEnvs] using e.frames), e.mod, e.bs, e.bsz, e.funs, e.frf, e.hok, e.bare, e.qt⟩
theorem Env0.in1 {P : Program} {w : World} {K : PySem.W.Frag} {mg : Str → Option Value} {base : Heap} {A : Around} {outer : List Env} {s : Shared} {H : Hp} (e : Env0 P w K mg base A outer s H) :
    Env0 P w K mg base A.in1 outer s H := ⟨e.frames, e.mod, e.bs, e.bsz, e.funs, e.frf, e.hok, e.bare, e.qt⟩

section
variable {X : Cx} {pins : List (Addr × Obj)} {σ : St} {H : Hp} {s s' : Shared}
/-- from a body: what a callee wants -/
theorem Inv.env0 (I : Inv X pins σ H s) : Env0 X.prog X.w X.K X.mg X.base X.A X.stack s H :=
  ⟨I.ok.frames, I.ok.mod, I.bs, Nat.le_trans I.ok.bsz I.sz, I.stack, I.stkFree, I.hok, I.bare, I.qt⟩
/-- behind a call -/
theorem Inv.after {Q : VK} {u : Value} (I : Inv X pins σ H s) (h : CE X.stack X.prog X.w H s Q u s') : EP X pins σ Q u s' := by
  obtain ⟨v, H', os, bare, un, hok, r, q⟩ := h
  obtain ⟨hh, g, d, t, os'⟩ := s'
  obtain rfl : os' = s.os := os
  exact ⟨v, H', I.call (h' := hh) (g' := g) (d' := d) (t' := t) (ch := []) un hok bare (fun b z => absurd z (by simp)), r, q⟩
end

/-! ### calls -/
/-- f(..): the written arguments, then the defaults dvs; E: what is wanted of an exception -/
def tCall (sp : Sp) (dvs : List V) (E : XK) (t : TA) : TE := fun σ H Q => t σ H fun vs H1 => sp (vs ++ dvs) H1 Q E
/-- o.m(..) of an instance of the class at C -/
def tMeth (C : Addr) (m : Str) (sp : Sp) (dvs : List V) (E : XK) (ta : TE) (t : TA) : TE := fun σ H Q => ta σ H fun x H1 => ∃ a dx fs, x = .ref a ∧ H1 a = some (.ins C dx fs) ∧ fs.lookup m = none ∧
  t σ H1 fun vs H2 => sp (x :: (vs ++ dvs)) H2 Q E
/-- C(..): a new instance and its dict, then __init__ -/
def tMake (C : Addr) (sp : Sp) (dvs : List V) (E : XK) (t : TA) : TE := fun σ H Q => t σ H fun vs H1 => ∀ x dx, H1 x = none → H1 dx = none → dx ≠ x →
  sp (.ref x :: (vs ++ dvs)) (upd (upd H1 dx (.own x)) x (.ins C dx [])) (fun v H2 => v = .non ∧ Q (.ref x) H2) E

/-- how the parameters are bound: us the positional arguments, kw the keywords' values by name, ds the defaults that fill up -/
def Binds (K : PySem.W.Frag) (fd : FuncData) (ps : List Str) (ds : List Value) : Prop :=
  ∀ (s : Shared) (us : List Value), K.In s.heap → (us ++ ds).length = ps.length → BindsTo s fd ⟨us, []⟩ (ps.zip (us ++ ds))
/-- every parameter is given -/
theorem Binds.all {K : PySem.W.Frag} {fd : FuncData} {ps : List Str} (h : ∀ us : List Value, us.length = ps.length → bindArgs fd ⟨us, []⟩ = pure (ps.zip us)) : Binds K fd ps [] := fun s us _ hl => by
  rw [List.append_nil] at hl ⊢
  exact .of_eq (h us hl)

/-- an exception of a callee reaches what this body wants of exceptions -/
def Passes (CX : CXT) (X : Cx) (E : XK) : Prop := ∀ (pins : List (Addr × Obj)) (σ : St) (H : Hp) (s : Shared) (e : Value) (s' : Shared), Inv X pins σ H s → CX X.stack H s E e s' → X.xe e s'

section
variable {X : Cx} {CX : CXT} {k : Nat} {f C : Addr} {fd : FuncData} {ps : List Str} {sp : Sp} {dvs : List V} {ds : List Value} {E : XK} {x m : Str} {p pos apos : Pos} {e o : Expr} {es : List Expr} {ta : TE} {t : TA}

/-- the callee runs -/
theorem run_fn {pins : List (Addr × Obj)} {σ : St} {H : Hp} {s : Shared} {Q : VK} {us : List Value} {vs : List V} (F : FnOk X.prog X.w X.K X.mg X.base CX k f fd ps sp) (hr : Room k X.A) (hb : Binds X.K fd ps ds) (hd : Vals dvs ds) (hx : Passes CX X E)
    (I : Inv X pins σ H s) (r : Vals vs us) (h : sp (vs ++ dvs) H Q E) : wpAny (model X.prog X.w) X.A (call (.ref f) us) (EP X pins σ Q) X.xe s := by
  have r2 : Vals (vs ++ dvs) (us ++ ds) := r.append hd
  have hl : (us ++ ds).length = ps.length := by rw [← r2.length]; exact F.len _ _ _ _ h
  refine wpAny_call (codeAny_mono (F.run X.A X.stack s H ⟨us, []⟩ (us ++ ds) (vs ++ dvs) Q E hr I.env0 (hb s us I.kIn hl) r2 h) fun r s' hq => ?_)
  cases r with
  | error e => exact hx pins σ H s e s' I hq
  | ok fl =>
    cases fl with
    | ret u => exact I.after hq
    | next => exact False.elim hq
    | brk => exact False.elim hq
    | cont => exact False.elim hq

theorem pe_call (F : FnOk X.prog X.w X.K X.mg X.base CX k f fd ps sp) (hr : Room k X.A) (hg : Gl X x) (hm : X.mg x = some (.ref f)) (hk : PySem.W.keepIn X.K (.ref f) = true) (hb : Binds X.K fd ps ds) (hd : Vals dvs ds) (hx : Passes CX X E)
    (ha : PA X (e :: es) t) (hdb : (x == ("__debug__" : Str)) = false := by decide) (he : starEach (e :: es) X.env = (false, eval e X.env) :: starEach es X.env := by rfl) (hpl : (backTo pos (starEach es X.env)).any (·.1) = false := by rfl) :
    PE X (.Call (.Name x p) (e :: es) [] pos) (tCall sp dvs E t) := by
  intro pins s σ H Q I h
  refine wpAny_Call_Name_kw (ld_glob I hg hm ?_ hdb)
  refine PySem.W.callWith_K (h₀ := X.base) I.ok.mod.kin hk (thn (ha pos pins s σ H _ I h) fun us s1 ⟨vs, H1, I1, r, q⟩ => ⟨I1.kIn, ?_⟩) he hpl
  exact run_fn F hr hb hd hx I1 r q
/-- o.m(e, ..) -/
theorem pe_meth {pl : Sem Bool} (he : PE X o ta) (c : Cls X.K C) (hm : Meth X.K C m f) (F : FnOk X.prog X.w X.K X.mg X.base CX k f fd ps sp) (hr : Room k X.A) (hb : Binds X.K fd ps ds) (hd : Vals dvs ds) (hx : Passes CX X E) (ha : PA X (e :: es) t)
    (hst : starEach (e :: es) X.env = (false, eval e X.env) :: starEach es X.env := by rfl) (hpl : (backTo pos (starEach es X.env)).any (·.1) = false := by rfl)
    (ht : eval (.Call (.Attribute o m apos) (e :: es) [] pos) X.env = (do
      let ov ← eval o X.env
      standAt apos.atName
      let (f, first) ← holding [ov] (getMethod ov m pl)
      callWith pos f first (backTo pos (starEach (e :: es) X.env)) (backToKw pos (keywordEach [] X.env))) := by rfl) :
    PE X (.Call (.Attribute o m apos) (e :: es) [] pos) (tMeth C m sp dvs E ta t) := by
  intro pins s σ H Q I h
  refine PySem.W.methodCall_KW (pl := pl) (thn (he pins s σ H _ I h) fun u s1 ⟨x, H1, I1, rx, a, dx, fs, ex, ea, l, q⟩ => ?_) ht
  subst ex
  obtain rfl : u = Value.ref a := rx
  refine getmeth_ok I1 ea c hm l ?_
  refine PySem.W.callWith_K (first := [.ref a]) (h₀ := X.base) I.ok.mod.kin hm.kp (thn (ha pos pins s1 σ H1 _ I1 q) fun us s2 ⟨vs, H2, I2, r, q2⟩ => ⟨I2.kIn, ?_⟩) hst hpl
  exact run_fn (us := .ref a :: us) (vs := .ref a :: vs) F hr hb hd hx I2 (.cons rfl r) q2
/-- o.m() -/
theorem pe_meth0 {pl : Sem Bool} (he : PE X o ta) (c : Cls X.K C) (hm : Meth X.K C m f) (F : FnOk X.prog X.w X.K X.mg X.base CX k f fd ps sp) (hr : Room k X.A) (hb : Binds X.K fd ps ds) (hd : Vals dvs ds) (hx : Passes CX X E)
    (ht : eval (.Call (.Attribute o m apos) [] [] pos) X.env = (do
      let ov ← eval o X.env
      standAt apos.atName
      let (f, first) ← holding [ov] (getMethod ov m pl)
      callWith pos f first (backTo pos (starEach [] X.env)) (backToKw pos (keywordEach [] X.env))) := by rfl) :
    PE X (.Call (.Attribute o m apos) [] [] pos) (tMeth C m sp dvs E ta tNil) := by
  intro pins s σ H Q I h
  refine PySem.W.methodCall_KW (pl := pl) (thn (he pins s σ H _ I h) fun u s1 ⟨x, H1, I1, rx, a, dx, fs, ex, ea, l, q⟩ => ?_) ht
  subst ex
  obtain rfl : u = Value.ref a := rx
  refine getmeth_ok I1 ea c hm l ?_
  exact PySem.W.callWith_K0 (first := [.ref a]) I1.kIn hm.kp (run_fn (us := [.ref a]) (vs := [.ref a]) F hr hb hd hx I1 (.cons rfl .nil) q)

/-- what a class must have to be made -/
structure Mk (K : PySem.W.Frag) (C f : Addr) : Prop where
  makes : PySem.W.makesIn K C = true
  init : PySem.W.findIn K (.ref C) "__init__" = some (some (.ref f))
  fn : PySem.W.isFn K (.ref f) = true
  kp : PySem.W.keepIn K (.ref C) = true

theorem run_make {pins : List (Addr × Obj)} {σ : St} {H : Hp} {s : Shared} {Q : VK} {us : List Value} {vs : List V} (M : Mk X.K C f) (F : FnOk X.prog X.w X.K X.mg X.base CX k f fd ps sp) (hr : Room (k + 1) X.A) (hb : Binds X.K fd ps ds) (hd : Vals dvs ds)
    (hx : Passes CX X E) (I : Inv X pins σ H s) (r : Vals vs us)
    (h : ∀ x dx, H x = none → H dx = none → dx ≠ x → sp (.ref x :: (vs ++ dvs)) (upd (upd H dx (.own x)) x (.ins C dx [])) (fun v H2 => v = .non ∧ Q (.ref x) H2) E) :
    wpAny (model X.prog X.w) X.A (call (.ref C) us) (EP X pins σ Q) X.xe s := by
  have hq := h (s.heap.objs.size + 1) s.heap.objs.size (I.hok.fresh (Nat.le_succ _)) (I.hok.fresh (Nat.le_refl _)) (Nat.ne_of_lt (Nat.lt_succ_self _))
  have I2 := Inv.made (C := C) I
  have r2 : Vals (V.ref (s.heap.objs.size + 1) :: (vs ++ dvs)) (Value.ref (s.heap.objs.size + 1) :: (us ++ ds)) := .cons rfl (r.append hd)
  have hl : (Value.ref (s.heap.objs.size + 1) :: us ++ ds).length = ps.length := by
    have e := r2.length
    rw [F.len _ _ _ _ hq] at e
    exact e.symm
  refine wpAny_call (make_map (f := f) I.kIn M.makes M.init (beq_iff_eq.mp M.fn) (codeAny_mono (F.run _ X.stack _ _ ⟨Value.ref (s.heap.objs.size + 1) :: us, []⟩ (Value.ref (s.heap.objs.size + 1) :: (us ++ ds)) _ _ E (hr.make C us [])
    (I2.env0.make C us []) (hb _ (Value.ref (s.heap.objs.size + 1) :: us) I2.kIn hl) r2 hq) fun r s' hq' => ?_))
  cases r with
  | error e => exact hx pins σ _ _ e s' I2 hq'
  | ok fl =>
    cases fl with
    | ret u =>
      obtain ⟨v, H', I3, rv, ev, q3⟩ := I2.after hq'
      subst ev
      exact ⟨rv, ⟨V.ref (s.heap.objs.size + 1), H', I3, rfl, q3⟩⟩
    | next => exact False.elim hq'
    | brk => exact False.elim hq'
    | cont => exact False.elim hq'
theorem pe_make (M : Mk X.K C f) (F : FnOk X.prog X.w X.K X.mg X.base CX k f fd ps sp) (hr : Room (k + 1) X.A) (hg : Gl X x) (hm : X.mg x = some (.ref C)) (hb : Binds X.K fd ps ds) (hd : Vals dvs ds) (hx : Passes CX X E)
    (ha : PA X (e :: es) t) (hdb : (x == ("__debug__" : Str)) = false := by decide) (he : starEach (e :: es) X.env = (false, eval e X.env) :: starEach es X.env := by rfl) (hpl : (backTo pos (starEach es X.env)).any (·.1) = false := by rfl) :
    PE X (.Call (.Name x p) (e :: es) [] pos) (tMake C sp dvs E t) := by
  intro pins s σ H Q I h
  refine wpAny_Call_Name_kw (ld_glob I hg hm ?_ hdb)
  refine PySem.W.callWith_K (h₀ := X.base) I.ok.mod.kin M.kp (thn (ha pos pins s σ H _ I h) fun us s1 ⟨vs, H1, I1, r, q⟩ => ⟨I1.kIn, ?_⟩) he hpl
  exact run_make M F hr hb hd hx I1 r q
theorem pe_make0 (M : Mk X.K C f) (F : FnOk X.prog X.w X.K X.mg X.base CX k f fd ps sp) (hr : Room (k + 1) X.A) (hg : Gl X x) (hm : X.mg x = some (.ref C)) (hb : Binds X.K fd ps ds) (hd : Vals dvs ds) (hx : Passes CX X E)
    (hdb : (x == ("__debug__" : Str)) = false := by decide) : PE X (.Call (.Name x p) [] [] pos) (tMake C sp dvs E tNil) := by
  intro pins s σ H Q I h
  refine wpAny_Call_Name_kw (ld_glob I hg hm ?_ hdb)
  exact PySem.W.callWith_K0 I.kIn M.kp (run_make (us := []) M F hr hb hd hx I .nil h)
end

/-! ### keywords -/
/-- the values of the keywords, from the left -/
def PK (X : Cx) (kws : List Keyword) (t : TA) : Prop :=
  ∀ (pos : Pos) (pins : List (Addr × Obj)) (s : Shared) (σ : St) (H : Hp) (Q : List V → Hp → Prop), Inv X pins σ H s → t σ H Q → wpAny (model X.prog X.w) X.A (evalAll ((backToKw pos (keywordEach kws X.env)).map (·.2))) (AP X pins σ Q) X.xe s
section
variable {X : Cx} {CX : CXT} {k : Nat} {f C : Addr} {fd : FuncData} {ps ks : List Str} {sp : Sp} {E : XK} {x m : Str} {p pos apos kpos : Pos} {e o : Expr} {es : List Expr} {kws : List Keyword} {te ta : TE} {t tk : TA} {nm : Option Str}
/-- how a call with keywords binds: g puts the positional values us and the keywords' values ws (names ks) in the parameters' order, defaults among them -/
structure KBinds (K : PySem.W.Frag) (fd : FuncData) (ps ks : List Str) (g : List Value → List Value → List Value) (gV : List V → List V → List V) : Prop where
  to : ∀ (s : Shared) (us ws : List Value), K.In s.heap → (g us ws).length = ps.length → BindsTo s fd ⟨us, ks.zip ws⟩ (ps.zip (g us ws))
  rel : ∀ {vs : List V} {us : List Value} {zs : List V} {ws : List Value}, Vals vs us → Vals zs ws → Vals (gV vs zs) (g us ws)
def tCallK (sp : Sp) (gV : List V → List V → List V) (E : XK) (t tk : TA) : TE := fun σ H Q => t σ H fun vs H1 => tk σ H1 fun zs H2 => sp (gV vs zs) H2 Q E
variable {g : List Value → List Value → List Value} {gV : List V → List V → List V}
end

/-! ### a def's body keeps its promise -/
/-- names: the parameters first -/
structure FnScope (N P : List Str) (sc : Scope) : Prop where
  kind : sc.kind = .function
  co : sc.isCoroutine = false
  gen : sc.isGenerator = false
  nd : N.Nodup
  pre : N.take P.length = P
  par : ∀ x ∈ P, sc.names.lookup x = some .local ∨ sc.names.lookup x = some .cell
  nofree : ∀ y ∈ sc.names, y.2 ≠ .free

theorem bindL_out {kindOf : Str → Option NameKind} {x : Str} : ∀ {binds : List (Str × Value)} {m : Str → Option Value}, (∀ v, (x, v) ∉ binds) → bindL kindOf binds m x = m x
  | [], _, _ => rfl
  | (n, v) :: r, m, h => by
    unfold bindL
    rw [bindL_out fun w hw => h w (List.mem_cons_of_mem _ hw)]
    split
    · have : x ≠ n := by rintro rfl; exact h v List.mem_cons_self
      simp [this]
    · rfl
theorem bindC_out {kindOf : Str → Option NameKind} {x : Str} : ∀ {binds : List (Str × Value)} {m : Str → Option Value}, (∀ v, (x, v) ∉ binds) → bindC kindOf binds m x = m x
  | [], _, _ => rfl
  | (n, v) :: r, m, h => by
    unfold bindC
    rw [bindC_out fun w hw => h w (List.mem_cons_of_mem _ hw)]
    split
    · rfl
    · have : x ≠ n := by rintro rfl; exact h v List.mem_cons_self
      simp [this]
theorem bindL_get {kindOf : Str → Option NameKind} {x : Str} {v : Value} : ∀ {P : List Str} {vs : List Value} {i : Nat} {m : Str → Option Value}, P.Nodup → P[i]? = some x → vs[i]? = some v → kindOf x = some .local →
    bindL kindOf (P.zip vs) m x = some v
  | [], _, _, _, _, h, _, _ => by simp at h
  | _ :: _, [], _, _, _, _, h, _ => by simp at h
  | p :: P, w :: vs, 0, m, nd, h1, h2, hk => by
    simp at h1 h2; subst h1; subst h2
    show bindL kindOf ((p, w) :: P.zip vs) m p = _
    unfold bindL
    rw [bindL_out fun v hv => (List.nodup_cons.mp nd).1 (List.of_mem_zip hv).1, if_pos hk]
    simp
  | p :: P, w :: vs, i + 1, m, nd, h1, h2, hk => by
    show bindL kindOf ((p, w) :: P.zip vs) m x = _
    unfold bindL
    exact bindL_get (i := i) (List.nodup_cons.mp nd).2 (by simpa using h1) (by simpa using h2) hk
theorem bindC_get {kindOf : Str → Option NameKind} {x : Str} {v : Value} : ∀ {P : List Str} {vs : List Value} {i : Nat} {m : Str → Option Value}, P.Nodup → P[i]? = some x → vs[i]? = some v → kindOf x ≠ some .local →
    bindC kindOf (P.zip vs) m x = some v
  | [], _, _, _, _, h, _, _ => by simp at h
  | _ :: _, [], _, _, _, _, h, _ => by simp at h
  | p :: P, w :: vs, 0, m, nd, h1, h2, hk => by
    simp at h1 h2; subst h1; subst h2
    show bindC kindOf ((p, w) :: P.zip vs) m p = _
    unfold bindC
    rw [bindC_out fun v hv => (List.nodup_cons.mp nd).1 (List.of_mem_zip hv).1, if_neg hk]
    simp
  | p :: P, w :: vs, i + 1, m, nd, h1, h2, hk => by
    show bindC kindOf ((p, w) :: P.zip vs) m x = _
    unfold bindC
    exact bindC_get (i := i) (List.nodup_cons.mp nd).2 (by simpa using h1) (by simpa using h2) hk

/-- the names' values at the entry -/
def start (N : List Str) (vs : List V) : St := vs.map some ++ List.replicate (N.length - vs.length) none

/-- the context of a def's body, at its entry; an exception leaves the frame, then lies as CX says -/
def cxOf (CX : CXT) (P : Program) (w : World) (K : PySem.W.Frag) (mg : Str → Option Value) (base : Heap) (N : List Str) (qual : Str) (scope : Scope) (f : Addr) (cd : Value) (A : Around) (outer : List Env) (s : Shared) (H : Hp) (E : XK) : Cx where
  prog := P
  w := w
  K := K
  mg := mg
  base := base
  A := A.deeper (envOfC qual scope s.heap.objs.size f cd)
  N := N
  s₀ := s
  H₀ := H
  env := envOfC qual scope s.heap.objs.size f cd
  outer := outer
  stack := envOfC qual scope s.heap.objs.size f cd :: outer
  ex := []
  calm := true
  fn := fun _ => true
  pn := []
  xe := fun e s' => wpAny (model P w) (A.deeper (envOfC qual scope s.heap.objs.size f cd)) (leaving (envOfC qual scope s.heap.objs.size f cd) e) (fun _ s'' => CX outer H s E e s'') (fun e' s'' => CX outer H s E e' s'') s'

theorem cell_has {sc : Scope} {n : Nat} {x : Str} (h : sc.names.lookup x = some .cell) : ∃ c, (cellsFrom n sc.names []).lookup x = some c := by
  have q := PySem.W.cellsFrom_some sc.names n [] (.inl h)
  exact Option.isSome_iff_exists.mp q

theorem inv_start {CX : CXT} {P : Program} {w : World} {K : PySem.W.Frag} {mg : Str → Option Value} {base : Heap} {N ps : List Str} {qual : Str} {scope : Scope} {f : Addr} {cd : Value} {A : Around} {outer : List Env} {s s1 : Shared} {H : Hp} {E : XK} {us : List Value} {vs : List V}
    (S : FnScope N ps scope) (e0 : Env0 P w K mg base A outer s H) (hl : vs.length = ps.length) (r : Vals vs us)
    (x : InCallC s s.heap.objs.size (bindL (envOfC qual scope s.heap.objs.size f cd).kindOf (ps.zip us) fun _ => none) (cellsFrom (s.heap.objs.size + 1) scope.names []) (bindC (envOfC qual scope s.heap.objs.size f cd).kindOf (ps.zip us) fun _ => none) s1) :
    Inv (cxOf CX P w K mg base N qual scope f cd A outer s H E) [] (start N vs) H s1 := by
  have hpl : ps.length ≤ N.length := by have := congrArg List.length S.pre; rw [List.length_take] at this; omega
  obtain ⟨h1, tk, rfl, hk⟩ := x.done
  have noA : ∀ b : Addr, b ∉ (cxOf CX P w K mg base N qual scope f cd A outer s H E).ex := fun b z => absurd (show b ∈ ([] : List Addr) from z) (by simp)
  refine ⟨⟨e0.mod, S.kind, rfl, rfl, Nat.le_refl _, fun y z c h1 h2 => ?_, fun y hy => ?_, fun y c _ h => ?_, e0.qt, Around.frames_deeper e0.frames, .inr ⟨rfl, rfl⟩, fun b z => absurd z (noA b), e0.bs, e0.bsz, fun b _ _ => noA b, fun b z => absurd z (noA b), e0.funs, e0.frf⟩,
    rfl, e0.bare, Un.kept hk, ⟨_, x.toInCall.ns, fun i y v h1 h2 h3 => ?_⟩, fun y c h => ⟨_, x.cell y c h⟩, e0.hok.fresh (Nat.le_refl _), fun y c h => ?_, fun p hp => absurd (show p ∈ ([] : List (Addr × Obj)) from hp) (by simp), e0.hok.kept hk, ?_⟩
  · exact name_of_addr x.apart (PySem.mem_of_lookup h1) (PySem.mem_of_lookup h2)
  · have hy : scope.names.lookup y = some .cell ∨ scope.names.lookup y = some .free := hy
    rcases hy with hy | hy
    · exact cell_has hy
    · exact absurd rfl (S.nofree _ (PySem.mem_of_lookup hy))
  · exact Nat.le_of_lt (x.above y c (PySem.mem_of_lookup h))
  · have hi : i < vs.length := by
      unfold start at h2
      by_cases hi : i < vs.length
      · exact hi
      · rw [List.getElem?_append_right (by simpa using hi)] at h2
        rw [List.getElem?_replicate] at h2
        split at h2 <;> cases h2
    have ha : vs[i]? = some v := by
      unfold start at h2
      rw [List.getElem?_append_left (by simpa using hi), List.getElem?_map] at h2
      cases e : vs[i]? with
      | none => rw [e] at h2; cases h2
      | some a => rw [e] at h2; cases h2; rfl
    obtain ⟨u, hu, rv⟩ := r.get ha
    have hp : ps[i]? = some y := by
      rw [← S.pre, List.getElem?_take_of_lt (by omega)]; exact h1
    have ndP : ps.Nodup := by rw [← S.pre]; exact S.nd.sublist (List.take_sublist _ _)
    refine ⟨u, rv, ?_⟩
    rcases S.par y (List.mem_of_getElem? hp) with k | k
    · exact .inl ⟨k, bindL_get ndP hp hu k⟩
    · obtain ⟨c, e⟩ := cell_has (n := s.heap.objs.size + 1) k
      refine .inr ⟨.inl k, c, e, ?_⟩
      have q := x.cell y c e
      rw [bindC_get ndP hp hu (by show scope.names.lookup y ≠ _; rw [k]; decide)] at q
      exact q
  · exact e0.hok.fresh (Nat.le_of_lt (x.above y c (PySem.mem_of_lookup h)))
  · unfold start
    show _ = N.length
    rw [List.length_append, List.length_map, List.length_replicate]
    omega

/-- THE RULE: a def (or a method) of the text, by its body. The body's reading t is chosen for each entry; it is run at the parameters' values -/
theorem fn_of {CX : CXT} {P : Program} {w : World} {K : PySem.W.Frag} {mg : Str → Option Value} {base : Heap} {k : Nat} {f : Addr} {name qual : Str} {params : Arguments} {body : List Stmt} {scope : Scope} {dV kV doc pm cdv ct oc : Value} {an od : Option Addr}
    {osl : Array (Option Value)} {N ps : List Str} {sp : Sp} (lk : K.lookup f = some ⟨oc, od, .func (PySem.W.fnOf name qual params body scope dV kV doc pm an cdv ct), osl⟩) (hcd : PySem.W.codeIn K cdv qual = true) (S : FnScope N ps scope)
    (len : ∀ vs H Q E, sp vs H Q E → vs.length = ps.length)
    (hbody : ∀ (A : Around) (outer : List Env) (s : Shared) (H : Hp) (vs : List V) (Q : VK) (E : XK), Room k (A.deeper (envOfC qual scope s.heap.objs.size f cdv)) → sp vs H Q E →
      ∃ t, PSs (cxOf CX P w K mg base N qual scope f cdv A outer s H E) body t ∧ t { nx := fun _ H' => Q .non H', rt := Q } (start N vs) H) :
    FnOk P w K mg base CX (k + 1) f (PySem.W.fnOf name qual params body scope dV kV doc pm an cdv ct) ps sp := by
  refine ⟨len, fun A outer s H args us vs Q E hr e0 hb r hsp => ?_⟩
  have hl := len _ _ _ _ hsp
  have KX : K.In s.heap := e0.mod.kin.keeps fun b o e => (e0.bs b o e).1
  have lim : s.heap.NoLimit := e0.mod.nolimit.keeps fun b o e => (e0.bs b o e).1
  have hkind : ∀ y ∈ ps.zip us, scope.names.lookup y.1 = some .local ∨ (scope.names.lookup y.1 = some .cell ∧ ((cellsFrom (s.heap.objs.size + 1) scope.names []).lookup y.1).isSome = true) := fun ⟨n, v⟩ hy => by
    rcases S.par n (List.of_mem_zip hy).1 with q | q
    · exact .inl q
    · exact .inr ⟨q, PySem.W.cellsFrom_some _ _ _ (.inl q)⟩
  refine codeAny_call_function hr.depth (KX _ _ lk) rfl S.co S.gen rfl (PySem.W.codeRec_of KX hcd) (hb _ _ _ _ ?_)
  refine wpAny_newFunctionEnv_cells S.kind hkind fun env he s1 x => ?_
  subst he
  refine ⟨lim.keeps x.toInCall.keep, codeAny_func ?_⟩
  obtain ⟨t, ht, hq⟩ := hbody A outer s H vs Q E (hr.deeper _) hsp
  have I : Inv (cxOf CX P w K mg base N qual scope f cdv A outer s H E) [] (start N vs) H s1 := inv_start S e0 hl r x
  refine wpAny_mono (ht [] s1 (start N vs) H _ I hq) (fun fl s' hs => ?_) fun e s' hs => hs
  have fin : ∀ {σ' : St} {H' : Hp} {v : V} {u : Value}, Inv (cxOf CX P w K mg base N qual scope f cdv A outer s H E) [] σ' H' s' → RelV v u → Q v H' → CE outer P w H s Q u s' :=
    fun {σ' H' v u} J rv q => ⟨v, H', J.os, J.bare, J.base, J.hok, rv, q⟩
  cases fl with
  | ret u =>
    obtain ⟨v, σ', H', J, rv, q⟩ := hs
    exact fin J rv q
  | next =>
    obtain ⟨σ', H', J, q⟩ := hs
    exact fin (v := V.non) (u := Value.none) J rfl q
  | brk =>
    obtain ⟨_, _, _, q⟩ := hs
    exact False.elim q
  | cont =>
    obtain ⟨_, _, _, q⟩ := hs
    exact False.elim q
end L2

namespace L2
open PySem PySem.Spec PyProof.Rows
section
variable {X : Cx} {x : Str} {p pos : Pos} {e : Expr} {es : List Expr} {t : TA} {id T : String} {r : List V → Hp → VK → Prop}

def tCB (r : List V → Hp → VK → Prop) (t : TA) : TE := fun σ H Q => t σ H fun vs H1 => r vs H1 Q
/-- f(e, ..), f a built-in function -/
theorem pe_callB (hc : CallR X (.builtin id) r) (hg : Gl X x) (hm : X.mg x = none) (hv : bootBuiltins x = some (.builtin id)) (ha : PA X (e :: es) t) (hn : x ≠ "__name__" := by decide) (hdb : (x == ("__debug__" : Str)) = false := by decide)
    (he : starEach (e :: es) X.env = (false, eval e X.env) :: starEach es X.env := by rfl) (hpl : (backTo pos (starEach es X.env)).any (·.1) = false := by rfl) : PE X (.Call (.Name x p) (e :: es) [] pos) (tCB r t) := by
  intro pins s σ H Q I h
  refine wpAny_Call_Name_kw (ld_blt I hg hm hv ?_ hn hdb)
  exact PyProof.Rows.callWith_builtin1 (thn (ha pos pins s σ H _ I h) fun us s1 ⟨vs, H1, I1, r1, q1⟩ => hc pins s1 σ H1 vs us Q I1 r1 q1) he hpl
/-- T(e, ..), T a built-in type -/
theorem pe_callTy (hc : CallR X (.type T) r) (hg : Gl X x) (hm : X.mg x = none) (hv : bootBuiltins x = some (.type T)) (ha : PA X (e :: es) t) (hn : x ≠ "__name__" := by decide) (hdb : (x == ("__debug__" : Str)) = false := by decide)
    (he : starEach (e :: es) X.env = (false, eval e X.env) :: starEach es X.env := by rfl) (hpl : (backTo pos (starEach es X.env)).any (·.1) = false := by rfl) : PE X (.Call (.Name x p) (e :: es) [] pos) (tCB r t) := by
  intro pins s σ H Q I h
  refine wpAny_Call_Name_kw (ld_blt I hg hm hv ?_ hn hdb)
  exact PyProof.Rows.callWith_type1 (thn (ha pos pins s σ H _ I h) fun us s1 ⟨vs, H1, I1, r1, q1⟩ => hc pins s1 σ H1 vs us Q I1 r1 q1) he hpl
end
end L2

namespace HT
open PySem PyProof.Rows

/-- t < u of tuples of ints -/
def lexLt : List Int → List Int → Bool
  | [], [] => false
  | [], _ :: _ => true
  | _ :: _, [] => false
  | x :: xs, y :: ys => if x = y then lexLt xs ys else decide (x < y)
section
open PySem.SeqAt
open PySem.AutoSeq1 (wpAny_loadPart')
open PySem.MeetsSeq PySem.MeetsSeq2 PySem.MeetsSeq3

end

section
variable {prog : Program} {w : World} {A : Around} {E : Value → Shared → Prop} {s : Shared}

/-! ### t[a:b], not the whole -/
/-- a slice's bound as a place among n (d where it is left out) -/
def sIx (n d : Nat) : Option Int → Nat
  | none => d
  | some v => if v < 0 then (v + (n : Int)).toNat else min v.toNat n
theorem sIx_none (n d : Nat) : sIx n d none = d := rfl
theorem sIx_nat (n d k : Nat) : sIx n d (some (k : Int)) = min k n := by
  show (if (k : Int) < 0 then ((k : Int) + (n : Int)).toNat else min (k : Int).toNat n) = min k n
  rw [if_neg (by omega), Int.toNat_natCast]
end
end HT

namespace L2
open PySem PySem.Spec PyProof.Rows

/-! ### the parts of a slice -/
abbrev TO := St → Hp → (Option Int → Hp → Prop) → Prop
/-- a slice's part (left out, or an int) -/
def PO (X : Cx) (e : Option Expr) (t : TO) : Prop :=
  ∀ (pins : List (Addr × Obj)) (s : Shared) (σ : St) (H : Hp) (Q : Option Int → Hp → Prop), Inv X pins σ H s → t σ H Q →
    wpAny (model X.prog X.w) X.A (evalPart e X.env) (fun u s' => ∃ o H', Inv X pins σ H' s' ∧ IsPart u o ∧ Q o H') X.xe s
def tNoPart : TO := fun _ H Q => Q none H
def tPart (t : TE) : TO := fun σ H Q => t σ H fun x H1 => ∃ i, x = .int i ∧ Q (some i) H1

theorem intsAre_of {ns : List Int} : ∀ {us : List Value}, Vals (ns.map V.int) us → IntsAre us ns := by
  induction ns with
  | nil => intro us r; rw [List.map_nil] at r; cases r; exact .nil
  | cons n ns ih =>
    intro us r
    rw [List.map_cons] at r
    cases r with
    | cons r1 r2 =>
      obtain ⟨t, e⟩ := r1
      subst e
      exact .cons n t (ih r2)

section
variable {X : Cx} {e : Expr} {te : TE} {lo hi : Option Expr} {tl th : TO} {pos p2 : Pos}

theorem po_none : PO X none tNoPart := by
  intro pins s σ H Q I h
  rw [evalPart_none]
  exact wpAny_pure ⟨none, H, I, .none, h⟩
theorem po_some (h : PE X e te) : PO X (some e) (tPart te) := by
  intro pins s σ H Q I hw
  rw [evalPart_some]
  refine thn (h pins s σ H _ I hw) fun u s1 ⟨x, H1, I1, r1, q1⟩ => ?_
  obtain ⟨i, rfl, q⟩ := q1
  obtain ⟨t, rfl⟩ := r1
  exact ⟨some i, H1, I1, .int i t, q⟩

/-- what a slice of a value is, by values: the slice object stands at sl -/
def SlR (X : Cx) (r : V → Option Int → Option Int → Hp → VK → Prop) : Prop :=
  ∀ (pins : List (Addr × Obj)) (s : Shared) (σ : St) (H : Hp) (x : V) (v vl vu : Value) (lo hi : Option Int) (sl : Addr) (Q : VK), Inv X pins σ H s → RelV x v → s.heap.IsSliceOf sl vl vu .none → IsPart vl lo → IsPart vu hi → r x lo hi H Q →
    ∃ T id, typeLookup (.type T) "__getitem__" = pure (some (.builtin id)) ∧ s.TypeIs v T ∧ wpAny (model X.prog X.w) X.A (getItem v (.ref sl)) (EP X pins σ Q) X.xe s
theorem SlR.or {r r' : V → Option Int → Option Int → Hp → VK → Prop} (h : SlR X r) (h' : SlR X r') : SlR X (fun x lo hi H Q => r x lo hi H Q ∨ r' x lo hi H Q) := by
  intro pins s σ H x v vl vu lo hi sl Q I rx hs pl pu q
  rcases q with q | q
  · exact h pins s σ H x v vl vu lo hi sl Q I rx hs pl pu q
  · exact h' pins s σ H x v vl vu lo hi sl Q I rx hs pl pu q
def tSl (r : V → Option Int → Option Int → Hp → VK → Prop) (te : TE) (tl th : TO) : TE := fun σ H Q => te σ H fun x H1 => tl σ H1 fun l H2 => th σ H2 fun u H3 => r x l u H3 Q
/-- a[lo:hi], any a -/
theorem pe_slice {r : V → Option Int → Option Int → Hp → VK → Prop} (hr : SlR X r) (he : PE X e te) (hl : PO X lo tl) (hu : PO X hi th) : PE X (.Subscript e (.Slice lo hi none p2) pos) (tSl r te tl th) := by
  intro pins s σ H Q I h
  refine Subscript_ (thn (he pins s σ H _ I h) fun v s1 ⟨x, H1, I1, r1, q1⟩ => ?_)
  refine wpAny_Slice (thn (hl pins s1 σ H1 _ I1 q1) fun vl s2 ⟨l, H2, I2, pl, q2⟩ => thn (hu pins s2 σ H2 _ I2 q2) fun vu s3 ⟨u, H3, I3, pu, q3⟩ => ?_)
  rw [evalPart_none]
  refine wpAny_pure ?_
  have I4 : Inv X pins σ H3 { s3 with heap := s3.heap.push { cls := .type "slice", data := .fields #[vl, vu, .none] } } := I3.kept (t' := s3.toks) fun b ob q => Heap.get?_push_of_some _ q
  obtain ⟨T, id, hT, ht, hg⟩ := hr pins { s3 with heap := s3.heap.push { cls := .type "slice", data := .fields #[vl, vu, .none] } } σ H3 x v vl vu l u s3.heap.objs.size Q I4 r1 (Heap.IsSliceOf.new ..) pl pu q3
  show wpAny (model X.prog X.w) X.A (subscriptTail e (.Slice lo hi none p2) v (.ref s3.heap.objs.size)) (EP X pins σ Q) X.xe { s3 with heap := s3.heap.push { cls := .type "slice", data := .fields #[vl, vu, .none] } }
  exact tail_any (ops := [.ref s3.heap.objs.size, v]) ht hT hg (by with_unfolding_all rfl)

/-- the items of xs[lo:hi] -/
def cutV (xs : List V) (lo hi : Option Int) : List V := (xs.drop (HT.sIx xs.length 0 lo)).take (HT.sIx xs.length xs.length hi - HT.sIx xs.length 0 lo)
theorem cutV_length (xs : List V) (lo hi : Option Int) : (cutV xs lo hi).length ≤ xs.length := by
  unfold cutV
  rw [List.length_take, List.length_drop]
  omega
/-- t[lo:hi], not the whole of it (the whole would be t itself) -/
def rSlT (K : PySem.W.Frag) : V → Option Int → Option Int → Hp → VK → Prop := fun x lo hi H Q => ∃ a xs, x = .ref a ∧ SqT K H a xs ∧
  ¬ (HT.sIx xs.length 0 lo = 0 ∧ HT.sIx xs.length xs.length hi = xs.length) ∧ ∀ p, H p = none → Q (.ref p) (upd H p (.tup (cutV xs lo hi)))
/-! ### t < u, t + u -/
def rLtT (K : PySem.W.Frag) : R2 := fun x y H Q => ∃ a b ns ms, x = .ref a ∧ y = .ref b ∧ SqT K H a (ns.map V.int) ∧ SqT K H b (ms.map V.int) ∧ Q (.bl (HT.lexLt ns ms)) H
/-- t + u, t not empty: u empty gives t itself -/
def rCatT (K : PySem.W.Frag) : R2 := fun x y H Q => ∃ a b xs ys, x = .ref a ∧ y = .ref b ∧ SqT K H a xs ∧ SqT K H b ys ∧ xs ≠ [] ∧ xs.length + ys.length ≤ sizeLine ∧
  (ys = [] → Q (.ref a) H) ∧ (ys ≠ [] → ∀ p, H p = none → Q (.ref p) (upd H p (.tup (xs ++ ys))))
end
end L2

namespace L2
open PySem PySem.Spec PyProof.Rows

/-! ### places -/
/-- the place that an index of any sign means -/
def ixN (n : Nat) (i : Int) : Option Nat := if 0 ≤ i then (if i < n then some i.toNat else none) else if -(n : Int) ≤ i then some (i + n).toNat else none
def atI {α : Type} (xs : List α) (i : Int) : Option α := (ixN xs.length i).bind fun j => xs[j]?
theorem ixN_seq {n : Nat} {i : Int} {j : Nat} (h : ixN n i = some j) : seqIndex? i n = some j ∧ j < n ∧ -(n : Int) ≤ i ∧ i < n := by
  unfold ixN at h
  by_cases h0 : 0 ≤ i
  · rw [if_pos h0] at h
    by_cases h1 : i < n
    · rw [if_pos h1] at h
      have e : i.toNat = j := Option.some.inj h
      exact ⟨by rw [seqIndex_of h0 h1, e], by omega, by omega, h1⟩
    · rw [if_neg h1] at h; cases h
  · rw [if_neg h0] at h
    by_cases h1 : -(n : Int) ≤ i
    · rw [if_pos h1] at h
      have e : (i + n).toNat = j := Option.some.inj h
      exact ⟨by rw [seqIndex_neg (by omega) h1, e], by omega, h1, by omega⟩
    · rw [if_neg h1] at h; cases h
theorem atI_get {α : Type} {xs : List α} {i : Int} {v : α} (h : atI xs i = some v) : ∃ j, seqIndex? i xs.length = some j ∧ xs[j]? = some v ∧ j < xs.length ∧ -(xs.length : Int) ≤ i ∧ i < xs.length := by
  unfold atI at h
  cases e : ixN xs.length i with
  | none => rw [e] at h; cases h
  | some j =>
    rw [e] at h
    obtain ⟨h1, h2, h3, h4⟩ := ixN_seq e
    exact ⟨j, h1, h, h2, h3, h4⟩
theorem atI_nat {α : Type} {xs : List α} {j : Nat} {v : α} (h : xs[j]? = some v) : atI xs (j : Int) = some v := by
  have hj : j < xs.length := (List.getElem?_eq_some_iff.mp h).1
  have e : ixN xs.length (j : Int) = some j := by
    unfold ixN
    rw [if_pos (by omega), if_pos (by omega)]; simp
  unfold atI; rw [e]; exact h
/-! ### what may be subscripted -/
/-- what stands as an index of a plain subscript -/
def PlainIx (b : Expr) : Prop := ∀ o i, subscripted b false o i = operate [o, i] (getItem o i)
/-- a subscript by values -/
def IxR (X : Cx) (r : R2) : Prop :=
  ∀ (value slice : Expr) (pins : List (Addr × Obj)) (s : Shared) (σ : St) (H : Hp) (x y : V) (v u : Value) (Q : VK), Inv X pins σ H s → RelV x v → RelV y u → r x y H Q →
    subscripted slice false v u = operate [v, u] (getItem v u) → wpAny (model X.prog X.w) X.A (subscriptTail value slice v u) (EP X pins σ Q) X.xe s
/-- a call of a builtin's method by values: the receiver, the arguments -/
def MtR (X : Cx) (id : String) (r : V → List V → Hp → VK → Prop) : Prop :=
  ∀ (pins : List (Addr × Obj)) (s : Shared) (σ : St) (H : Hp) (x : V) (xs : List V) (v : Value) (us : List Value) (Q : VK), Inv X pins σ H s → RelV x v → Vals xs us → r x xs H Q →
    wpAny (model X.prog X.w) X.A (call (.builtin id) (v :: us)) (EP X pins σ Q) X.xe s
section
variable {X : Cx} {a b : Expr} {ta tb : TE} {pos : Pos}
theorem IxR.or {r r' : R2} (h : IxR X r) (h' : IxR X r') : IxR X (fun x y H Q => r x y H Q ∨ r' x y H Q) := by
  intro value slice pins s σ H x y v u Q I rx ry q hs
  rcases q with q | q
  · exact h value slice pins s σ H x y v u Q I rx ry q hs
  · exact h' value slice pins s σ H x y v u Q I rx ry q hs
theorem MtR.or {id : String} {r r' : V → List V → Hp → VK → Prop} (h : MtR X id r) (h' : MtR X id r') : MtR X id (fun x xs H Q => r x xs H Q ∨ r' x xs H Q) := by
  intro pins s σ H x xs v us Q I rx rs q
  rcases q with q | q
  · exact h pins s σ H x xs v us Q I rx rs q
  · exact h' pins s σ H x xs v us Q I rx rs q
/-- a[b] -/
theorem pe_ix {r : R2} (hr : IxR X r) (ha : PE X a ta) (hb : PE X b tb) (hs : PlainIx b) : PE X (.Subscript a b pos) (tOp r ta tb) := by
  intro pins s σ H Q I h
  exact Subscript_ (binT ha hb I h fun v u s2 x y H2 I2 rx ry q => hr a b pins s2 σ H2 x y v u Q I2 rx ry q (hs _ _))

def rIxL (K : PySem.W.Frag) : R2 := fun x y H Q => ∃ p xs i v, x = .ref p ∧ y = .int i ∧ SqL K H p xs ∧ atI xs i = some v ∧ Q v H
def rIxT (K : PySem.W.Frag) : R2 := fun x y H Q => ∃ p xs i v, x = .ref p ∧ y = .int i ∧ SqT K H p xs ∧ atI xs i = some v ∧ Q v H
def rIxS : R2 := fun x y H Q => ∃ z i c, x = .str z ∧ y = .int i ∧ z.length ≤ sizeLine ∧ atI z.cps.toList i = some c ∧ Q (.str ⟨#[c]⟩) H
theorem ix_list : IxR X (rIxL X.K) := by
  intro value slice pins s σ H x y v u Q I rx ry h hs
  obtain ⟨p, xs, i, z, rfl, rfl, hq, he, q⟩ := h
  cases rx
  obtain ⟨t, rfl⟩ := ry
  obtain ⟨its, r, pl, hz⟩ := I.list hq
  obtain ⟨j, h1, h2, h3, h4, h5⟩ := atI_get he
  obtain ⟨w, ew, rw'⟩ := r.get h2
  have hl := r.length
  have hn := line63
  have fin : EP X pins σ Q w s := ⟨z, H, I, rw', q⟩
  by_cases h0 : 0 ≤ i
  · have hj : i.toNat = j := by
      rw [seqIndex_of h0 h5] at h1
      exact Option.some.inj h1
    exact item_listR pl.isList h0 (by omega) (by rw [hj]; simpa using ew) fin hs
  · have hj : (i + (its.toArray.size : Int)).toNat = j := by
      rw [seqIndex_neg (by omega) h4] at h1
      rw [List.size_toArray, ← hl]
      exact Option.some.inj h1
    exact subscriptTail_builtinR (x := w) pl.isList.typeIs slot_list_getitem.lookup
      (wpAny_getItem_list_neg (Q := fun r s' => r = w ∧ EP X pins σ Q r s') pl.isList (by omega) (by rw [List.size_toArray] <;> omega) (by omega) (by rw [hj]; simpa using ew) ⟨rfl, fin⟩) hs
theorem ix_tup : IxR X (rIxT X.K) := by
  intro value slice pins s σ H x y v u Q I rx ry h hs
  obtain ⟨p, xs, i, z, rfl, rfl, hq, he, q⟩ := h
  cases rx
  obtain ⟨t, rfl⟩ := ry
  obtain ⟨its, r, pl, hz⟩ := I.tuple hq
  obtain ⟨j, h1, h2, h3, h4, h5⟩ := atI_get he
  obtain ⟨w, ew, rw'⟩ := r.get h2
  have hl := r.length
  have hn := line63
  have fin : EP X pins σ Q w s := ⟨z, H, I, rw', q⟩
  exact subscriptTail_builtinR (x := w) pl.typeIs slot_tuple_getitem.lookup
    (getItem_tuple (j := j) (Q := fun r s' => r = w ∧ EP X pins σ Q r s') pl (by omega) (by omega) (by rw [List.size_toArray, ← hl]; exact h1) (by simpa using ew) ⟨rfl, fin⟩) hs
/-- list, tuple or str -/
def rIx (K : PySem.W.Frag) : R2 := fun x y H Q => rIxL K x y H Q ∨ rIxT K x y H Q ∨ rIxS x y H Q
/-! ### xs[i] = v, any sign -/
/-- the list's object behind a store -/
theorem mapSeq_set (its : List Value) (n j : Nat) (u : Value) : Obj.mapSeq (·.setIfInBounds j u) { cls := .type "list", data := .seq its.toArray n } = { cls := .type "list", data := .seq (its.set j u).toArray n } := by
  simp [Obj.mapSeq]
theorem Inv.lst {pins : List (Addr × Obj)} {σ : St} {H : Hp} {s : Shared} {p : Addr} {xs : List V} (I : Inv X pins σ H s) (h : H p = some (.lst xs)) :
    ∃ (its : List Value) (n : Nat), Vals xs its ∧ s.heap.get? p = some { cls := .type "list", data := .seq its.toArray n } ∧ xs.length ≤ sizeLine := by
  obtain ⟨z, its, n, r, e⟩ := I.hok p _ h
  exact ⟨its, n, r, e, z⟩
/-- the list at p is written by an update of its object -/
theorem Inv.lstUpd {pins : List (Addr × Obj)} {σ : St} {H : Hp} {s : Shared} {p : Addr} {xs ys : List V} {its its' : List Value} {n n' : Nat} {f : Obj → Obj} (I : Inv X pins σ H s) (h : H p = some (.lst xs))
    (ho : s.heap.get? p = some { cls := .type "list", data := .seq its.toArray n }) (hf : f { cls := .type "list", data := .seq its.toArray n } = { cls := .type "list", data := .seq its'.toArray n' }) (r : Vals ys its') (hz : ys.length ≤ sizeLine) (t : Nat) :
    Inv X pins σ (upd H p (.lst ys)) { s with heap := s.heap.update p f, toks := t } := by
  have e : (s.heap.update p f).get? p = some { cls := .type "list", data := .seq its'.toArray n' } := by
    rw [Heap.get?_update_self f ho (by rw [hf] <;> rfl), hf]
  refine I.write (x := p) (e := p) (by rw [h]; trivial) (.inl rfl) (fun b u hb q => (Heap.get?_update_other _ _ (Ne.symm hb)).trans q) ⟨_, e⟩ ?_
  exact ⟨hz, its', n', r, e⟩
def rSetL : V → V → V → Hp → (Hp → Prop) → Prop := fun o i v H Q => ∃ p xs k j, o = .ref p ∧ i = .int k ∧ H p = some (.lst xs) ∧ ixN xs.length k = some j ∧ Q (upd H p (.lst (xs.set j v)))
theorem set_list : PSet X rSetL := by
  intro pins s σ H o i v ov iv u Q I ro ri rv h
  obtain ⟨p, xs, k, j, rfl, rfl, hp, hj, q⟩ := h
  cases ro
  obtain ⟨t, rfl⟩ := ri
  obtain ⟨its, n, r, ho, hz⟩ := I.lst hp
  obtain ⟨h1, h2, h3, h4⟩ := ixN_seq hj
  have hl := r.length
  have hn := line63
  have I' : Inv X pins σ (upd H p (.lst (xs.set j v))) { s with heap := s.heap.update p (Obj.mapSeq (·.setIfInBounds j u)) } :=
    I.lstUpd hp ho (mapSeq_set its n j u) (r.set rv j) (by rw [List.length_set]; exact hz) s.toks
  by_cases h0 : 0 ≤ k
  · have hk : k.toNat = j := by
      rw [seqIndex_of h0 h4] at h1
      exact Option.some.inj h1
    exact PySem.W.ki_setAt ho h0 (by omega) (by rw [List.size_toArray, ← hl]; exact h4) (by rw [hk]; exact ⟨_, I', q⟩)
  · have hk : (k + (its.toArray.size : Int)).toNat = j := by
      rw [seqIndex_neg (by omega) h3] at h1
      rw [List.size_toArray, ← hl]
      exact Option.some.inj h1
    exact PySem.W.ki_setBack ho (by omega) (by rw [List.size_toArray, ← hl]; exact h3) (by omega) (by rw [hk]; exact ⟨_, I', q⟩)

/-! ### slices -/
theorem slice_bounds (lo hi : Option Int) (n : Nat) : (sliceBounds lo hi none n).1 = ((HT.sIx n 0 lo : Nat) : Int) ∧ (sliceBounds lo hi none n).2.1 = ((HT.sIx n n hi : Nat) : Int) ∧ (sliceBounds lo hi none n).2.2 = 1 := by
  refine ⟨?_, ?_, rfl⟩
  · cases lo with
    | none => simp [sliceBounds, HT.sIx]
    | some i =>
      simp only [sliceBounds, HT.sIx, Option.getD_none, show (1 : Int) > 0 by decide, if_true]
      by_cases h : i < 0
      · simp only [h, if_true] <;> omega
      · simp only [h, if_false] <;> omega
  · cases hi with
    | none => simp [sliceBounds, HT.sIx]
    | some i =>
      simp only [sliceBounds, HT.sIx, Option.getD_none, show (1 : Int) > 0 by decide, if_true]
      by_cases h : i < 0
      · simp only [h, if_true] <;> omega
      · simp only [h, if_false] <;> omega
theorem slicePick_cut (its : List Value) (lo hi : Option Int) : slicePick its.toArray lo hi none = ((its.drop (HT.sIx its.length 0 lo)).take (HT.sIx its.length its.length hi - HT.sIx its.length 0 lo)).toArray := by
  obtain ⟨h1, h2, h3⟩ := slice_bounds lo hi its.toArray.size
  unfold slicePick
  rw [h1, h2, h3]
  simp only [sliceRange_one, pick_run, List.size_toArray] <;> rfl
/-- xs[lo:hi] of a list: a new list -/
def rSlL (K : PySem.W.Frag) : V → Option Int → Option Int → Hp → VK → Prop := fun x lo hi H Q => ∃ a xs, x = .ref a ∧ SqL K H a xs ∧ ∀ p, H p = none → Q (.ref p) (upd H p (.lst (cutV xs lo hi)))
theorem sl_list : SlR X (rSlL X.K) := by
  intro pins s σ H x v vl vu lo hi sl Q I rx hs pl pu h
  obtain ⟨a, xs, rfl, hx, q⟩ := h
  cases rx
  obtain ⟨its, r, ht, hz⟩ := I.list hx
  have hlen := r.length
  refine ⟨"list", _, slot_list_getitem.lookup, ht.isList.typeIs, ?_⟩
  refine wpAny_getItem_list_slice ht.isList hs pl pu .none (by simp) ?_ (by rw [List.size_toArray] <;> omega)
  rw [slicePick_cut, ← hlen]
  refine ⟨.ref s.heap.objs.size, _, I.laid (t' := s.toks) (o := .lst (cutV xs lo hi)) (fun b ob q => Heap.get?_push_of_some _ q) (Nat.le_refl _) ?_, rfl, q _ (I.hok.fresh (Nat.le_refl _))⟩
  exact ⟨Nat.le_trans (cutV_length xs lo hi) hz, _, 0, (r.drop (HT.sIx xs.length 0 lo)).take (HT.sIx xs.length xs.length hi - HT.sIx xs.length 0 lo), Heap.get?_push_size _ rfl⟩

/-! ### in, not in: flat items -/
def flatV : V → Bool
  | .non => true
  | .bl _ => true
  | .int _ => true
  | .str _ => true
  | _ => false
/-- == of flat values -/
def eqV : V → V → Bool
  | .non, .non => true
  | .bl a, .bl b => a == b
  | .bl a, .int b => (if a then 1 else 0) == b
  | .int a, .bl b => a == (if b then 1 else 0)
  | .int a, .int b => a == b
  | .str a, .str b => a == b
  | _, _ => false
theorem eqAt_V {A : Around} {s : Shared} {y x : V} {u v : Value} (ry : RelV y u) (rx : RelV x v) (fy : flatV y = true) (fx : flatV x = true) : SeqAt.EqAt A s u v (eqV y x) := by
  cases y with
  | non =>
    cases ry
    cases x with
    | non => cases rx; exact SeqAt.EqAt.same _
    | bl b => cases rx; exact SeqAt.EqAt.none_bool b
    | int b => obtain ⟨t, rfl⟩ := rx; exact SeqAt.EqAt.none_int b t
    | str b => obtain ⟨t, rfl⟩ := rx; exact SeqAt.EqAt.none_str b t
    | _ => exact absurd (show false = true from fx) Bool.false_ne_true
  | bl a =>
    cases ry
    cases x with
    | non => cases rx; exact SeqAt.EqAt.bool_none a
    | bl b => cases rx; exact SeqAt.EqAt.bool_bool a b
    | int b => obtain ⟨t, rfl⟩ := rx; exact SeqAt.EqAt.bool_int a b t
    | str b => obtain ⟨t, rfl⟩ := rx; exact SeqAt.EqAt.bool_str a b t
    | _ => exact absurd (show false = true from fx) Bool.false_ne_true
  | int a =>
    obtain ⟨t', rfl⟩ := ry
    cases x with
    | non => cases rx; exact SeqAt.EqAt.int_none a t'
    | bl b => cases rx; exact SeqAt.EqAt.int_bool a t' b
    | int b => obtain ⟨t, rfl⟩ := rx; exact SeqAt.EqAt.int_int a t' b t
    | str b => obtain ⟨t, rfl⟩ := rx; exact SeqAt.EqAt.int_str a t' b t
    | _ => exact absurd (show false = true from fx) Bool.false_ne_true
  | str a =>
    obtain ⟨t', rfl⟩ := ry
    cases x with
    | non => cases rx; exact SeqAt.EqAt.str_none a t'
    | bl b => cases rx; exact SeqAt.EqAt.str_bool a t' b
    | int b => obtain ⟨t, rfl⟩ := rx; exact SeqAt.EqAt.str_int a t' b t
    | str b => obtain ⟨t, rfl⟩ := rx; exact SeqAt.EqAt.str_str a t' b t
    | _ => exact absurd (show false = true from fx) Bool.false_ne_true
  | _ => exact absurd (show false = true from fy) Bool.false_ne_true
/-- the items' answers, read off the values (a value's own answer does not lean on its token) -/
def eqU (x : V) (u : Value) : Bool := match u with
  | .none => eqV .non x
  | .bool b => eqV (.bl b) x
  | .int i _ => eqV (.int i) x
  | .str z _ => eqV (.str z) x
  | _ => false
theorem eqU_of {x y : V} {u : Value} (r : RelV y u) (f : flatV y = true) : eqU x u = eqV y x := by
  cases y with
  | non => cases r; rfl
  | bl b => cases r; rfl
  | int i => obtain ⟨t, rfl⟩ := r; rfl
  | str z => obtain ⟨t, rfl⟩ := r; rfl
  | _ => exact absurd (show false = true from f) Bool.false_ne_true
theorem any_eqU {x : V} : ∀ {xs : List V} {us : List Value}, Vals xs us → xs.all flatV = true → us.any (eqU x) = xs.any fun y => eqV y x
  | _, _, .nil, _ => rfl
  | y :: xs, u :: us, .cons r t, f => by
    rw [List.all_cons, Bool.and_eq_true] at f
    rw [List.any_cons, List.any_cons, eqU_of r f.1, any_eqU t f.2]
theorem mem_eqAt {A : Around} {s : Shared} {x : V} {v : Value} (rx : RelV x v) (fx : flatV x = true) : ∀ {xs : List V} {us : List Value}, Vals xs us → xs.all flatV = true → ∀ u ∈ us, SeqAt.EqAt A s u v (eqU x u)
  | _, _, .nil, _ => fun u hu => by cases hu
  | y :: xs, u :: us, .cons r t, f => fun u' hu => by
    rw [List.all_cons, Bool.and_eq_true] at f
    rcases List.mem_cons.mp hu with rfl | hu
    · rw [eqU_of r f.1]; exact eqAt_V r rx f.1 fx
    · exact mem_eqAt rx fx t f.2 u' hu
def inV (x : V) (xs : List V) : Bool := xs.any fun y => eqV y x
/-- x in a list or tuple of flat items -/
def rIn (K : PySem.W.Frag) (neg : Bool) : R2 := fun x y H Q => ∃ p xs, y = .ref p ∧ (SqL K H p xs ∨ SqT K H p xs) ∧ flatV x = true ∧ xs.all flatV = true ∧ Q (.bl (if neg then !inV x xs else inV x xs)) H
theorem op_notIn_seq : OpR X (compareOp .NotIn) (rIn X.K true) := by
  intro pins s σ H x y v u Q I rx ry h
  obtain ⟨p, xs, rfl, hq, fx, fs, q⟩ := h
  cases ry
  rcases hq with hq | hq
  · obtain ⟨its, r, pl, hz⟩ := I.list hq
    refine SeqAt.notIn_listAt (eqU x) pl.isList (fun w hw => mem_eqAt rx fx r fs w (by simpa using hw)) ⟨.bl _, H, I, rfl, ?_⟩
    rw [show its.toArray.any (eqU x) = its.any (eqU x) by simp, any_eqU r fs]
    exact q
  · obtain ⟨its, r, pl, hz⟩ := I.tuple hq
    refine SeqAt.notIn_tupleAt (eqU x) pl (fun w hw => mem_eqAt rx fx r fs w (by simpa using hw)) ⟨.bl _, H, I, rfl, ?_⟩
    rw [show its.toArray.any (eqU x) = its.any (eqU x) by simp, any_eqU r fs]
    exact q
/-! ### len, list(x), tuple(x) of any list or tuple that is read -/
theorem call_len_seq : CallR X (.builtin "len") (fun xs H Q => ∃ p ys, xs = [.ref p] ∧ (SqL X.K H p ys ∨ SqT X.K H p ys) ∧ Q (.int ys.length) H) := by
  intro pins s σ H xs us Q I r h
  obtain ⟨p, ys, rfl, hq, q⟩ := h
  obtain ⟨u, rfl, rx⟩ := vals1 r
  cases rx
  have hn := line63
  rcases hq with hq | hq
  · obtain ⟨its, r', pl, hz⟩ := I.list hq
    have hlen := r'.length
    exact Calls.call_len_list pl.isList (by simp only [List.size_toArray] <;> omega) ⟨.int ys.length, H, I.tok _, ⟨s.toks + 1, by rw [List.size_toArray, hlen]⟩, q⟩
  · obtain ⟨its, r', pl, hz⟩ := I.tuple hq
    have hlen := r'.length
    exact len_tuple pl (by simp only [List.size_toArray] <;> omega) ⟨.int ys.length, H, I.tok _, ⟨s.toks + 1, by rw [List.size_toArray, hlen]⟩, q⟩
theorem CallR.or {f : Value} {r r' : List V → Hp → VK → Prop} (h : CallR X f r) (h' : CallR X f r') : CallR X f (fun xs H Q => r xs H Q ∨ r' xs H Q) := by
  intro pins s σ H xs us Q I rs q
  rcases q with q | q
  · exact h pins s σ H xs us Q I rs q
  · exact h' pins s σ H xs us Q I rs q
theorem call_list_of : CallR X (.type "list") (fun xs H Q => ∃ p ys, xs = [.ref p] ∧ (SqL X.K H p ys ∨ SqT X.K H p ys) ∧ ∀ l, H l = none → Q (.ref l) (upd H l (.lst ys))) := by
  intro pins s σ H xs us Q I r h
  obtain ⟨p, ys, rfl, hq, q⟩ := h
  obtain ⟨u, rfl, rx⟩ := vals1 r
  cases rx
  have fin : ∀ (its : List Value), Vals ys its → ys.length ≤ sizeLine → ∀ (h' : Heap) (c' : Nat), (∀ b o', s.heap.get? b = some o' → h'.get? b = some o') →
      h'.get? s.heap.objs.size = some { cls := .type "list", dict := none, data := .seq its.toArray c', slots := #[] } → EP X pins σ Q (.ref s.heap.objs.size) { s with heap := h' } := fun its r' hz h' c' kp e =>
    ⟨.ref s.heap.objs.size, _, I.laid (t' := s.toks) kp (Nat.le_refl _) (show ObjOk X.prog X.w _ h' _ (.lst ys) from ⟨hz, its, c', r', e⟩), rfl, q _ (I.hok.fresh (Nat.le_refl _))⟩
  rcases hq with hq | hq
  · obtain ⟨its, r', pl, hz⟩ := I.list hq
    have hlen := r'.length
    obtain ⟨o, ho, hc, n, hd⟩ := pl.isList
    exact call_list_seq p (.inl rfl) ho hc hd (fun h' c' kp e => fin its r' hz h' c' kp e) (by simp only [List.size_toArray] <;> omega)
  · obtain ⟨its, r', pl, hz⟩ := I.tuple hq
    have hlen := r'.length
    obtain ⟨o, ho, hc, n, hd⟩ := pl
    exact call_list_seq p (.inr rfl) ho hc hd (fun h' c' kp e => fin its r' hz h' c' kp e) (by simp only [List.size_toArray] <;> omega)
theorem call_tuple_of : CallR X (.type "tuple") (fun xs H Q => ∃ p ys, xs = [.ref p] ∧ ((SqL X.K H p ys ∧ ∀ l, H l = none → Q (.ref l) (upd H l (.tup ys))) ∨ (SqT X.K H p ys ∧ Q (.ref p) H))) := by
  intro pins s σ H xs us Q I r h
  obtain ⟨p, ys, rfl, h⟩ := h
  obtain ⟨u, rfl, rx⟩ := vals1 r
  cases rx
  rcases h with ⟨hq, q⟩ | ⟨hq, q⟩
  · obtain ⟨its, r', pl, hz⟩ := I.list hq
    have hlen := r'.length
    refine call_tuple_list pl.isList (fun h' kp => ?_) (by simp only [List.size_toArray] <;> omega)
    have I1 : Inv X pins σ H { s with heap := h' } := I.kept (t' := s.toks) kp
    have I2 : Inv X pins σ (upd H h'.objs.size (.tup ys)) { s with heap := h'.push { cls := .type "tuple", data := .seq its.toArray } } :=
      I1.laid (t' := s.toks) (fun b o e => Heap.get?_push_of_some _ e) (Nat.le_refl _) (show ObjOk X.prog X.w _ _ _ (.tup ys) from ⟨hz, its, r', IsTup.new _ _⟩)
    exact ⟨.ref h'.objs.size, _, I2, rfl, q _ (I1.hok.fresh (Nat.le_refl _))⟩
  · obtain ⟨its, r', pl, hz⟩ := I.tuple hq
    exact call_tuple_same pl ⟨.ref p, H, I, rfl, q⟩

/-! ### the call of a builtin's method: o.m(..) -/
/-- the value is of that builtin type -/
def tyV (K : PySem.W.Frag) (T : String) (x : V) (H : Hp) : Prop := match x with
  | .str _ => T = "str"
  | .int _ => T = "int"
  | .ref p => (T = "list" ∧ ∃ xs, SqL K H p xs) ∨ (T = "tuple" ∧ ∃ o, K.lookup p = some o ∧ o.cls = .type "tuple" ∧ o.dict = none) ∨
      (T = "dict" ∧ ((∃ kvs, H p = some (.dK kvs)) ∨ ∃ kvs, H p = some (.dT kvs))) ∨ (T = "set" ∧ ∃ S n, H p = some (.set S n))
  | _ => False
theorem tyV_is {pins : List (Addr × Obj)} {σ : St} {H : Hp} {s : Shared} {T : String} {x : V} {v : Value} (I : Inv X pins σ H s) (r : RelV x v) (ty : tyV X.K T x H) :
    s.TypeIs v T ∧ ∀ a, v = .ref a → ∃ ob, s.heap.get? a = some ob ∧ ob.dict = none := by
  cases x with
  | str z =>
    obtain ⟨t, rfl⟩ := r
    cases (show T = "str" from ty)
    exact ⟨typeIs_str s z t, fun _ e => nomatch e⟩
  | int i =>
    obtain ⟨t, rfl⟩ := r
    cases (show T = "int" from ty)
    exact ⟨typeIs_int s i t, fun _ e => nomatch e⟩
  | ref p =>
    cases r
    rcases ty with ⟨rfl, xs, hq⟩ | ⟨rfl, o, hk, hc, hd⟩ | ⟨rfl, hk⟩ | ⟨rfl, S, n, hk⟩
    · obtain ⟨its, _, pl, _⟩ := I.list hq
      refine ⟨pl.isList.typeIs, fun a e => ?_⟩
      cases e
      obtain ⟨o, n, e, c, hd, _⟩ := pl
      exact ⟨o, e, hd⟩
    · refine ⟨⟨o, I.kIn p o hk, hc⟩, fun a e => ?_⟩
      cases e
      exact ⟨o, I.kIn _ o hk, hd⟩
    · have z : ∃ o, s.heap.get? p = some o ∧ o.ExactDict := by
        rcases hk with ⟨kvs, hk⟩ | ⟨kvs, hk⟩
        · obtain ⟨_, _, _, _, o, _, _, e, ex, _⟩ := I.hok p _ hk
          exact ⟨o, e, ex⟩
        · obtain ⟨_, _, _, _, o, _, _, e, ex, _⟩ := I.hok p _ hk
          exact ⟨o, e, ex⟩
      obtain ⟨o, e, ex⟩ := z
      refine ⟨⟨o, e, ex.1⟩, fun a e2 => ?_⟩
      cases e2
      exact ⟨o, e, ex.2.1⟩
    · obtain ⟨o, _, _, _, e, ex, _⟩ := I.hok p _ hk
      refine ⟨⟨o, e, ex.1⟩, fun a e2 => ?_⟩
      cases e2
      exact ⟨o, e, ex.2.1⟩
  | _ => exact False.elim ty
def tBM0 (K : PySem.W.Frag) (T : String) (r : V → List V → Hp → VK → Prop) (to : TE) : TE := fun σ H Q => to σ H fun x H1 => tyV K T x H1 ∧ r x [] H1 Q
def tBM (K : PySem.W.Frag) (T : String) (r : V → List V → Hp → VK → Prop) (to : TE) (t : TA) : TE := fun σ H Q => to σ H fun x H1 => tyV K T x H1 ∧ t σ H1 fun xs H2 => r x xs H2 Q
variable {o e : Expr} {es : List Expr} {to : TE} {t : TA} {name : Str} {apos cpos : Pos} {T id : String} {r : V → List V → Hp → VK → Prop}
theorem pe_bm (pa : PlainAttrs T) (slot : Slot T name id) (hty : typeOf (.builtin id) = pure (.type "method_descriptor")) (hm : MtR X id r) (ho : PE X o to) (ha : PA X (e :: es) t)
    (hbase : attributeBase o name X.env (eval o X.env) = eval o X.env := by rfl)
    (hfew : ((backTo cpos (starEach (e :: es) X.env)).all (fun x => !x.1) && (backToKw cpos (keywordEach [] X.env)).all (fun x => x.1.isSome)
      && decide ((e :: es).length + ([] : List Keyword).length + (if ([] : List Keyword).isEmpty then 0 else 1) < 30)) = true := by rfl)
    (hline : (apos.endLine == cpos.line) = true := by rfl) (hs : starEach (e :: es) X.env = (false, eval e X.env) :: starEach es X.env := by rfl) (hplain : (backTo cpos (starEach es X.env)).any (·.1) = false := by rfl) :
    PE X (.Call (.Attribute o name apos) (e :: es) [] cpos) (tBM X.K T r to t) := by
  intro pins s σ H Q I h
  refine wpAny_Call_method_late hbase hfew hline rfl (thn (ho pins s σ H _ I h) fun v s1 ⟨x, H1, I1, r1, ty, q1⟩ => ?_)
  obtain ⟨h1, h2⟩ := tyV_is I1 r1 ty
  refine ⟨T, id, pa, slot, hty, h1, h2, ?_⟩
  have hA := ha cpos pins s1 σ H1 _ I1 q1
  rw [hs] at hA ⊢
  refine Calls.callWith_builtin (by show (false || (backTo cpos (starEach es X.env)).any (·.1)) = false; rw [hplain] <;> rfl) (Calls.evalArgs_plain ?_)
  exact thn hA fun us s2 ⟨vs, H2, I2, r2, q2⟩ => hm pins s2 σ H2 x vs v us Q I2 r1 r2 q2
/- xs.append(e), list.index on a module's tuple .. are MtR facts of 06m -/
end
end L2

namespace L2
open PySem PySem.Spec PyProof.Rows

def MtM (X : Cx) (id : String) (r : V → List V → Hp → VK → Prop) : Prop :=
  ∀ (pins : List (Addr × Obj)) (s : Shared) (σ : St) (H : Hp) (x : V) (xs : List V) (v : Value) (us : List Value) (Q : VK), Inv X pins σ H s → RelV x v → Vals xs us → r x xs H Q →
    wpAny (model X.prog X.w) X.A (call (.builtin id) (v :: us)) (EP X pins σ Q) X.xe s

/-! ### lists of values -/
theorem Vals.one : ∀ {x : V} {us : List Value}, Vals [x] us → ∃ u, us = [u] ∧ RelV x u
  | _, _, .cons r .nil => ⟨_, rfl, r⟩
theorem Vals.two : ∀ {x y : V} {us : List Value}, Vals [x, y] us → ∃ u v, us = [u, v] ∧ RelV x u ∧ RelV y v
  | _, _, _, .cons r (.cons q .nil) => ⟨_, _, rfl, r, q⟩
theorem Vals.zero : ∀ {us : List Value}, Vals [] us → us = []
  | _, .nil => rfl
theorem Vals.dropLast {xs : List V} {us : List Value} (h : Vals xs us) : Vals xs.dropLast us.dropLast := by
  induction h with
  | nil => exact .nil
  | cons r t ih =>
    cases t with
    | nil => exact .nil
    | cons q t' => exact .cons r ih
theorem Vals.eraseIdx : ∀ {xs : List V} {us : List Value} (i : Nat), Vals xs us → Vals (xs.eraseIdx i) (us.eraseIdx i)
  | _, _, _, .nil => .nil
  | _, _, 0, .cons _ t => t
  | _, _, i + 1, .cons r t => .cons r (Vals.eraseIdx i t)
theorem Vals.reverse {xs : List V} {us : List Value} (h : Vals xs us) : Vals xs.reverse us.reverse := by
  induction h with
  | nil => exact .nil
  | cons r t ih => rw [List.reverse_cons, List.reverse_cons]; exact Vals.append ih (.cons r .nil)
theorem Vals.rep {xs : List V} {us : List Value} (h : Vals xs us) : ∀ k : Nat, Vals (List.replicate k xs).flatten (List.replicate k us).flatten
  | 0 => .nil
  | k + 1 => by
    rw [List.replicate_succ, List.replicate_succ, List.flatten_cons, List.flatten_cons]
    exact Vals.append h (Vals.rep h k)
theorem foldl_rep (its : List Value) : ∀ (k : Nat) (acc : List Value),
    List.foldl (fun x1 x2 => x1 ++ x2) acc.toArray (List.replicate k its.toArray) = (acc ++ (List.replicate k its).flatten).toArray
  | 0, acc => by simp
  | k + 1, acc => by
    have e : acc.toArray ++ its.toArray = (acc ++ its).toArray := by simp
    have e2 : (acc ++ its) ++ (List.replicate k its).flatten = acc ++ (List.replicate (k + 1) its).flatten := by
      rw [List.replicate_succ, List.flatten_cons, List.append_assoc]
    rw [← e2, ← foldl_rep its k (acc ++ its), ← e, List.replicate_succ, List.foldl_cons]

section
variable {X : Cx} {pins : List (Addr × Obj)} {σ : St} {H : Hp} {s : Shared} {l b : Addr} {xs ys zs : List V}

/-! ### the two steps: a tracked list is rewritten, a new list is laid -/
theorem Inv.lset {its its' : List Value} {n : Nat} {f : Array Value → Array Value} {t' : Nat} (I : Inv X pins σ H s) (hH : H l = some (.lst xs))
    (e : s.heap.get? l = some { cls := .type "list", data := .seq its.toArray n }) (hf : f its.toArray = its'.toArray) (hv : Vals ys its') (hz : ys.length ≤ sizeLine) :
    Inv X pins σ (upd H l (.lst ys)) { s with heap := s.heap.update l (Obj.mapSeq f), toks := t' } := by
  have q := PySem.IsL.update e f
  rw [hf] at q
  refine I.write (x := l) (e := l) (by rw [hH]; exact trivial) (.inl rfl) (fun b' u hb hu => (Heap.get?_update_other s.heap (Obj.mapSeq f) (Ne.symm hb)).trans hu) ⟨_, q⟩ ?_
  exact ⟨hz, its', _, hv, q⟩
theorem Inv.lnew {its : List Value} {t' : Nat} (I : Inv X pins σ H s) (hv : Vals ys its) (hz : ys.length ≤ sizeLine) :
    Inv X pins σ (upd H s.heap.objs.size (.lst ys)) { s with heap := s.heap.push { cls := .type "list", data := .seq its.toArray }, toks := t' } :=
  I.laid (fun _ _ q => Heap.get?_push_of_some _ q) (Nat.le_refl _) ⟨hz, its, 0, hv, Heap.get?_push_size _ rfl⟩
theorem Inv.fresh (I : Inv X pins σ H s) : H s.heap.objs.size = none := I.hok.fresh (Nat.le_refl _)
theorem Inv.lstM (I : Inv X pins σ H s) (hH : H l = some (.lst xs)) : xs.length ≤ sizeLine ∧ ∃ (its : List Value) (n : Nat), Vals xs its ∧ xs.length = its.length ∧ s.heap.get? l = some { cls := .type "list", data := .seq its.toArray n } := by
  obtain ⟨z, its, n, r, e⟩ := I.hok l _ hH
  exact ⟨z, its, n, r, r.length, e⟩

theorem notLongL {n : Nat} (h : n ≤ sizeLine) : Builtin.List.listTooLong n = false := by
  unfold Builtin.List.listTooLong
  exact decide_eq_false (by omega)
end

section
variable {X : Cx}

/-! ### methods -/
def rAppend : V → List V → Hp → VK → Prop := fun x vs H Q => ∃ l xs y, x = .ref l ∧ vs = [y] ∧ H l = some (.lst xs) ∧ xs.length < sizeLine ∧ Q .non (upd H l (.lst (xs ++ [y])))
theorem mt_append : MtM X "list.append" rAppend := by
  intro pins s σ H x vs v us Q I rx rv h
  obtain ⟨l, xs, y, rfl, rfl, hH, hz, q⟩ := h
  cases rx
  obtain ⟨u, rfl, ru⟩ := rv.one
  obtain ⟨z, its, n, r, hl, e⟩ := I.lstM hH
  refine call_meets F.slot_list_append ⟨_, e, rfl⟩ F.entry_list_append (F.args_list_append_2 _ _) (PySem.list_append l its.toArray n u (by rw [List.size_toArray]; omega)) ⟨e, ?_⟩
  refine ⟨.non, _, I.lset (its' := its ++ [u]) hH e (by simp) (r.append (.cons ru .nil)) ?_, rfl, q⟩
  rw [List.length_append, List.length_singleton]
  omega

def rExtend : V → List V → Hp → VK → Prop := fun x vs H Q => ∃ l b xs zs, x = .ref l ∧ vs = [.ref b] ∧ H l = some (.lst xs) ∧ H b = some (.lst zs) ∧ xs.length + zs.length ≤ sizeLine ∧ Q .non (upd H l (.lst (xs ++ zs)))
def rPop : V → List V → Hp → VK → Prop := fun x vs H Q => ∃ l xs y, x = .ref l ∧ vs = [] ∧ H l = some (.lst xs) ∧ xs[xs.length - 1]? = some y ∧ Q y (upd H l (.lst xs.dropLast))
def rPopAt : V → List V → Hp → VK → Prop := fun x vs H Q => ∃ l xs i k y, x = .ref l ∧ vs = [.int i] ∧ H l = some (.lst xs) ∧ -(2 ^ 63) ≤ i ∧ i < 2 ^ 63 ∧ seqIndex? i xs.length = some k ∧ xs[k]? = some y ∧ Q y (upd H l (.lst (xs.eraseIdx k)))
def rReverse : V → List V → Hp → VK → Prop := fun x vs H Q => ∃ l xs, x = .ref l ∧ vs = [] ∧ H l = some (.lst xs) ∧ Q .non (upd H l (.lst xs.reverse))
def rClear : V → List V → Hp → VK → Prop := fun x vs H Q => ∃ l xs, x = .ref l ∧ vs = [] ∧ H l = some (.lst xs) ∧ Q .non (upd H l (.lst []))
/-! ### list + list, list += list, list * int -/
def rCat : R2 := fun x y H Q => ∃ l b xs zs, x = .ref l ∧ y = .ref b ∧ H l = some (.lst xs) ∧ H b = some (.lst zs) ∧ xs.length + zs.length ≤ sizeLine ∧ ∀ p, H p = none → Q (.ref p) (upd H p (.lst (xs ++ zs)))
theorem op_cat : OpR X (binaryOp .Add) rCat := by
  intro pins s σ H x y v u Q I rx ry h
  obtain ⟨l, b, xs, zs, rfl, rfl, hH, hB, hz, q⟩ := h
  cases rx
  cases ry
  obtain ⟨z, its, n, r, hl, e⟩ := I.lstM hH
  obtain ⟨z2, its2, n2, r2, hl2, e2⟩ := I.lstM hB
  refine PySem.P.add_list e e2 ?_ (by rw [List.size_toArray, List.size_toArray]; omega)
  have ea : its.toArray ++ its2.toArray = (its ++ its2).toArray := by simp
  rw [ea]
  exact ⟨.ref _, _, I.lnew (t' := s.toks) (r.append r2) (by rw [List.length_append]; omega), rfl, q _ I.fresh⟩
/-- a list times an int (a negative one is nothing) -/
def rRep : R2 := fun x y H Q => ∃ l k xs, x = .ref l ∧ y = .int k ∧ H l = some (.lst xs) ∧ -(2 ^ 63) ≤ k ∧ k < 2 ^ 63 ∧ xs.length * k.toNat ≤ sizeLine ∧
  ∀ p, H p = none → Q (.ref p) (upd H p (.lst (List.replicate k.toNat xs).flatten))
theorem len_rep {α : Type} (xs : List α) (k : Nat) : (List.replicate k xs).flatten.length = k * xs.length := by
  induction k with
  | zero => simp
  | succ k ih => rw [List.replicate_succ, List.flatten_cons, List.length_append, ih, Nat.succ_mul, Nat.add_comm]
theorem op_rep : OpR X (binaryOp .Mult) rRep := by
  intro pins s σ H x y v u Q I rx ry h
  obtain ⟨l, k, xs, rfl, rfl, hH, h1, h2, hz, q⟩ := h
  cases rx
  obtain ⟨t, rfl⟩ := ry
  obtain ⟨z, its, n, r, hl, e⟩ := I.lstM hH
  have hlen : its.toArray.size * k.toNat ≤ sizeLine := by rw [List.size_toArray, ← hl]; exact hz
  have hcap : ¬ its.toArray.size * k.toNat > (2 ^ 63 - 1) / 8 := by
    have : (sizeLine : Nat) ≤ (2 ^ 63 - 1) / 8 := by decide
    omega
  have hfit : ¬ (!Builtin.List.listFitsIndex k) = true := by
    rw [fitsIndex_both h1 h2]
    exact Bool.false_ne_true
  have hlong : ¬ Builtin.List.listTooLong (its.toArray.size * k.toNat) = true := by
    rw [notLongL hlen]
    exact Bool.false_ne_true
  have hnew : List.foldl (fun x1 x2 => x1 ++ x2) #[] (List.replicate (if its.toArray.isEmpty = true then 0 else k.toNat) its.toArray) = (List.replicate k.toNat its).flatten.toArray := by
    have f0 : ∀ m : Nat, List.foldl (fun x1 x2 => x1 ++ x2) #[] (List.replicate m its.toArray) = (List.replicate m its).flatten.toArray := fun m => by
      have := foldl_rep its m []
      rw [List.nil_append] at this
      exact this
    rw [f0]
    cases its with
    | nil => simp
    | cons a r' => rw [if_neg (by simp)]
  refine wpAny_binaryOp_repeat_ref (T := "list") (U := "int") (by decide) ⟨_, e, rfl⟩ (fun s' => typeIs_int s' k t) noFill_list_mul F.fills_int_mul F.slot_int_rmul repeat_list F.slot_int_index.lookup
    (call_meets F.slot_int_rmul (typeIs_int s k t) F.entry_int_rmul (F.args_int_rmul_2 _ _) (int___rmul___int_list k t l its.toArray n)
      ⟨e, rfl, ⟨_, e, rfl⟩, call_meets F.slot_list_mul ⟨_, e, rfl⟩ F.entry_list_mul (F.args_list_mul_2 _ _) (AutoListH.list___mul___list_int_3 l its.toArray n k t hfit hcap hlong) ⟨e, ?_⟩⟩)
  rw [hnew]
  exact ⟨.ref _, _, I.lnew (t' := s.toks) (r.rep k.toNat) (by rw [len_rep, Nat.mul_comm]; exact hz), rfl, q _ I.fresh⟩

/-! ### del xs[i] -/
end

/-! ### xs[a:b] = ys -/
section
variable {prog : Program} {w : World} {A : Around} {E : Value → Shared → Prop} {s : Shared}
set_option maxRecDepth 100000 in
end

section
variable {X : Cx}
end
end L2

namespace Att
open PySem PySem.W PySem.Calls PyProof.Rows

/-! ### the script -/
theorem ints_of_wellAll {P : Params} {h : Heap} : ∀ (ns : List Int) (vs : List Value), WellAll P h vs (ns.map WData.int) → IntsAre vs ns := by
  intro ns
  induction ns with
  | nil =>
    intro vs w
    rw [List.map_nil] at w
    cases w
    exact .nil
  | cons n ns ih =>
    intro vs w
    rw [List.map_cons] at w
    cases w with
    | cons a b =>
      cases a
      exact .cons _ _ (ih _ b)

theorem script_of {l : OpenLaw} {n : Nat} (hn : l.most = some n) {P : Params} {h : Heap} {args : List WData} {vals : List Value}
    (hpre : l.row.toRowW.claim.pre args = true) (hwl : WellAll P h vals args) :
    ∃ a vs ns, vals = [Value.ref a] ∧ args = [WData.list (ns.map WData.int)] ∧ h.get? a = some { cls := .type "list", data := .seq vs.toArray } ∧ IntsAre vs ns ∧ ns.length ≤ n := by
  have hsh : WShape.hasAll [] args [.list .int] = true := (pre_splitW hpre).1
  have hc : l.pre.holds [] { args := args } = true := (pre_splitW hpre).2
  obtain ⟨d, r, rfl, h1, h2⟩ := hasAllW_cons hsh
  obtain rfl := hasAllW_nil h2
  obtain ⟨xs, rfl, h3⟩ := hasW_list h1
  obtain ⟨ns, rfl⟩ := items_int h3
  have hlen : ns.length ≤ n := by
    unfold OpenLaw.pre at hc
    have h4 : (WTm.not (.lt (.lit (.int (n : Int))) (.len (.arg 0)))).holds [] { args := [.list (ns.map .int)] } = true := by
      have h4 := (holds_andW hc).1
      rw [hn] at h4
      exact h4
    have h5 := condW_of h4 (w_not (w_lt w_lit (w_len_list (w_arg rfl))))
    rw [List.length_map] at h5
    refine Nat.le_of_not_lt fun q => ?_
    have q' : (n : Int) < ((ns.length : Nat) : Int) := by omega
    first
      | (rw [decide_eq_true q'] at h5; exact absurd h5 (by decide))
      | (simp at h5; omega)
  cases hwl with
  | cons w1 w2 =>
    cases w2
    cases w1 with
    | list ho hall => exact ⟨_, _, ns, rfl, rfl, ho, ints_of_wellAll ns _ hall, hlen⟩

theorem post_true (l : OpenLaw) (args : List WData) : l.row.toRowW.claim.post args (.bool true) args = true :=
  postW_of (r := l.row.toRowW) (X := (true == true))
    (show WShape.has [] (.bool true) .bool = true by first | rfl | decide | simp [WShape.has, WShape.arms, WShape.armsAll])
    (show (WTm.eq .res (.lit (.bool true))).value [] { args := args, res := some (.bool true), after := args } = some (.bool (true == true)) from w_eq_bool (w_res rfl) w_lit) rfl

/-! ### the attachment: holds_open's last premise (the goal 'hc' behind k_head) from a wpAny of the law's body -/
/-- the same from a codeAny of the CALL (for a layer whose function contracts speak of calls) -/
theorem attach_call {l : OpenLaw} {n : Nat} {q : Program} {loose : List Str} {XP : (Str → Option Value) → Heap → Prop} {YP : World → Heap → Prop} {d : DefRec}
    (hn : l.most = some n) (hdf : d.params.defaults = [])
    (call : ∀ (w : World) (s₀ s₁ : Shared) (mg mb : Str → Option Value) (fa : Addr) (o : Obj) (pm cd doc : Value) (a : Addr) (vs : List Value) (ns : List Int),
      Ground q loose [] XP w s₀ mg mb s₁.heap → YP w s₁.heap →
      s₁.heap.get? fa = some o → o.data = .func (docDef d.name d.params d.body d.scope pm cd doc) → s₁.heap.CodeRec cd d.name → mg d.name = some (.ref fa) →
      s₁.heap.get? a = some { cls := .type "list", data := .seq vs.toArray } → IntsAre vs ns → ns.length ≤ n → s₁.gens = #[] →
      codeAny (model l.prog w) callerA (.call (.ref fa) ⟨[.ref a], []⟩) (fun r s' => r = .ok (.ret (.bool true)) ∧ OldK s₁.heap s'.heap ∧ s'.os = s₁.os ∧ AllBare s'.gens) s₁) :
    WalkO q loose XP YP l.row.toRowW d [] (fun f vs => PySem.call f vs) := by
  intro w s₀ s₁ mg mb G Y fa o pm cd doc dV kV ho hd hcd hD hmg hg args vals as hpre hlay hrd hwl hlo
  obtain rfl : dV = .none := Dflts.none hD hdf
  obtain rfl : kV = .none := Dflts.noKw hD
  obtain ⟨a, vs, ns, rfl, rfl, hobj, hints, hlen⟩ := script_of hn hpre hwl
  refine enter_call (codeAny_mono (call w s₀ s₁ mg mb fa o pm cd doc a vs ns G Y ho (fd_plain hd) hcd hmg hobj hints hlen hg) fun r s' hq => ?_)
  obtain ⟨rfl, h2, h3, h4⟩ := hq
  exact ⟨.inl ⟨.bool true, .bool true, [], rfl, fun _ => rfl, .bool true, post_true l _, fun _ => ⟨List.Pairwise.nil, fun _ hm => (nomatch hm)⟩⟩, h2, h3, h4⟩

/-! ### rules over ANY heap (no ledger) from facts about the written part K: the library's own take a ledger (News) for what they write -/
section
variable {prog : Program} {w : World} {A : Around} {E : Value → Shared → Prop} {s : Shared} {K : Frag}

/-! the whole heap as the ledger: makes every rule that writes through a ledger a rule over any heap -/
def noObjs (h : Heap) : Heap := { h with objs := #[] }
def ledger (h : Heap) (L d : Addr) : List (Addr × Obj) := (List.range h.objs.size).filterMap fun a => if a = L ∨ a = d then none else (h.get? a).map fun o => (a, o)
end
end Att

namespace L2
open PySem PySem.Spec PyProof.Rows

theorem vals_ints : ∀ {vs : List Value} {ns : List Int}, IntsAre vs ns → Vals (ns.map V.int) vs
  | _, _, .nil => .nil
  | _, _, .cons n t h => .cons ⟨t, rfl⟩ (vals_ints h)

/-- nothing is tracked but the script, known to the object (or it is an object of the module) -/
def Only (H : Hp) : Prop := ∀ b, H b = none ∨ ∃ o xs, H b = some (.frz o (.lst xs))

/-- THE HEAD: the law's promise, at the heap behind the top. F, the promise of the law's def, may use that base is part of the heap (so K.In base, base.Ns mainGlobals mg stand in Mod) -/
theorem law_call {P : Program} {w : World} {K : PySem.W.Frag} {mg mb : Str → Option Value} {CX : CXT} {k : Nat} {fa a : Addr} {fd : FuncData} {x : Str} {sp : Sp} {s₁ : Shared} {vs : List Value} {ns : List Int}
    (KX : K.In s₁.heap) (hns : s₁.heap.Ns mainGlobals mg) (hb : s₁.heap.Ns builtinsNs mb) (hbb : ∀ x : Str, x ≠ "__name__" → mb x = bootBuiltins x) (hlim : s₁.heap.NoLimit) (hg : s₁.gens = #[])
    (ha : s₁.heap.get? a = some { cls := .type "list", data := .seq vs.toArray }) (hi : IntsAre vs ns) (hl : ns.length ≤ sizeLine) (hr : Room k callerA)
    (F : ∀ base : Heap, K.In base → base.Ns mainGlobals mg → FnOk P w K mg base CX k fa fd [x] sp) (hbind : ∀ (s : Shared) (u : Value), BindsTo s fd ⟨[u], []⟩ [(x, u)])
    (hsp : ∀ H : Hp, Only H → SqL K H a (ns.map V.int) → sp [.ref a] H (fun v _ => v = .bl true) fun _ _ _ => False)
    (hCX : ∀ H e s', CX [] H s₁ (fun _ _ _ => False) e s' → False) :
    codeAny (model P w) callerA (.call (.ref fa) ⟨[.ref a], []⟩) (fun r s' => r = .ok (.ret (.bool true)) ∧ OldK s₁.heap s'.heap ∧ s'.os = s₁.os ∧ AllBare s'.gens) s₁ := by
  have rv := vals_ints hi
  have lenV := hi.length
  -- from an abstract heap in which nothing but the script may be tracked
  have core : ∀ H : Hp, Only H → SqL K H a (ns.map V.int) → HOk P w H s₁.heap → (∀ b, H b ≠ none → b = a) → (H a ≠ none → K.lookup a = none) →
      codeAny (model P w) callerA (.call (.ref fa) ⟨[.ref a], []⟩) (fun r s' => r = .ok (.ret (.bool true)) ∧ OldK s₁.heap s'.heap ∧ s'.os = s₁.os ∧ AllBare s'.gens) s₁ := by
    intro H hO hS hok hA hK
    have base_of : ∀ {b : Addr} {o : Obj}, s₁.heap.get? b = some o → H b = none → (hidT s₁.heap H).get? b = some o := fun e n => hidT_get e n
    have noA : ∀ {b : Addr} {o : Obj} {es : Array DictEntry} {ep : Nat}, s₁.heap.get? b = some o → o.data = .dict es ep → H b = none := fun {b o es ep} e d => by
      cases q : H b with
      | none => rfl
      | some u =>
        have e' : b = a := hA b (by rw [q]; simp)
        subst e'
        rw [ha] at e; cases e
        have d' : Data.seq vs.toArray _ = Data.dict es ep := d
        cases d'
    have nsK : ∀ {b : Addr} {m : Str → Option Value}, s₁.heap.Ns b m → (hidT s₁.heap H).Ns b m := fun {b m} ⟨o, es, ep, e, d, r⟩ => ⟨o, es, ep, base_of e (noA e d), d, r⟩
    have hKb : K.In (hidT s₁.heap H) := fun b o e => base_of (KX b o e) (by
      cases q : H b with
      | none => rfl
      | some u =>
        have e' : b = a := hA b (by rw [q]; simp)
        subst e'
        rw [hK (by rw [q]; simp)] at e; cases e)
    have hM : Mod K mg (hidT s₁.heap H) := ⟨hKb, nsK hns, ⟨mb, nsK hb, hbb⟩, let ⟨mc, h1, h2⟩ := hlim; ⟨mc, nsK h1, h2⟩⟩
    have e0 : Env0 P w K mg (hidT s₁.heap H) callerA [] s₁ H := ⟨rfl, hM, fun b o e => of_hidT e, Nat.le_of_eq (hidT_size _ _), trivial, fun b hb => absurd (show b ∈ ([] : List Addr) from hb) (by simp), hok, .of_eq hg, .inl rfl⟩
    refine codeAny_mono ((F _ hKb (nsK hns)).run callerA [] s₁ H ⟨[.ref a], []⟩ [.ref a] [.ref a] _ _ hr e0 (hbind s₁ (.ref a)) (.cons rfl .nil) (hsp H hO hS)) fun r s' h => ?_
    cases r with
    | error e => exact (hCX H e s' h).elim
    | ok fl =>
      cases fl with
      | next => exact False.elim h
      | brk => exact False.elim h
      | cont => exact False.elim h
      | ret u =>
        obtain ⟨v, H', os, bare, un, hok', r', q⟩ := h
        have q' : v = .bl true := q
        subst q'
        obtain rfl : u = Value.bool true := r'
        refine ⟨rfl, OldK.of_keep fun b o e => ?_, os, bare⟩
        cases q : H b with
        | none => exact un.keep b o e q (by intro z; exact absurd (show b ∈ ([] : List Addr) from z) (by simp)) (by simp)
        | some u =>
          rcases hO b with z | ⟨ob, xs, z⟩
          · rw [q] at z; cases z
          · have z2 := un.frzs b ob _ z
            obtain ⟨e1, _⟩ := hok b _ z
            obtain ⟨e2, _⟩ := hok' b _ z2
            rw [e] at e1; cases e1
            exact e2
  cases hk : K.lookup a with
  | some o =>
    -- the script is one of the module's own objects
    have e := KX a o hk
    rw [ha] at e
    cases e
    refine core (fun _ => none) (fun _ => .inl rfl) (.inr ⟨_, vs.toArray, _, hk, rfl, rfl, rfl, by rw [List.size_toArray, lenV]; exact hl, by simpa using rv⟩) (fun b u z => by have z' : (none : Option HO) = some u := z; cases z') (fun b z => absurd rfl z) fun z => absurd rfl z
  | none =>
    refine core (fun b => if b = a then some (.frz { cls := .type "list", data := .seq vs.toArray } (.lst (ns.map V.int))) else none) (fun b => ?_) (.inl (.inr ⟨{ cls := .type "list", data := .seq vs.toArray }, if_pos rfl⟩)) (fun b u z => ?_) (fun b z => ?_) fun _ => hk
    · by_cases hb : b = a
      · exact .inr ⟨_, _, if_pos hb⟩
      · exact .inl (if_neg hb)
    · by_cases hb : b = a
      · have z' := (if_pos hb).symm.trans z
        cases z'
        subst hb
        exact ⟨ha, by rw [List.length_map]; exact hl, vs, _, rv, ha⟩
      · have z' := (if_neg hb).symm.trans z
        cases z'
    · by_cases hb : b = a
      · exact hb
      · exact absurd (if_neg hb) z
end L2

namespace L2
open PySem PySem.Spec PyProof.Rows

abbrev KOf {K : PySem.W.Frag} {h : Heap} (_ : K.In h) : PySem.W.Frag := K

/-- the goal that k_head leaves (case hc), from the law's promise. F gives the function object fd (K's own) once, then the promise over every base -/
theorem walk_of {l : PySem.W.OpenLaw} {n k : Nat} {q : Program} {loose : List Str} {XP : (Str → Option Value) → Heap → Prop} {YP : World → Heap → Prop} {d : DefRec} {K : Params → PySem.W.Frag} {CX : World → CXT} {sp : World → Sp} {x : Str}
    (hn : l.most = some n) (hn2 : n ≤ sizeLine) (hdf : d.params.defaults = []) (hr : Room k callerA)
    (hY : ∀ (w : World) (h : Heap), YP w h → (K w.params).In h)
    (F : ∀ (w : World) (mg : Str → Option Value) (fa : Addr) (h : Heap), (K w.params).In h → h.Ns mainGlobals mg → mg d.name = some (.ref fa) →
      ∃ fd : FuncData, (∀ (s : Shared) (u : Value), BindsTo s fd ⟨[u], []⟩ [(x, u)]) ∧
        ∀ base : Heap, (K w.params).In base → base.Ns mainGlobals mg → FnOk l.prog w (K w.params) mg base (CX w) k fa fd [x] (sp w))
    (hsp : ∀ (w : World) (H : Hp) (a : Addr) (ns : List Int), ns.length ≤ n → Only H → SqL (K w.params) H a (ns.map V.int) → sp w [.ref a] H (fun v _ => v = .bl true) fun _ _ _ => False)
    (hCX : ∀ (w : World) (H : Hp) (s : Shared) (e : Value) (s' : Shared), CX w [] H s (fun _ _ _ => False) e s' → False) :
    PySem.W.WalkO q loose XP YP l.row.toRowW d [] (fun f vs => PySem.call f vs) := by
  refine Att.attach_call hn hdf fun w s₀ s₁ mg mb fa o pm cd doc a vs ns G Y ho hd hcd hmg hobj hints hlen hg => ?_
  have KX := hY w _ Y
  obtain ⟨fd, hb, hF⟩ := F w mg fa _ KX G.T.g hmg
  exact law_call KX G.T.g G.T.b G.T.builtins G.T.nolimit hg hobj hints (Nat.le_trans hlen hn2) hr hF hb (fun H hO hS => hsp w H a ns hlen hO hS) fun H e s' => hCX w H s₁ e s'
end L2

/- THE LAST THEOREM (shape; LID, My.* are yours):
   My.Adr: a structure of the addresses that your layer names (classes, functions); My.Txt K t: a structure (Prop) of the equations over K;
   My.txt_mk : {K} {implicit addresses ..} (e1 : nsIn K mainGlobals "law" = some (some (.ref f))) (e2 : K.lookup f = some ⟨oc, od, .func (fnOf "law" "law" params body scope dV kV doc pm an cdv ct), sl⟩) (e3 : codeIn K cdv "law" = true) .. : ∃ t, My.Txt K t

set_option maxRecDepth 100000 in
set_option maxHeartbeats 0 in
theorem PySem.Challenge.cw_LID_holds : PySem.Challenge.rw_LID.Holds := by
  w_on; o_law; k_head; (case hw => w_witness2)
  k_fill
  refine L2.walk_of (l := PySem.Challenge.rw_LID) (n := 63) (k := 40) (x := "script") (CX := fun w => ..) (sp := fun _ => My.sp_law) rfl (by decide) rfl ⟨rfl, by decide, by decide⟩ (fun w h Y => PySem.W.kIn_of Y) ?F ?S ?C
  case F =>
    intro w mg fa h KX G hmg
    have T : ∃ t, My.Txt (L2.KOf KX) t := by
      dsimp only [L2.KOf]                          -- K must stand as «<heap const> w.params» for k_is
      refine' My.txt_mk ?e1 ?e2 ?e3 ..
      (case e1 => PySem.W.k_is)                    -- in the order: a name -> its address -> its object -> its parts
      (case e2 => PySem.W.k_is)
      ..
    obtain ⟨t, T⟩ := T
    have e0 := hmg.symm.trans (PySem.W.mg_of KX G T.law)
    cases e0                                       -- fa is the law's own address
    exact ⟨_, fun s u => .of_eq rfl, fun base kb nb => My.law_fn T kb nb⟩     -- if «.of_eq rfl» comes too early: refine' ⟨_, ?b, fun base kb nb => My.law_fn T kb nb⟩; exact fun s u => .of_eq rfl
  case S => exact fun w H a ns hl hO hS => ..
  case C => exact ..
(the tactic k_is has no namespace: write k_is) -/

/-! SHORT WORDS over the layer: a def of the text, its body, what a loop and a test want. -/
namespace L2
open PySem PySem.Spec PyProof.Rows

/-! ### the text by places -/
/-- the j-th statement of a class's body -/
def inClass (s : Stmt) (j : Nat) : Stmt := match s with
  | .ClassDef _ _ _ body _ _ _ _ _ _ _ => body.getD j (.Pass ⟨0, 0, 0, 0⟩)
  | _ => .Pass ⟨0, 0, 0, 0⟩
def defArgs (s : Stmt) : Arguments := match s with
  | .FunctionDef _ a _ _ _ _ _ _ _ _ => a
  | _ => { posonlyargs := [], args := [], vararg := none, kwonlyargs := [], kw_defaults := [], kwarg := none, defaults := [] }
def defBody (s : Stmt) : List Stmt := match s with
  | .FunctionDef _ _ b _ _ _ _ _ _ _ => b
  | _ => []
def defScope (s : Stmt) : Scope := match s with
  | .FunctionDef _ _ _ _ _ _ sc _ _ _ => sc
  | _ => { kind := .function, names := [], isGenerator := false, isCoroutine := false }

/-! ### no exception leaves a def -/
abbrev CX0 : CXT := fun _ _ _ _ _ _ => False
abbrev E0 : XK := fun _ _ _ => False
theorem pass0 {X : Cx} : Passes CX0 X E0 := fun _ _ _ _ _ _ _ h => h.elim

/-! ### a def (or method) of the text as it stands behind the top -/
structure Fun (K : PySem.W.Frag) (x qual : Str) (st : Stmt) (f : Addr) (fd : FuncData) : Prop where
  ex : ∃ (oc : Value) (od : Option Addr) (kV doc pm : Value) (an : Option Addr) (cdv ct : Value) (osl : Array (Option Value)),
    fd = PySem.W.fnOf x qual (defArgs st) (defBody st) (defScope st) .none kV doc pm an cdv ct ∧ K.lookup f = some ⟨oc, od, .func fd, osl⟩ ∧ PySem.W.codeIn K cdv qual = true
  kp : PySem.W.keepIn K (.ref f) = true
section
variable {P : Program} {w : World} {K : PySem.W.Frag} {mg : Str → Option Value} {base : Heap}
/-- THE RULE for a def: its body as a term of rules, and the reading of that term -/
theorem Fun.ok {x qual : Str} {st : Stmt} {f : Addr} {fd : FuncData} {N ps : List Str} {k : Nat} {sp : Sp} (F : Fun K x qual st f fd) (S : FnScope N ps (defScope st)) (len : ∀ vs H Q E, sp vs H Q E → vs.length = ps.length)
    (hbody : ∀ (cdv : Value) (A : Around) (outer : List Env) (s : Shared) (H : Hp) (vs : List V) (Q : VK) (E : XK), Room k (A.deeper (envOfC qual (defScope st) s.heap.objs.size f cdv)) → sp vs H Q E →
      ∃ t, PSs (cxOf CX0 P w K mg base N qual (defScope st) f cdv A outer s H E).nox (defBody st) t ∧ t { nx := fun _ H' => Q .non H', rt := Q } (start N vs) H) : FnOk P w K mg base CX0 (k + 1) f fd ps sp := by
  obtain ⟨oc, od, kV, doc, pm, an, cdv, ct, osl, rfl, lk, hcd⟩ := F.ex
  refine fn_of lk hcd S len fun A outer s H vs Q E hr hsp => ?_
  obtain ⟨t, h, q⟩ := hbody cdv A outer s H vs Q E hr hsp
  exact ⟨t, h.nox, q⟩
/-- how its arguments bind (no defaults): h is «fun _ _ _ _ _ _ us hl => match us, hl with | [_, _], _ => rfl», one _ a parameter -/
theorem Fun.binds {x qual : Str} {st : Stmt} {f : Addr} {fd : FuncData} {ps : List Str} (F : Fun K x qual st f fd)
    (h : ∀ (kV doc pm : Value) (an : Option Addr) (cdv ct : Value) (us : List Value), us.length = ps.length → bindArgs (PySem.W.fnOf x qual (defArgs st) (defBody st) (defScope st) .none kV doc pm an cdv ct) ⟨us, []⟩ = pure (ps.zip us)) : Binds K fd ps [] := by
  obtain ⟨oc, od, kV, doc, pm, an, cdv, ct, osl, rfl, lk, hcd⟩ := F.ex
  exact .all (h kV doc pm an cdv ct)
theorem fun_mk {x qual : Str} {st : Stmt} {f : Addr} {oc : Value} {od an : Option Addr} {osl : Array (Option Value)} {kV doc pm cdv ct : Value} (l : K.lookup f = some ⟨oc, od, .func (PySem.W.fnOf x qual (defArgs st) (defBody st) (defScope st) .none kV doc pm an cdv ct), osl⟩)
    (c : PySem.W.codeIn K cdv qual = true) (k : PySem.W.keepIn K (.ref f) = true) : Fun K x qual st f (PySem.W.fnOf x qual (defArgs st) (defBody st) (defScope st) .none kV doc pm an cdv ct) := ⟨⟨oc, od, kV, doc, pm, an, cdv, ct, osl, rfl, l, c⟩, k⟩
end
theorem small1000 {n : Nat} (h : n ≤ 1000) : n < sizeLine := Nat.lt_of_le_of_lt h (by decide)

/-! ### expressions in short: the name that stands in the i-th slot -/
section
variable {X : Cx}
theorem pv (i : Nat) {x : Str} {pos : Pos} (hN : X.N[i]? = some x := by rfl) (hv : Vis X.env.scope x := by first | exact Or.inl rfl | exact Or.inr (Or.inl rfl) | exact Or.inr (Or.inr rfl)) (hd : (x == ("__debug__" : Str)) = false := by decide)
    (hcd : (x == ("__classdict__" : Str)) = false := by decide) : PE X (.Name x pos) (tVar i) := pe_var hN hv hd hcd
end

/-! ### tests -/
theorem iteF {A B : Prop} (h : B) : if false = true then A else B := by
  rw [if_neg Bool.false_ne_true]
  exact h
theorem iteT {A B : Prop} (h : A) : if true = true then A else B := by
  rw [if_pos rfl]
  exact h
theorem ite2 {c A B : Prop} [Decidable c] (h1 : c → A) (h2 : ¬ c → B) : if c then A else B := by
  by_cases h : c
  · rw [if_pos h]
    exact h1 h
  · rw [if_neg h]
    exact h2 h
/-! ### heaps -/
/-- all that was tracked is as it was -/
def Same (H H' : Hp) : Prop := ∀ b o, H b = some o → H' b = some o
theorem Same.refl (H : Hp) : Same H H := fun _ _ h => h
theorem Same.trans {H H1 H2 : Hp} (a : Same H H1) (b : Same H1 H2) : Same H H2 := fun c o h => b c o (a c o h)
theorem Same.free {H H' : Hp} (e : Same H H') {l : Addr} (h : H' l = Option.none) : H l = Option.none := by
  cases q : H l with
  | none => rfl
  | some o =>
    rw [e l o q] at h
    cases h
theorem Same.seq {K : PySem.W.Frag} {H H' : Hp} {a : Addr} {xs : List V} (e : Same H H') (h : SqL K H a xs) : SqL K H' a xs := by
  rcases h with (h | ⟨o, h⟩) | h
  · exact .inl (.inl (e _ _ h))
  · exact .inl (.inr ⟨o, e _ _ h⟩)
  · exact .inr h

end L2

set_option Elab.async false
set_option linter.all false
set_option maxRecDepth 100000
set_option maxHeartbeats 4000000
namespace L2
open PySem PySem.Spec PyProof.Rows

/-! ## my own rules: comprehensions, enumerate, sum, is not True, isinstance -/
/-- where a comprehension's element is reckoned: its names stand in a dict of their own -/
def cxComp (X : Cx) (N : List Str) (scope : Scope) (fp : List Addr) (s : Shared) (H : Hp) : Cx where
  prog := X.prog
  w := X.w
  K := X.K
  mg := X.mg
  base := X.base
  A := X.A
  N := N
  s₀ := s
  H₀ := H
  env := compEnv scope s.heap.objs.size X.env
  outer := X.stack
  stack := X.stack
  ex := fp
  fn := fun _ => true
  calm := X.calm
  pn := []
  xe := fun _ _ => False
section
variable {X : Cx} {pins : List (Addr × Obj)} {σ : St} {H : Hp} {s : Shared} {N : List Str} {scope : Scope} {fp : List Addr}
theorem comp_nocell {x : Str} {c : Addr} (e : (cxComp X N scope fp s H).env.cells.lookup x = some c) : False :=
  nomatch (show (none : Option Addr) = some c from e)
theorem inv_comp {h' : Heap} {t' : Nat} {m : Str → Option Value} (I : Inv X pins σ H s) (hkind : scope.kind = .function) (hfree : ∀ x ∈ scope.names, x.2 ≠ .free) (hcell : ∀ x ∈ scope.names, x.2 ≠ .cell)
    (hf : ∀ b ∈ fp, FpOk X pins H b) (hlt : ∀ b ∈ fp, b < s.heap.objs.size) (hn : h'.Ns s.heap.objs.size m) (hk : ∀ b o, s.heap.get? b = some o → h'.get? b = some o) :
    Inv (cxComp X N scope fp s H) [] (List.replicate N.length none) H { s with heap := h', toks := t' } := by
  refine ⟨⟨I.ok.mod, hkind, I.ok.glob, I.ok.blt, Nat.le_refl _, fun x y c e => (comp_nocell e).elim, fun x hx => ?_, fun x c _ e => (comp_nocell e).elim, I.qt, I.ok.frames, .inl rfl,
    fun b hb => ⟨Nat.ne_of_lt (hlt b hb), fun x c e => (comp_nocell e).elim⟩, I.bs, Nat.le_trans I.ok.bsz I.sz, fun b o e hb => ?_, fun b hb hs => ?_, I.stack, I.stkFree⟩,
    rfl, I.bare, Un.kept hk, ⟨m, hn, fun i x v h1 h2 => ?_⟩, fun x c e => (comp_nocell e).elim, I.hok.fresh (Nat.le_refl _), fun x c e => (comp_nocell e).elim, fun p hp => ?_, I.hok.kept hk, List.length_replicate⟩
  · have hx : scope.names.lookup x = some .cell ∨ scope.names.lookup x = some .free := hx
    rcases hx with hx | hx
    · exact absurd rfl (hcell _ (PySem.mem_of_lookup hx))
    · exact absurd rfl (hfree _ (PySem.mem_of_lookup hx))
  · rcases (hf b hb).2.2.2.1 with z | z
    · exact I.ok.noex b o e z
    · exact absurd (Nat.lt_of_lt_of_le (Heap.lt_size e) (Nat.le_trans I.ok.bsz z)) (Nat.lt_irrefl _)
  · rcases List.mem_cons.mp (I.stkSub b hs) with z | z
    · exact (hf b hb).2.1 z
    · exact (hf b hb).2.2.1 z
  · rw [List.getElem?_replicate] at h2
    split at h2 <;> cases h2
  · exact absurd (show p ∈ ([] : List (Addr × Obj)) from hp) (by simp)
/-- the comprehension is through: the def's own state again -/
theorem comp_back {pins' : List (Addr × Obj)} {σ' : St} {H' : Hp} {s' : Shared} (I : Inv X pins σ H s) (hf : ∀ b ∈ fp, FpOk X pins H b) (I' : Inv (cxComp X N scope fp s H) pins' σ' H' s') : Inv X pins σ H' s' :=
  I.call' (ch := fp) I'.os I'.base I'.hok I'.bare fun b hb => ⟨(hf b hb).2.2.2.1, (hf b hb).2.1, (hf b hb).2.2.2.2.1, (hf b hb).2.2.2.2.2⟩
end

section
variable {prog : Program} {w : World} {A : Around} {R : Result → Shared → Prop} {s : Shared}
/-- the loop of a comprehension, whatever its target -/
theorem comp_loop {elt target iter : Expr} {scope : Scope} {pos : Pos} {it acc : Value} {env : Env} (J : Nat → Shared → Prop)
    (turn : ∀ n z, J n z → wpAny (model prog w) A (pyNext it) (fun r z1 => match r with
      | none => R (.ok .next) z1
      | some v => wpAny (model prog w) A (letOwnedTupleGo target it v) (fun _ z2 => wpAny (model prog w) A (assign target env v) (fun _ z3 => wpAny (model prog w) A (eval elt env) (fun x z4 =>
          wpAny (model prog w) A (call (.builtin "list.append") [acc, x]) (fun _ z5 => ∃ m, m < n ∧ J m z5)
            (notedBy (model prog w) A env fun e s' => R (.error e) s') z4) (notedBy (model prog w) A env fun e s' => R (.error e) s') z3)
            (notedBy (model prog w) A env fun e s' => R (.error e) s') z2) (notedBy (model prog w) A env fun e s' => R (.error e) s') z1) (notedBy (model prog w) A env fun e s' => R (.error e) s') z)
    (n : Nat) (h : J n s) : codeAny (model prog w) A (.compLoop (.ListComp elt [⟨target, iter, [], 0⟩] scope pos) 0 it acc env) R s := by
  refine codeAny_loop rfl J (fun k z hz => ?_) n h
  show wpAny _ _ ((compTurn (.ListComp elt [⟨target, iter, [], 0⟩] scope pos) 0 it acc env).onRaise (fun q => do noteFrame q env; theTreesLotGoes q)) _ _ z
  refine wpAny_noted ?_
  rw [compTurn_list1]
  refine wpAny_bind (wpAny_standAt (wpAny_bind (wpAny_mono (turn k z hz) (fun r z1 g1 => ?_) fun _ _ q => q)))
  cases r with
  | none => exact wpAny_pure g1
  | some v =>
    refine wpAny_bind (wpAny_mono g1 (fun _ z2 g2 => wpAny_bind (wpAny_mono g2 (fun _ z3 g3 => ?_) fun _ _ q => q)) fun _ _ q => q)
    exact wpAny_bind (wpAny_bind (wpAny_mono g3 (fun x z4 g4 => wpAny_bind (wpAny_mono g4 (fun _ z5 g5 => wpAny_pure (wpAny_pure ⟨rfl, g5⟩)) fun _ _ q => q)) fun _ _ q => q))
end

/-- [elt for target in iter]: W by the turn, a measure, the list so far, the comprehension's names, the heap; l: where the list stands -/
def tComp (n : Nat) (wi : TI) (g : TG) (te : TE) : TE := fun σ H Q => wi σ H fun J H1 => ∀ l, H1 l = none → ∃ W : Nat → Nat → List V → St → Hp → Prop,
  (∃ m, W 0 m [] (List.replicate n none) (upd H1 l (.lst []))) ∧ ∀ i m ys σ' H', W i m ys σ' H' →
    (J.stop i H' ∧ Q (.ref l) H') ∨ (J.go i H' ∧ ∀ x H2, J.yld i H' x H2 → g x σ' H2 fun σ3 H3 => te σ3 H3 fun y H4 =>
      H4 l = some (.lst ys) ∧ ys.length < sizeLine ∧ ∃ m', m' < m ∧ W (i + 1) m' (ys ++ [y]) σ3 (upd H4 l (.lst (ys ++ [y]))))
section
variable {X : Cx} {N : List Str} {scope : Scope} {elt target iter : Expr} {pos : Pos} {wi : TI} {g : TG} {te : TE}
/-- name = [elt for target in iter] -/
def tSetC (i : Nat) (t : TE) : TS := fun D σ H => t σ H fun v H1 => D.nx (σ.set i (some v)) H1
end
/-! ### sum, is not True, isinstance -/
section
variable {X : Cx}
theorem call_isi : CallR X (.builtin "isinstance") (fun xs H Q => ∃ x c t b, xs = [x, .ty c] ∧ TyOf X.K H x t ∧ PySem.W.kitOne X.K t (.type c) = some b ∧ Q (.bl b) H) := by
  intro pins s σ H xs us Q I r h
  obtain ⟨x, c, t, b, rfl, ty, e, q⟩ := h
  obtain ⟨u, v, rfl, ru, rv⟩ := vals2 r
  cases rv
  exact isinst_ok I ru ty e fun tk => ⟨.bl b, H, I.tok tk, rfl, q⟩
end
end L2

set_option Elab.async false
set_option linter.all false
set_option maxRecDepth 100000
set_option maxHeartbeats 4000000
namespace L2
open PySem PySem.Spec PyProof.Rows
/-! ## more rules of my own: comprehensions that capture names, defs with defaults, small dicts, sets, lists compared -/
def cxCompC (X : Cx) (N : List Str) (scope : Scope) (cl : List (Str × Addr)) (fp : List Addr) (s : Shared) (H : Hp) : Cx where
  prog := X.prog
  w := X.w
  K := X.K
  mg := X.mg
  base := X.base
  A := X.A
  N := N
  s₀ := s
  H₀ := H
  env := compEnvC scope cl s.heap.objs.size X.env
  outer := X.stack
  stack := X.stack
  ex := fp
  fn := fun _ => false
  calm := X.calm
  pn := []
  xe := fun _ _ => False
/-- the captured names' values, by their slots in the def's own frame -/
def cap (js : List (Option Nat)) (σ : St) : St := js.map fun o => match o with
  | none => none
  | some j => (σ[j]?).getD none
/-- what is asked of the captured names -/
structure Caps (X : Cx) (N : List Str) (scope : Scope) (cl : List (Str × Addr)) (js : List (Option Nat)) : Prop where
  kind : scope.kind = .function
  nocell : ∀ x ∈ scope.names, x.2 ≠ .cell
  names : ∀ x ∈ scope.names, x.2 = .local → scope.names.lookup x.1 = some .local
  clos : closureFor scope X.env = pure cl
  sub : ∀ x c, cl.lookup x = some c → X.env.cells.lookup x = some c
  has : ∀ x, ((relabel scope X.env).names.lookup x = some .cell ∨ (relabel scope X.env).names.lookup x = some .free) → ∃ c, cl.lookup x = some c
  len : js.length = N.length
  slot : ∀ (i : Nat) (x : Str) (j : Nat), N[i]? = some x → js[i]? = some (some j) → X.N[j]? = some x ∧ X.env.scope.names.lookup x = some .cell ∧ (relabel scope X.env).names.lookup x = some .cell ∧ ∀ c, X.env.cells.lookup x = some c → cl.lookup x = some c
section
variable {X : Cx} {pins : List (Addr × Obj)} {σ : St} {H : Hp} {s : Shared} {N : List Str} {scope : Scope} {cl : List (Str × Addr)} {js : List (Option Nat)} {fp : List Addr}
theorem inv_compC {h' : Heap} {t' : Nat} {m : Str → Option Value} (I : Inv X pins σ H s) (C : Caps X N scope cl js)
    (hf : ∀ b ∈ fp, FpOk X pins H b) (hlt : ∀ b ∈ fp, b < s.heap.objs.size) (hn : h'.Ns s.heap.objs.size m) (hk : ∀ b o, s.heap.get? b = some o → h'.get? b = some o) :
    Inv (cxCompC X N scope cl fp s H) [] (cap js σ) H { s with heap := h', toks := t' } := by
  have sub : ∀ {x : Str} {c : Addr}, (cxCompC X N scope cl fp s H).env.cells.lookup x = some c → X.env.cells.lookup x = some c := fun {x c} e => C.sub x c e
  refine ⟨⟨I.ok.mod, C.kind, I.ok.glob, I.ok.blt, Nat.le_refl _, fun x y c e1 e2 => I.ok.inj x y c (sub e1) (sub e2), fun x hx => C.has x hx, fun x c e _ => (by cases e), I.qt, I.ok.frames, .inl rfl,
    fun b hb => ⟨Nat.ne_of_lt (hlt b hb), fun x c e => (hf b hb).2.2.2.2.1 x c (sub e)⟩, I.bs, Nat.le_trans I.ok.bsz I.sz, fun b o e hb => ?_, fun b hb hs => ?_, I.stack, I.stkFree⟩,
    rfl, I.bare, Un.kept hk, ⟨m, hn, fun i x v h1 h2 h3 => ?_⟩, fun x c e => ?_, I.hok.fresh (Nat.le_refl _), fun x c e => I.freeC x c (sub e), fun p hp => ?_, I.hok.kept hk, by unfold cap; rw [List.length_map]; exact C.len⟩
  · rcases (hf b hb).2.2.2.1 with z | z
    · exact I.ok.noex b o e z
    · exact absurd (Nat.lt_of_lt_of_le (Heap.lt_size e) (Nat.le_trans I.ok.bsz z)) (Nat.lt_irrefl _)
  · rcases List.mem_cons.mp (I.stkSub b hs) with z | z
    · exact (hf b hb).2.1 z
    · exact (hf b hb).2.2.1 z
  · unfold cap at h2
    rw [List.getElem?_map] at h2
    cases ej : js[i]? with
    | none => rw [ej] at h2; cases h2
    | some o =>
      rw [ej] at h2
      cases o with
      | none => cases h2
      | some j =>
        have h2' : (σ[j]?).getD none = some v := Option.some.inj h2
        obtain ⟨hj1, hk1, hk2, hc⟩ := C.slot i x j h1 ej
        have hj2 : σ[j]? = some (some v) := by
          cases e : σ[j]? with
          | none => rw [e] at h2'; cases h2'
          | some w' => rw [e] at h2'; exact congrArg some h2'
        obtain ⟨mo, hno, hl⟩ := I.loc
        obtain ⟨u, r, l⟩ := hl j x v hj1 hj2 (.inr (.inl hk1))
        refine ⟨u, r, ?_⟩
        rcases l with ⟨q, _⟩ | ⟨_, c, ec, o, ho, hd⟩
        · have q' : X.env.scope.names.lookup x = some .local := q
          rw [hk1] at q'; cases q'
        · exact .inr ⟨.inl hk2, c, hc c ec, o, hk c o ho, hd⟩
  · obtain ⟨v, o, ho, hd⟩ := I.cell x c (sub e)
    exact ⟨v, o, hk c o ho, hd⟩
  · exact absurd (show p ∈ ([] : List (Addr × Obj)) from hp) (by simp)
theorem compC_back {pins' : List (Addr × Obj)} {σ' : St} {H' : Hp} {s' : Shared} (I : Inv X pins σ H s) (hf : ∀ b ∈ fp, FpOk X pins H b) (I' : Inv (cxCompC X N scope cl fp s H) pins' σ' H' s') : Inv X pins σ H' s' :=
  I.call' (ch := fp) I'.os I'.base I'.hok I'.bare fun b hb => ⟨(hf b hb).2.2.2.1, (hf b hb).2.1, (hf b hb).2.2.2.2.1, (hf b hb).2.2.2.2.2⟩
end
def tCompC (js : List (Option Nat)) (wi : TI) (g : TG) (te : TE) : TE := fun σ H Q => wi σ H fun J H1 => ∀ l, H1 l = none → ∃ W : Nat → Nat → List V → St → Hp → Prop,
  (∃ m, W 0 m [] (cap js σ) (upd H1 l (.lst []))) ∧ ∀ i m ys σ' H', W i m ys σ' H' →
    (J.stop i H' ∧ Q (.ref l) H') ∨ (J.go i H' ∧ ∀ x H2, J.yld i H' x H2 → g x σ' H2 fun σ3 H3 => te σ3 H3 fun y H4 =>
      H4 l = some (.lst ys) ∧ ys.length < sizeLine ∧ ∃ m', m' < m ∧ W (i + 1) m' (ys ++ [y]) σ3 (upd H4 l (.lst (ys ++ [y]))))
section
variable {X : Cx} {N : List Str} {scope : Scope} {cl : List (Str × Addr)} {js : List (Option Nat)} {elt target iter : Expr} {pos : Pos} {wi : TI} {g : TG} {te : TE}
theorem compC_core {pins : List (Addr × Obj)} {σ : St} {H : Hp} {s : Shared} {Q : VK} {RR : Value → Addr → Result → Shared → Prop}
    (hc : X.calm = true) (Cp : Caps X N scope cl js)
    (hi : PI X target iter wi) (hg : ∀ fp s H, PG (cxCompC X N scope cl fp s H) target g) (he : ∀ fp s H, PE (cxCompC X N scope cl fp s H) elt te)
    (I : Inv X pins σ H s) (h : tCompC js wi g te σ H Q)
    (hR : ∀ (l C : Addr) (H' : Hp) (s' : Shared), Inv X pins σ H' s' → FpOk X pins H' C → (∃ m, s'.heap.Ns C m) → Q (.ref l) H' → RR (.ref l) C (.ok .next) s') :
    wpAny (model X.prog X.w) X.A (eval iter X.env) (fun x s₁ => wpAny (model X.prog X.w) X.A (pyIter x) (fun it s₂ => wpAny (model X.prog X.w) X.A (newList []) (fun acc s₃ =>
      wpAny (model X.prog X.w) X.A (newFunctionEnv scope X.env.globals cl [] X.env.qual none .none (some X.env)) (fun cenv s₄ =>
        codeAny (model X.prog X.w) X.A (.compStart (.ListComp elt [⟨target, iter, [], 0⟩] scope pos) 0 it acc { cenv with scope := relabel scope X.env }) (RR acc cenv.locals) s₄) X.xe s₃) X.xe s₂) X.xe s₁) X.xe s := by
  refine thn (hi pins s σ H _ I h) fun v s1 h1 => thn h1 fun itv s2 h2 => ?_
  obtain ⟨it, fp, tn, J, H2, e, I2, T, st2, f2, hw⟩ := h2
  subst e
  have hl2 : H2 s2.heap.objs.size = none := I2.hok.fresh (Nat.le_refl _)
  obtain ⟨W, ⟨m0, w0⟩, turn⟩ := hw s2.heap.objs.size hl2
  have lt2 : ∀ b ∈ fp, b < s2.heap.objs.size := fun b hb => let ⟨o, e, _⟩ := T.obj _ _ st2 b hb; Heap.lt_size e
  refine wpAny_newList ?_
  have I3 : Inv X pins σ (upd H2 s2.heap.objs.size (.lst [])) { s2 with heap := s2.heap.push { cls := .type "list", data := .seq ([] : List Value).toArray } } :=
    I2.laid (t' := s2.toks) (fun b u e => Heap.get?_push_of_some _ e) (Nat.le_refl _) ⟨Nat.zero_le _, [], 0, .nil, Heap.get?_push_size _ rfl⟩
  have st3 : tn 0 (s2.heap.push { cls := .type "list", data := .seq ([] : List Value).toArray }) := T.keep _ _ _ st2 fun b hb o e => Heap.get?_push_of_some _ e
  have lt3 : ∀ b ∈ fp, b < (s2.heap.push { cls := .type "list", data := .seq ([] : List Value).toArray }).objs.size := fun b hb => by rw [Heap.size_push]; exact Nat.lt_succ_of_lt (lt2 b hb)
  have f3 : ∀ b ∈ fp, FpOk X pins (upd H2 s2.heap.objs.size (.lst [])) b := fun b hb => ⟨by rw [upd_ne (Nat.ne_of_lt (lt2 b hb))]; exact (f2 b hb).1, (f2 b hb).2⟩
  generalize s2.heap.objs.size = l at *
  generalize upd H2 l (.lst []) = H3 at *
  have hs3 : ∃ s3 : Shared, s3 = { s2 with heap := s2.heap.push { cls := .type "list", data := .seq ([] : List Value).toArray } } := ⟨_, rfl⟩
  obtain ⟨s3, e3⟩ := hs3
  rw [← e3] at I3
  rw [← e3]
  have st3 : tn 0 s3.heap := by rw [e3]; exact st3
  have lt3 : ∀ b ∈ fp, b < s3.heap.objs.size := by rw [e3]; exact lt3
  clear e3
  refine wpAny_newFunctionEnv Cp.nocell (by intro y hy; simp at hy) (fun h4 hns hsb => ?_) Cp.kind
  have kp : ∀ b o, s3.heap.get? b = some o → h4.get? b = some o := fun b o e => hsb.extBut b o (Nat.ne_of_lt (Heap.lt_size e)) (Heap.get?_push_of_some _ e)
  have I4 := inv_compC (N := N) (t' := s3.toks + ([] : List (Str × Value)).length) I3 Cp f3 lt3 hns kp
  have st4 : tn 0 h4 := T.keep _ _ _ st3 fun b hb o e => kp b o e
  have stat : ∀ {H' : Hp}, (∀ b ∈ fp, H' b = none) → ∀ b ∈ fp, FpOk (cxCompC X N scope cl fp s3 H3) [] H' b := fun hn b hb =>
    ⟨hn b hb, (I4.ok.exf b hb).1, I4.ok.exfs b hb, .inl hb, (I4.ok.exf b hb).2, fun p hp => absurd (show p ∈ ([] : List (Addr × Obj)) from hp) (by simp)⟩
  have loop : codeAny (model X.prog X.w) X.A (.compLoop (.ListComp elt [⟨target, iter, [], 0⟩] scope pos) 0 (.ref it) (.ref l) (compEnvC scope cl s3.heap.objs.size X.env)) (RR (.ref l) s3.heap.objs.size)
      { s3 with heap := h4, toks := s3.toks + ([] : List (Str × Value)).length } := by
    refine comp_loop (fun n s' => ∃ i ys σ' H', Inv (cxCompC X N scope cl fp s3 H3) [] σ' H' s' ∧ tn i s'.heap ∧ (∀ b ∈ fp, H' b = none) ∧ W i n ys σ' H') ?_ m0 ⟨0, [], _, _, I4, st4, fun b hb => (f3 b hb).1, w0⟩
    rintro n s5 ⟨i, ys, σ5, H5, I5, st5, fr5, w5⟩
    rcases turn i n ys σ5 H5 w5 with ⟨stop, q⟩ | ⟨go, step⟩
    · refine thn (T.done (cxCompC X N scope cl fp s3 H3) rfl rfl rfl hc i [] s5 σ5 H5 _ I5 (stat fr5) st5 stop) fun r s6 ⟨hr, I6⟩ => ?_
      subst hr
      exact hR _ _ _ _ (compC_back I3 f3 I6) (I3.fpOk (Nat.le_refl _) I6.free) (let ⟨m, hn, _⟩ := I6.loc; ⟨m, hn⟩) q
    · refine thn (T.item (cxCompC X N scope cl fp s3 H3) rfl rfl rfl hc i [] s5 σ5 H5 _ I5 (stat fr5) st5 go) fun r s6 ⟨u, hr, h6⟩ => ?_
      subst hr
      refine thn h6 fun _ s7 ⟨x, H7, I7, r7, y7, st7, fr7⟩ => ?_
      have I7' := I7.pinned (stat fr7) (T.obj _ _ st7)
      refine wpAny_mono (hg fp s3 H3 _ s7 σ5 H7 x u _ I7' r7 (step x H7 y7)) (fun _ s8 ⟨σ8, H8, I8, q8⟩ => ?_) (fun _ _ z => False.elim z)
      refine wpAny_mono (he fp s3 H3 _ s8 σ8 H8 _ I8 q8) (fun v s9 ⟨y, H9, I9, r9, hl9, hz9, m', hm', w9⟩ => ?_) (fun _ _ z => False.elim z)
      refine wpAny_mono (mt_append (X := cxCompC X N scope cl fp s3 H3) _ s9 σ8 H9 (.ref l) [y] (.ref l) [v] (fun z Hz => Hz = upd H9 l (.lst (ys ++ [y]))) I9 rfl (.cons r9 .nil) ⟨l, ys, y, rfl, rfl, hl9, hz9, rfl⟩)
        (fun _ s10 ⟨z, Hz, I10, _, eH⟩ => ?_) (fun _ _ z => False.elim z)
      subst eH
      refine ⟨m', hm', i + 1, ys ++ [y], σ8, _, I10.unpinned, T.keep _ _ _ st7 fun b hb o e => (I10.pin (b, o) (List.mem_append_right _ (List.mem_append_right _ (mem_pinsAt hb e)))).1, fun b hb => ?_, w9⟩
      obtain ⟨o, e, d⟩ := T.obj _ _ st7 b hb
      exact (I10.pin (b, o) (List.mem_append_right _ (List.mem_append_right _ (mem_pinsAt hb e)))).2.1
  exact codeAny_compStart_list loop (T.self X.A 0 _ _ _ st4 loop)
/-- name = [elt for target in iter], names captured -/
theorem ps_setCC {i : Nat} {y : Str} {py spos : Pos} (hN : X.N.Nodup) (hiy : X.N[i]? = some y) (hy : Loc X.env.scope y)
    (hc : X.calm = true) (Cp : Caps X N scope cl js)
    (hi : PI X target iter wi) (hg : ∀ fp s H, PG (cxCompC X N scope cl fp s H) target g) (he : ∀ fp s H, PE (cxCompC X N scope cl fp s H) elt te)
    (hsw : swapsWith (.ListComp elt [⟨target, iter, [], 0⟩] scope pos) (some (.Name y py)) spos.line X.env = pure true)
    (hs : ∀ x, foldedSetIterable iter X.env x = pure x := by intro _; rfl) (hf : X.fn y = true ∨ X.env.scope.names.lookup y = some .local := by first | exact .inl rfl | exact .inr rfl | assumption) :
    PS X (.Assign [.Name y py] (.ListComp elt [⟨target, iter, [], 0⟩] scope pos) spos) (tSetC i (tCompC js wi g te)) := by
  intro pins s σ H D I h
  rw [exec_Assign_Name_used _ _ _ _ hsw]
  refine wpAny_bind (wpAny_standAt (wpAny_bind ?_))
  show wpAny _ X.A (do let _ ← comprehension (.ListComp elt [⟨target, iter, [], 0⟩] scope pos) scope X.env _ (newList []) false (eval iter X.env) (some (assign (.Name y py) X.env))) _ _ s
  refine wpAny_bind (wpAny_mono (wpAny_comprehension_free (use := some (assign (.Name y py) X.env)) (Q := fun _ s' => SP X pins D .next s') rfl hs Cp.clos Cp.kind Cp.names
    (compC_core (RR := fun acc C => compPost (model X.prog X.w) X.A X.xe (some (assign (.Name y py) X.env)) (fun _ s' => SP X pins D .next s') acc C) hc Cp hi hg he I h ?_)) (fun _ s' hq => wpAny_pure (wpAny_pure hq)) fun _ _ e => e)
  rintro l C H' s' I' fC ⟨m, hn⟩ q
  show wpAny _ X.A (assign (.Name y py) X.env (.ref l)) _ _ _
  refine wpAny_assign_Name (store_ok2 (v := .ref l) I' hN hiy hy (show RelV (.ref l) (.ref l) from rfl) (fun s2 I2 ⟨a, sb, ha⟩ => ?_) hf)
  have hCa : C ≠ a := by
    rcases ha with ha | ha
    · rw [ha]; exact fC.2.1
    · exact Ne.symm (fC.2.2.2.2.1 y a ha)
  exact ⟨m, hn.sameBut sb hCa, fun h' sb' => ⟨_, H', I2.turned (t' := s2.toks) (fun b o hb e => (sb'.2 b hb).trans e) fC.1 fC.2.1 fC.2.2.2.1 fC.2.2.2.2.1 fC.2.2.2.2.2, q⟩⟩
end
/-- over a range -/
theorem compC_rng {lo : Int} {l : Addr} {k : Nat} {σ0 : St} {g : TG} {te : TE} {R : Hp → Prop} {H1 : Hp} (Pv : Nat → List V → St → Hp → Prop) (h0 : Pv 0 [] σ0 (upd H1 l (.lst [])))
    (hs : ∀ i ys σ H, i < k → Pv i ys σ H → g (.int (lo + (i : Nat))) σ H fun σ3 H3 => te σ3 H3 fun y H4 => H4 l = some (.lst ys) ∧ ys.length < sizeLine ∧ Pv (i + 1) (ys ++ [y]) σ3 (upd H4 l (.lst (ys ++ [y]))))
    (hd : ∀ ys σ H, Pv k ys σ H → R H) (mg : ∀ x σ H (A B : St → Hp → Prop), (∀ σ' H', A σ' H' → B σ' H') → g x σ H A → g x σ H B) (mt : ∀ σ H (A B : VK), (∀ v H', A v H' → B v H') → te σ H A → te σ H B) :
    ∃ W : Nat → Nat → List V → St → Hp → Prop, (∃ m, W 0 m [] σ0 (upd H1 l (.lst []))) ∧ ∀ i m ys σ' H', W i m ys σ' H' →
      ((Itr lo k).stop i H' ∧ R H') ∨ ((Itr lo k).go i H' ∧ ∀ x H2, (Itr lo k).yld i H' x H2 → g x σ' H2 fun σ3 H3 => te σ3 H3 fun y H4 =>
        H4 l = some (.lst ys) ∧ ys.length < sizeLine ∧ ∃ m', m' < m ∧ W (i + 1) m' (ys ++ [y]) σ3 (upd H4 l (.lst (ys ++ [y])))) := by
  refine ⟨fun i m ys σ H => m = k - i ∧ i ≤ k ∧ Pv i ys σ H, ⟨k, by simp, Nat.zero_le _, h0⟩, ?_⟩
  rintro i m ys σ H ⟨rfl, hi, p⟩
  by_cases hlt : i < k
  · refine .inr ⟨hlt, fun x H' y => ?_⟩
    obtain ⟨e, y⟩ := y
    subst e y
    exact mg _ _ _ _ _ (fun σ3 H3 z => mt _ _ _ _ (fun y H4 ⟨z1, z2, z4⟩ => ⟨z1, z2, k - (i + 1), by omega, rfl, hlt, z4⟩) z) (hs i ys σ _ hlt p)
  · have e : i = k := by omega
    subst e
    exact .inl ⟨Nat.le_refl _, hd ys σ H p⟩

/-! ### defs with defaults -/
structure FunD (K : PySem.W.Frag) (x qual : Str) (st : Stmt) (dV : Value) (f : Addr) (fd : FuncData) : Prop where
  ex : ∃ (oc : Value) (od : Option Addr) (kV doc pm : Value) (an : Option Addr) (cdv ct : Value) (osl : Array (Option Value)),
    fd = PySem.W.fnOf x qual (defArgs st) (defBody st) (defScope st) dV kV doc pm an cdv ct ∧ K.lookup f = some ⟨oc, od, .func fd, osl⟩ ∧ PySem.W.codeIn K cdv qual = true
  kp : PySem.W.keepIn K (.ref f) = true
theorem FunD.ok {P : Program} {w : World} {K : PySem.W.Frag} {mg : Str → Option Value} {base : Heap} {x qual : Str} {st : Stmt} {dV : Value} {f : Addr} {fd : FuncData} {N ps : List Str} {k : Nat} {sp : Sp} (F : FunD K x qual st dV f fd) (S : FnScope N ps (defScope st)) (len : ∀ vs H Q E, sp vs H Q E → vs.length = ps.length)
    (hb : ∀ (cdv : Value) (A : Around) (outer : List Env) (s : Shared) (H : Hp) (vs : List V) (Q : VK) (E : XK), Room k (A.deeper (envOfC qual (defScope st) s.heap.objs.size f cdv)) → sp vs H Q E →
      ∃ t, PSs (cxOf CX0 P w K mg base N qual (defScope st) f cdv A outer s H E).nox (defBody st) t ∧ t { nx := fun _ H' => Q .non H', rt := Q } (start N vs) H) : FnOk P w K mg base CX0 (k + 1) f fd ps sp := by
  obtain ⟨oc, od, kV, doc, pm, an, cdv, ct, osl, rfl, lk, hcd⟩ := F.ex
  refine fn_of lk hcd S len fun A outer s H vs Q E hr hsp => ?_
  obtain ⟨t, h, q⟩ := hb cdv A outer s H vs Q E hr hsp
  exact ⟨t, h.nox, q⟩

/-! ### a dict of the two keys 8 and 16 -/
def Map2 (P : Program) (w : World) (h : Heap) (d : Addr) (a b : Int) : Prop := ∃ t t' : Tok, h.MapOf (intKind P w) d (valueAt [((8 : Int), Value.int a t), (16, .int b t')])
/-- .. of the text's top -/
def TabK (K : PySem.W.Frag) (d : Addr) (a b : Int) : Prop := (d == sysModules) = false ∧ ∃ (t1 t2 t3 t4 : Tok) (ep : Nat), K.lookup d = some ⟨.type "dict", none, .dict #[⟨8, .int 8 t1, .int a t2⟩, ⟨16, .int 16 t3, .int b t4⟩] ep, #[]⟩
theorem TabK.map {K : PySem.W.Frag} {d : Addr} {a b : Int} {h : Heap} (P : Program) (w : World) (T : TabK K d a b) (X : K.In h) : Map2 P w h d a b := by
  obtain ⟨_, t1, t2, t3, t4, ep, e⟩ := T
  refine ⟨t2, t4, _, _, ep, X _ _ e, ⟨rfl, rfl, rfl⟩, rfl, ?_, ?_⟩
  · intro en hen
    have hen' : en = ⟨8, .int 8 t1, .int a t2⟩ ∨ en = ⟨16, .int 16 t3, .int b t4⟩ := by simpa using hen
    rcases hen' with rfl | rfl
    · exact ⟨8, intKind_is P w 8 t1, by show (8 : Int) = hashInt 8; decide +kernel⟩
    · exact ⟨16, intKind_is P w 16 t3, by show (16 : Int) = hashInt 16; decide +kernel⟩
  · intro k
    show findBy Value.isInt _ k = _
    unfold findBy valueAt
    by_cases h8 : k = 8
    · subst h8; simp [Value.isInt]
    · by_cases h16 : k = 16
      · subst h16; simp [Value.isInt]
      · have e1 : ¬ (8 : Int) = k := fun z => h8 z.symm
        have e2 : ¬ (16 : Int) = k := fun z => h16 z.symm
        simp [Value.isInt, e1, e2]
def DicO (P : Program) (w : World) (d : Addr) (a b : Int) : HO := .ext fun h => Map2 P w h d a b
/-- a dict of the keys 8 and 16 that is read -/
def Sq2 (X : Cx) (H : Hp) (d : Addr) (a b : Int) : Prop := TabK X.K d a b ∨ H d = some (DicO X.prog X.w d a b)
section
variable {X : Cx} {pins : List (Addr × Obj)} {σ : St} {H : Hp} {s : Shared}
def rIx2 (X : Cx) : R2 := fun x y H Q => ∃ d i a b, x = .ref d ∧ y = .int i ∧ Sq2 X H d a b ∧ ((i = 8 ∧ Q (.int a) H) ∨ (i = 16 ∧ Q (.int b) H))
/-! ### lists of ints compared; sets -/
/-- {8: e1, 16: e2} -/
def tDict2 (P : Program) (w : World) (t1 t2 : TE) : TE := fun σ H Q => t1 σ H fun x H1 => t2 σ H1 fun y H2 => ∃ u v, x = .int u ∧ y = .int v ∧ ∀ d, H2 d = none → Q (.ref d) (upd H2 d (DicO P w d u v))
end
end L2

set_option Elab.async false
set_option linter.all false
set_option maxRecDepth 100000
namespace QQ
open PySem
section
variable {M : Model} {A : Around} {E : Value → Shared → Prop}
variable {nm q nm' q' : Str} {C N D N' : Addr} {bs bm bs' bm' : List Value} {hdct hdct' : Bool} {sn sn' : List Str} {sub sub' : List Value} {ab ab' : Bool} {col col' : Option Bool} {dd dd' : Option Addr} {k0 k1 k2 k3 k5 j0 j1 j2 j3 j5 : Option Value} {newId newId' : String}
/-- an own class at except, of which the error's own class is one -/
theorem exc_matches {h : Heap} {g : Array GenState} {d : Drawn} {t : Nat} {os : OsState} {e : Addr} {oe : Obj} {Q : Bool → Shared → Prop}
    (hC : h.get? C = some (excClassObj nm q C N bs bm hdct sn sub ab col dd k0 k1 k2 k3 k5 newId)) (hD : h.get? D = some (excClassObj nm' q' D N' bs' bm' hdct' sn' sub' ab' col' dd' j0 j1 j2 j3 j5 newId'))
    (he : h.get? e = some oe) (hcls : oe.cls = .ref C) (hbase : bm'.contains (.type "BaseException") = true) (hm : (Value.ref C :: bm).contains (.ref D) = true) (ne : C ≠ D)
    (hq : Q true ⟨h, g, d, t, os⟩) : wpAny M A (excMatches (.ref e) (.ref D)) Q E ⟨h, g, d, t, os⟩ := by
  have hcB : (Value.ref D :: bm').contains (.type "BaseException") = true := by rw [List.contains_cons, hbase, Bool.or_true]
  have f := tc_notTuple
  unfold excMatches
  repeat (first | (with_reducible refine wpAny_loadPart_at he ?_; rw [hcls]) | with_reducible refine wpAny_loadPart_at hD ?_ | (with_reducible refine wpAny_isSubtype_exc hD ?_; rw [hcB]) | (with_reducible refine wpAny_isSubtype_exc hC ?_; rw [hm]) | wp_step)
  exact hq
end
end QQ

set_option Elab.async false
set_option linter.all false
set_option maxRecDepth 100000
set_option maxHeartbeats 4000000
namespace L2
open PySem PySem.Spec PyProof.Rows QQ
/-! ## errors: how one lies behind a call, how it passes a def, raise, try -/
theorem ObjOk.there {P : Program} {w : World} {H : Hp} {h : Heap} {a : Addr} {o : HO} (x : ObjOk P w H h a o) : ∃ ob, h.get? a = some ob := by
  cases o with
  | lst xs => obtain ⟨_, _, _, _, e⟩ := x; exact ⟨_, e⟩
  | tup xs => obtain ⟨_, _, _, ob, e, _⟩ := x; exact ⟨_, e⟩
  | dK kvs => obtain ⟨_, _, _, _, o, _, _, e, _⟩ := x; exact ⟨_, e⟩
  | dT kvs => obtain ⟨_, _, _, _, o, _, _, e, _⟩ := x; exact ⟨_, e⟩
  | set S n => obtain ⟨o, _, _, _, e, _⟩ := x; exact ⟨_, e⟩
  | ins C dx fs => obtain ⟨_, _, _, e, _⟩ := x; exact ⟨_, e⟩
  | own y => exact x
  | xd fs => obtain ⟨_, ⟨_, _, _, e, _⟩, _⟩ := x; exact ⟨_, e⟩
  | rng lo hi => obtain ⟨_, _, _, e⟩ := x; exact ⟨_, e⟩
  | frz ob u => obtain ⟨e, _⟩ := x; exact ⟨_, e⟩
  | tbl ps => exact ⟨_, show h.get? a = some _ from x⟩
  | met f y => exact ⟨_, show h.get? a = some _ from x⟩
  | ext φ => obtain ⟨_, e, _⟩ := x; exact e
theorem HOk.gone {P : Program} {w : World} {H : Hp} {h : Heap} {a : Addr} (x : HOk P w H h) (e : h.get? a = none) : H a = none := by
  cases q : H a with
  | none => rfl
  | some u =>
    obtain ⟨ob, r⟩ := (x a u q).there
    rw [e] at r; cases r
/-- how an error lies behind a call -/
def CXE (P : Program) (w : World) : CXT := fun outer H s E e s' => ∃ ea cls fp H', e = .ref ea ∧ s'.os = s.os ∧ AllBare s'.gens ∧ Un (frs outer) [] H H' s.heap s'.heap ∧ HOk P w H' s'.heap ∧
  Fly s'.heap ea cls fp ∧ (∀ b ∈ fp, s.heap.get? b = none ∧ H' b = none) ∧ E cls none H'
/-- what is new since the entry -/
structure New (X : Cx) (pins : List (Addr × Obj)) (H : Hp) (b : Addr) : Prop where
  s0 : X.s₀.heap.get? b = none
  h : H b = none
  loc : b ≠ X.env.locals
  cel : ∀ x c, X.env.cells.lookup x = some c → c ≠ b
  pin : ∀ p ∈ X.pn ++ pins, p.1 ≠ b
section
variable {X : Cx} {pins : List (Addr × Obj)} {σ : St} {H H' : Hp} {s : Shared}
theorem Inv.new (I : Inv X pins σ H s) {b : Addr} (e : s.heap.get? b = none) (n : H' b = none) (hx : b ∉ X.ex) : New X pins H' b := by
  refine ⟨?_, n, fun z => ?_, fun x c ec z => ?_, fun p hp z => ?_⟩
  · cases q : X.s₀.heap.get? b with
    | none => rfl
    | some o =>
      obtain ⟨o', r⟩ := I.base.there b o q hx
      rw [e] at r; cases r
  · obtain ⟨m, ⟨o, _, _, ho, _⟩, _⟩ := I.loc
    rw [← z, e] at ho; cases ho
  · obtain ⟨v, o, ho, _⟩ := I.cell x c ec
    rw [z, e] at ho; cases ho
  · have := (I.pin p hp).1
    rw [z, e] at this; cases this
theorem New.ch {b : Addr} (n : New X pins H b) : (b ∈ X.ex ∨ X.s₀.heap.get? b = none) ∧ b ≠ X.env.locals ∧ (∀ x c, X.env.cells.lookup x = some c → c ≠ b) ∧ ∀ p ∈ X.pn ++ pins, p.1 ≠ b := ⟨.inr n.s0, n.loc, n.cel, n.pin⟩
/-- new records have changed, of the frames that run the slots -/
theorem Inv.landed {h' : Heap} {fp : List Addr} (I : Inv X pins σ H s) (hn : ∀ b ∈ fp, New X pins H b) (k : ∀ b o, s.heap.get? b = some o → b ∉ fp → b ∉ X.stack.filterMap (·.frame) → h'.get? b = some o)
    (sl : ∀ b o, s.heap.get? b = some o → b ∉ fp → ∃ z, h'.get? b = some { o with slots := z }) (th : ∀ b o, s.heap.get? b = some o → ∃ o', h'.get? b = some o') : Inv X pins σ H { s with heap := h' } := by
  have nf : ∀ b, b ∉ X.fs → b ≠ X.env.locals → b ∉ X.stack.filterMap (·.frame) := fun b h1 h2 z => by
    rcases List.mem_cons.mp (I.stkSub b z) with q | q
    · exact h2 q
    · exact h1 q
  have tr : ∀ b u, H b = some u → ∀ o, s.heap.get? b = some o → h'.get? b = some o := fun b u e o g => by
    refine k b o g (fun z => ?_) fun z => ?_
    · rw [(hn b z).h] at e; cases e
    · rw [I.stkFree b z] at e; cases e
  refine I.step0 (g' := s.gens) (d' := s.drawn) (t' := s.toks) (ch := fp) (fun b hb => (hn b hb).ch) (fun b o h1 h2 h3 g _ => k b o g h3 (nf b h2 h1)) (fun b o _ _ h3 g _ => sl b o g h3) (fun _ _ _ _ n => n) (fun b o _ g => th b o g)
    (fun _ _ e => e) (fun _ _ _ e => e) (fun b ps e => ⟨#[], by rw [e]; simp⟩) (fun m hm => ?_) (fun a o e => ?_) I.bare
  · obtain ⟨o, es, ep, ho, r⟩ := hm
    obtain ⟨z, q⟩ := sl _ o ho fun y => (hn _ y).loc rfl
    exact ⟨_, es, ep, q, r⟩
  · refine (I.hok a o e).stay (fun c v hc q => ?_) (fun _ q => q) fun _ _ q => q
    rcases hc with z | z
    · subst z; exact tr c _ e v q
    · exact tr c _ z v q
/-- the state behind a call that ended in an error -/
theorem Inv.thrown {E : XK} {e : Value} {s' : Shared} (I : Inv X pins σ H s) (hx : CXE X.prog X.w X.stack H s E e s') (hX : X.ex = []) : ∃ ea cls fp H', e = .ref ea ∧ Inv X pins σ H' s' ∧ Fly s'.heap ea cls fp ∧ (∀ b ∈ fp, New X pins H' b) ∧ E cls none H' := by
  obtain ⟨ea, cls, fp, H', rfl, os, bare, un, hok, F, fr, q⟩ := hx
  exact ⟨ea, cls, fp, H', rfl, I.call' (ch := []) os un hok bare (fun b z => absurd z (by simp)), F, fun b hb => I.new (fr b hb).1 (fr b hb).2 (by rw [hX]; simp), q⟩
end
/-- out of a def -/
theorem passE {P : Program} {w : World} {K : PySem.W.Frag} {mg : Str → Option Value} {base : Heap} {N : List Str} {qual : Str} {scope : Scope} {f : Addr} {cd : Value} {A : Around} {outer : List Env} {s₀ : Shared} {H₀ : Hp} {E : XK} :
    Passes (CXE P w) (cxOf (CXE P w) P w K mg base N qual scope f cd A outer s₀ H₀ E) E := by
  intro pins σ H s e s' I hx
  obtain ⟨ea, cls, fp, H', rfl, I', F, fr, q⟩ := I.thrown hx rfl
  show wpAny (model P w) _ (leaving _ (.ref ea)) _ _ _
  unfold leaving
  refine wpAny_bind (land I'.ok.frames I'.stack rfl F fun h' T F' hT f3 f4 f5 => ?_)
  have J := I'.landed fr f3 f4 f5
  refine ⟨ea, cls, [ea, T], H', rfl, J.os, J.bare, J.base, J.hok, F', fun b hb => ?_, q⟩
  rcases List.mem_cons.mp hb with hb | hb
  · subst hb
    have z := fr b F.here
    exact ⟨z.s0, z.h⟩
  · rw [List.mem_singleton] at hb
    subst hb
    refine ⟨?_, I'.hok.fresh hT⟩
    cases z : s₀.heap.get? b with
    | none => rfl
    | some o =>
      obtain ⟨o', r⟩ := I'.base.there b o z (by simp [cxOf])
      exact absurd (Nat.lt_of_lt_of_le (Heap.lt_size r) hT) (Nat.lt_irrefl _)
/-- where no error is wanted -/
theorem passF {X : Cx} {P : Program} {w : World} : Passes (CXE P w) X E0 := fun _ _ _ _ _ _ _ ⟨_, _, _, _, _, _, _, _, _, _, _, q⟩ => q.elim
/-- THE RULE for a def that may raise -/
theorem Fun.okE {P : Program} {w : World} {K : PySem.W.Frag} {mg : Str → Option Value} {base : Heap} {x qual : Str} {st : Stmt} {f : Addr} {fd : FuncData} {N ps : List Str} {k : Nat} {sp : Sp} (F : Fun K x qual st f fd) (S : FnScope N ps (defScope st)) (len : ∀ vs H Q E, sp vs H Q E → vs.length = ps.length)
    (hb : ∀ (cdv : Value) (A : Around) (outer : List Env) (s : Shared) (H : Hp) (vs : List V) (Q : VK) (E : XK), Room k (A.deeper (envOfC qual (defScope st) s.heap.objs.size f cdv)) → sp vs H Q E →
      ∃ t, PSs (cxOf (CXE P w) P w K mg base N qual (defScope st) f cdv A outer s H E) (defBody st) t ∧ t { nx := fun _ H' => Q .non H', rt := Q } (start N vs) H) : FnOk P w K mg base (CXE P w) (k + 1) f fd ps sp := by
  obtain ⟨oc, od, kV, doc, pm, an, cdv, ct, osl, rfl, lk, hcd⟩ := F.ex
  exact fn_of lk hcd S len fun A outer s H vs Q E hr hsp => hb cdv A outer s H vs Q E hr hsp
theorem FunD.okE {P : Program} {w : World} {K : PySem.W.Frag} {mg : Str → Option Value} {base : Heap} {x qual : Str} {st : Stmt} {dV : Value} {f : Addr} {fd : FuncData} {N ps : List Str} {k : Nat} {sp : Sp} (F : FunD K x qual st dV f fd) (S : FnScope N ps (defScope st)) (len : ∀ vs H Q E, sp vs H Q E → vs.length = ps.length)
    (hb : ∀ (cdv : Value) (A : Around) (outer : List Env) (s : Shared) (H : Hp) (vs : List V) (Q : VK) (E : XK), Room k (A.deeper (envOfC qual (defScope st) s.heap.objs.size f cdv)) → sp vs H Q E →
      ∃ t, PSs (cxOf (CXE P w) P w K mg base N qual (defScope st) f cdv A outer s H E) (defBody st) t ∧ t { nx := fun _ H' => Q .non H', rt := Q } (start N vs) H) : FnOk P w K mg base (CXE P w) (k + 1) f fd ps sp := by
  obtain ⟨oc, od, kV, doc, pm, an, cdv, ct, osl, rfl, lk, hcd⟩ := F.ex
  exact fn_of lk hcd S len fun A outer s H vs Q E hr hsp => hb cdv A outer s H vs Q E hr hsp

/-! ### an own error class, by the text -/
abbrev bmV : List Value := [.type "ValueError", .type "Exception", .type "BaseException", .type "object"]
/-- the class at C is an error class of the text's own, under ValueError -/
def ExC (K : PySem.W.Frag) (C : Addr) : Prop := PySem.W.excIn K C bmV "ValueError.__new__" = true
theorem exC_obj {K : PySem.W.Frag} {C : Addr} (c : ExC K C) : ∃ bm N nm q bs hdct sn sub ab col dd k0 k1 k2 k3 k5, K.lookup C = some (excClassObj nm q C N bs bm hdct sn sub ab col dd k0 k1 k2 k3 k5 "ValueError.__new__") ∧
    PySem.W.clsIn K C = some ⟨nm, bs, .ref C :: bm, N, q, hdct, sn, sub, ab, col, false⟩ ∧ ∀ h : Heap, K.In h → (∃ mN, h.Ns N mN ∧ mN "__init__" = none) ∧ OwnTail h bmV bm := by
  unfold ExC PySem.W.excIn at c
  split at c
  · rename_i dd cd sl hl
    split at c
    · rename_i C1 bm k0 k1 k2 k3 n k5 hm hs
      simp only [Bool.and_eq_true, beq_iff_eq, Bool.not_eq_true'] at c
      obtain ⟨⟨⟨⟨⟨e1, e2⟩, hdel⟩, ht⟩, hok⟩, hni⟩ := c
      subst e1 e2
      obtain ⟨nm, bs, mro, ns, qn, hd, sn, sub, ab, col, del⟩ := cd
      dsimp only at hm hdel hok hni
      subst hm hdel
      have hsl : sl = #[k0, k1, k2, k3, some (.builtin "ValueError.__new__"), k5] := by
        obtain ⟨l⟩ := sl
        simp only at hs
        rw [hs]
      subst hsl
      refine ⟨bm, ns, nm, qn, bs, hd, sn, sub, ab, col, dd, k0, k1, k2, k3, k5, hl, by unfold PySem.W.clsIn; rw [hl], fun h X => ⟨⟨_, .of_isNs (PySem.W.isNs_of_in X hok), PySem.W.nsMap_none_of_in X hok hni⟩, PySem.W.tail_of_in X ht⟩⟩
    · cases c
  · cases c
/-! ### raise -/
def tRaise (C : Addr) (E : XK) (te : TE) : TS := fun _ σ H => te σ H fun _ H1 => E (.ref C) none H1
theorem ps_raise {X : Cx} {E : XK} {x : Str} {C : Addr} {e : Expr} {te : TE} {np cpos pos : Pos} (hx : Passes (CXE X.prog X.w) X E) (hh : X.A.handled = none) (hg : Gl X x) (hm : X.mg x = some (.ref C)) (c : ExC X.K C) (he : PE X e te)
    (hst : starEach [e] X.env = (false, eval e X.env) :: starEach [] X.env := by rfl) (hd : (x == ("__debug__" : Str)) = false := by decide) : PS X (.Raise (some (.Call (.Name x np) [e] [] cpos)) none pos) (tRaise C E te) := by
  intro pins s σ H D I h
  obtain ⟨bm, N, nm, q, bs, hdct, sn, sub, ab, col, dd, k0, k1, k2, k3, k5, hl, _, hf⟩ := exC_obj c
  obtain ⟨⟨mN, hN, hni⟩, T⟩ := hf X.base I.mod.kin
  refine wpAny_Raise_call_subT (C := C) (nm := nm) (q := q) (N := N) (bs := bs) (bm := bm) (hdct := hdct) (sn := sn) (sub := sub) (ab := ab) (col := col) (dd := dd) (k0 := k0) (k1 := k1) (k2 := k2) (k3 := k3) (k5 := k5)
    PySem.F.excBase_ValueError (mN := mN) (T.hasType (by decide +kernel)) hh (by rw [hst]; rfl) hni (ld_glob I hg hm ⟨rfl, ?_⟩ hd)
  rw [hst]
  refine Calls.evalArgs_plain (Calls.spliced_cons (thn (he pins s σ H _ I h) fun u s1 ⟨y, H1, I1, r1, q1⟩ => Calls.spliced_nil ?_))
  refine ⟨rfl, by show 1 ≤ sizeLine; decide, I1.kIn C _ hl, hN.keeps I1.bk, T.keeps I1.bk, fun h' ea md => ?_⟩
  exact hx pins σ H1 s1 _ _ I1 ⟨ea, _, [ea], H1, rfl, rfl, I1.bare, Un.kept md.keeps, I1.hok.kept md.keeps, Fly.made md, fun b hb => by
    rw [List.mem_singleton] at hb
    subst hb
    exact ⟨md.new, I1.hok.gone md.new⟩, q1⟩
end L2

set_option Elab.async false
set_option linter.all false
set_option maxRecDepth 100000
set_option maxHeartbeats 4000000
namespace L2
open PySem PySem.Spec PyProof.Rows QQ
/-! ## try .. except C as e -/
/-- the body of a try: the names are σ0 where an error may come -/
def cxTry (X : Cx) (pn : List (Addr × Obj)) (σ0 : St) (E : XK) : Cx := { X with
  pn := pn
  xe := fun e s' => ∃ ea cls fp H', e = .ref ea ∧ Inv { X with pn := pn } [] σ0 H' s' ∧ Fly s'.heap ea cls fp ∧ (∀ b ∈ fp, New { X with pn := pn } [] H' b) ∧ E cls none H' }
/-- the suite of the except: the error is in hand -/
def cxHand (X : Cx) (e : Addr) (o : Obj) : Cx := { X with
  A := X.A.mark (some (.ref e))
  H₀ := upd X.H₀ e (.frz o (.own e))
  xe := fun _ _ => False }
def PassesAt (CX : CXT) (X : Cx) (E : XK) (σ0 : St) : Prop := ∀ (pins : List (Addr × Obj)) (H : Hp) (s : Shared) (e : Value) (s' : Shared), Inv X pins σ0 H s → CX X.stack H s E e s' → X.xe e s'
section
variable {X : Cx} {pins pn : List (Addr × Obj)} {σ σ0 : St} {H : Hp} {s : Shared} {E : XK} {W : Value → Shared → Prop}
theorem Cx.Ok.repn (ok : X.Ok) (pn : List (Addr × Obj)) (W : Value → Shared → Prop) : Cx.Ok { X with pn := pn, xe := W } :=
  ⟨ok.mod, ok.kind, ok.glob, ok.blt, ok.above, ok.inj, ok.has, ok.cab, ok.hd, ok.frames, ok.stk, ok.exf, ok.bs, ok.bsz, ok.noex, ok.exfs, ok.funs, ok.frf⟩
theorem Cx.Ok.unpn (ok : Cx.Ok { X with pn := pn, xe := W }) : X.Ok :=
  ⟨ok.mod, ok.kind, ok.glob, ok.blt, ok.above, ok.inj, ok.has, ok.cab, ok.hd, ok.frames, ok.stk, ok.exf, ok.bs, ok.bsz, ok.noex, ok.exfs, ok.funs, ok.frf⟩
theorem Inv.lift (I : Inv X pins σ H s) (W : Value → Shared → Prop) : Inv { X with pn := X.pn ++ pins, xe := W } [] σ H s :=
  ⟨I.ok.repn _ W, I.os, I.bare, I.base, I.loc, I.cell, I.free, I.freeC, fun p hp => I.pin p (by simpa using hp), I.hok, I.len⟩
theorem Inv.unlift {pins' : List (Addr × Obj)} (I : Inv { X with pn := X.pn ++ pins, xe := W } pins' σ H s) : Inv X pins σ H s :=
  ⟨I.ok.unpn, I.os, I.bare, I.base, I.loc, I.cell, I.free, I.freeC, fun p hp => I.pin p (List.mem_append_left _ hp), I.hok, I.len⟩
theorem Inv.repn {W' : Value → Shared → Prop} (I : Inv { X with pn := pn, xe := W } pins σ H s) : Inv { X with pn := pn, xe := W' } [] σ H s :=
  ⟨I.ok.unpn.repn _ W', I.os, I.bare, I.base, I.loc, I.cell, I.free, I.freeC, fun p hp => I.pin p (by simp at hp; exact List.mem_append_left _ hp), I.hok, I.len⟩
theorem SP.unlift {D : Ends} {f : Flow} {s' : Shared} (h : SP { X with pn := X.pn ++ pins, xe := W } [] D f s') : SP X pins D f s' := by
  cases f with
  | next => obtain ⟨σ', H', I, q⟩ := h; exact ⟨σ', H', I.unlift, q⟩
  | brk => obtain ⟨σ', H', I, q⟩ := h; exact ⟨σ', H', I.unlift, q⟩
  | cont => obtain ⟨σ', H', I, q⟩ := h; exact ⟨σ', H', I.unlift, q⟩
  | ret u => obtain ⟨v, σ', H', I, r, q⟩ := h; exact ⟨v, σ', H', I.unlift, r, q⟩
theorem passT (hX : X.ex = []) : PassesAt (CXE X.prog X.w) (cxTry X pn σ0 E) E σ0 := by
  intro pins H s e s' I hx
  obtain ⟨ea, cls, fp, H', rfl, I', F, fr, q⟩ := I.thrown hx hX
  exact ⟨ea, cls, fp, H', rfl, I'.repn, F, fun b hb => let n := fr b hb; ⟨n.s0, n.h, n.loc, n.cel, fun p hp => n.pin p (by simp at hp; exact List.mem_append_left _ hp)⟩, q⟩
end
/-! ### calls in the body of a try -/
section
variable {X : Cx} {CX : CXT} {k : Nat} {f C : Addr} {fd : FuncData} {ps : List Str} {sp : Sp} {dvs : List V} {ds : List Value} {E : XK} {x m : Str} {p pos apos : Pos} {e o : Expr} {es : List Expr} {ta : TE} {t : TA} {σ0 : St}
def tAt (σ0 : St) (t : TE) : TE := fun σ H Q => σ = σ0 ∧ t σ H Q
theorem run_fnX {pins : List (Addr × Obj)} {H : Hp} {s : Shared} {Q : VK} {us : List Value} {vs : List V} (F : FnOk X.prog X.w X.K X.mg X.base CX k f fd ps sp) (hr : Room k X.A) (hb : Binds X.K fd ps ds) (hd : Vals dvs ds) (hx : PassesAt CX X E σ0)
    (I : Inv X pins σ0 H s) (r : Vals vs us) (h : sp (vs ++ dvs) H Q E) : wpAny (model X.prog X.w) X.A (call (.ref f) us) (EP X pins σ0 Q) X.xe s := by
  have r2 : Vals (vs ++ dvs) (us ++ ds) := r.append hd
  have hl : (us ++ ds).length = ps.length := by rw [← r2.length]; exact F.len _ _ _ _ h
  refine wpAny_call (codeAny_mono (F.run X.A X.stack s H ⟨us, []⟩ (us ++ ds) (vs ++ dvs) Q E hr I.env0 (hb s us I.kIn hl) r2 h) fun r s' hq => ?_)
  cases r with
  | error e => exact hx pins H s e s' I hq
  | ok fl =>
    cases fl with
    | ret u => exact I.after hq
    | next => exact False.elim hq
    | brk => exact False.elim hq
    | cont => exact False.elim hq
theorem pe_callX (F : FnOk X.prog X.w X.K X.mg X.base CX k f fd ps sp) (hr : Room k X.A) (hg : Gl X x) (hm : X.mg x = some (.ref f)) (hk : PySem.W.keepIn X.K (.ref f) = true) (hb : Binds X.K fd ps ds) (hd : Vals dvs ds) (hx : PassesAt CX X E σ0)
    (ha : PA X (e :: es) t) (hdb : (x == ("__debug__" : Str)) = false := by decide) (he : starEach (e :: es) X.env = (false, eval e X.env) :: starEach es X.env := by rfl) (hpl : (backTo pos (starEach es X.env)).any (·.1) = false := by rfl) :
    PE X (.Call (.Name x p) (e :: es) [] pos) (tAt σ0 (tCall sp dvs E t)) := by
  intro pins s σ H Q I h
  obtain ⟨rfl, h⟩ := h
  refine wpAny_Call_Name_kw (ld_glob I hg hm ?_ hdb)
  refine PySem.W.callWith_K (h₀ := X.base) I.ok.mod.kin hk (thn (ha pos pins s σ H _ I h) fun us s1 ⟨vs, H1, I1, r, q⟩ => ⟨I1.kIn, ?_⟩) he hpl
  exact run_fnX F hr hb hd hx I1 r q
end
/-! ### the suite of the except -/
section
variable {X : Cx} {pins : List (Addr × Obj)} {σ : St} {H : Hp} {s : Shared}
/-- the error is known from here on -/
theorem Inv.hand {e : Addr} {cls : Value} {vs : Array Value} (I : Inv X pins σ H s) (n : New X pins H e) (g : s.heap.get? e = some (exO cls vs)) (h2 : vs[2]? = some Value.none) :
    Inv (cxHand X e (exO cls vs)) pins σ (upd H e (.frz (exO cls vs) (.own e))) s := by
  have neF : ∀ b ∈ X.fs, b ≠ e := fun b hb z => by
    obtain ⟨_, o, ho, _⟩ := I.ok.funs.mem hb
    rw [z, n.s0] at ho; cases ho
  have ne0 : ∀ b o, X.s₀.heap.get? b = some o → b ≠ e := fun b o q z => by rw [z, n.s0] at q; cases q
  have neB : ∀ b o, X.base.get? b = some o → b ≠ e := fun b o q => ne0 b o (I.ok.bs b o q).1
  have h0 : X.H₀ e = none ∨ True := .inr trivial
  refine ⟨⟨I.ok.mod, I.ok.kind, I.ok.glob, I.ok.blt, I.ok.above, I.ok.inj, I.ok.has, I.ok.cab, .inr ⟨e, _, vs, rfl, upd_same, rfl, h2⟩, I.ok.frames, I.ok.stk, I.ok.exf, fun b o q => ⟨(I.ok.bs b o q).1, ?_⟩, I.ok.bsz, I.ok.noex, I.ok.exfs, I.ok.funs, fun b hb => ?_⟩,
    I.os, I.bare, ⟨fun b o q z hb hx => ?_, fun b o q z hb hx => ?_, fun b o q z hx => ?_, I.base.there, fun b xs q => ?_, fun b o u q => ?_, fun b ps q => ?_⟩, I.loc, I.cell, ?_, fun x c ec => ?_, fun p hp => ?_, fun a o q => ?_, I.len⟩
  · show upd X.H₀ e _ b = none
    rw [upd_ne (neB b o q)]; exact (I.ok.bs b o q).2
  · show upd X.H₀ e _ b = none
    rw [upd_ne (neF b hb)]; exact I.ok.frf b hb
  · have z' : upd X.H₀ e (.frz (exO cls vs) (.own e)) b = none := z
    rw [upd_ne (ne0 b o q)] at z'
    exact I.base.keep b o q z' hb hx
  · have z' : upd X.H₀ e (.frz (exO cls vs) (.own e)) b = none := z
    rw [upd_ne (ne0 b o q)] at z'
    exact I.base.slot b o q z' hb hx
  · have z' : upd X.H₀ e (.frz (exO cls vs) (.own e)) b = none := z
    rw [upd_ne (ne0 b o q)] at z' ⊢
    exact I.base.free b o q z' hx
  · have q' : upd X.H₀ e (.frz (exO cls vs) (.own e)) b = some (.tup xs) := q
    by_cases hb : b = e
    · rw [hb, upd_same] at q'; cases q'
    · rw [upd_ne hb] at q' ⊢; exact I.base.tups b xs q'
  · have q' : upd X.H₀ e (.frz (exO cls vs) (.own e)) b = some (.frz o u) := q
    by_cases hb : b = e
    · rw [hb] at q' ⊢
      rw [upd_same] at q' ⊢; exact q'
    · rw [upd_ne hb] at q' ⊢; exact I.base.frzs b o u q'
  · have q' : upd X.H₀ e (.frz (exO cls vs) (.own e)) b = some (.tbl ps) := q
    by_cases hb : b = e
    · rw [hb, upd_same] at q'; cases q'
    · rw [upd_ne hb] at q' ⊢; exact I.base.tbls b ps q'
  · show upd H e _ X.env.locals = none
    rw [upd_ne (Ne.symm n.loc)]; exact I.free
  · rw [upd_ne (n.cel x c ec)]; exact I.freeC x c ec
  · obtain ⟨a1, a2, a3⟩ := I.pin p hp
    exact ⟨a1, by rw [upd_ne (n.pin p hp)]; exact a2, a3⟩
  · by_cases ha : a = e
    · subst ha
      rw [upd_same] at q
      cases q
      exact ⟨g, _, g⟩
    · rw [upd_ne ha] at q
      have nt : ∀ b u, H b = some u → b ≠ e := fun b u r z => by rw [z, n.h] at r; cases r
      exact (I.hok a o q).stay (fun b u _ r => r) (fun b r => by rw [upd_ne (nt b _ r)]; exact r) fun b xs r => by rw [upd_ne (nt b _ r)]; exact r
/-- out of the suite -/
theorem Inv.unhand {e : Addr} {o : Obj} {σ1 : St} {H1 : Hp} {s1 : Shared} (I0 : Inv X pins σ H s) (n : New X pins H e) (I : Inv (cxHand X e o) pins σ1 H1 s1) : Inv X pins σ1 H1 s1 := by
  have ne0 : ∀ b u, X.s₀.heap.get? b = some u → b ≠ e := fun b u q z => by rw [z, n.s0] at q; cases q
  have tr : ∀ b, b ≠ e → (cxHand X e o).H₀ b = X.H₀ b := fun b hb => upd_ne hb
  refine ⟨I0.ok, I.os, I.bare, ⟨fun b u q z hb hx => I.base.keep b u q ((tr b (ne0 b u q)).trans z) hb hx, fun b u q z hb hx => I.base.slot b u q ((tr b (ne0 b u q)).trans z) hb hx, fun b u q z hx => I.base.free b u q ((tr b (ne0 b u q)).trans z) hx, I.base.there, fun b xs q => ?_, fun b u v q => ?_, fun b ps q => ?_⟩, I.loc, I.cell, I.free, I.freeC, I.pin, I.hok, I.len⟩
  · refine I.base.tups b xs ((tr b fun z => ?_).trans q)
    have := I0.base.tups b xs q
    rw [z, n.h] at this; cases this
  · refine I.base.frzs b u v ((tr b fun z => ?_).trans q)
    have := I0.base.frzs b u v q
    rw [z, n.h] at this; cases this
  · refine I.base.tbls b ps ((tr b fun z => ?_).trans q)
    obtain ⟨m, this⟩ := I0.base.tbls b ps q
    rw [z, n.h] at this; cases this
/-- the error's name goes behind the suite -/
theorem Inv.nameGoes {M : Model} {A : Around} {E : Value → Shared → Prop} {Q : Unit → Shared → Prop} {i : Nat} {y : Str} {pos : Pos} (I : Inv X pins σ H s) (hN : X.N.Nodup) (hi : X.N[i]? = some y) (hl : X.env.scope.names.lookup y = some .local)
    (h : ∀ s', Inv X pins (σ.set i none) H s' → Q () s') : wpAny M A (do bindName X.env y .none; unbindBehindTheSuite X.env y pos) Q E s := by
  have hiσ : i < σ.length := by rw [I.len]; exact (List.getElem?_eq_some_iff.mp hi).1
  have hcls : (X.env.scope.kind == .class || (X.env.scope.kind == .module && X.env.locals != X.env.globals)) = false := by rw [I.ok.kind]; rfl
  have hk : X.env.kindOf y = some .local := hl
  refine wpAny_bind (wpAny_bindName (store_ok (v := .non) I hN hi (.inl hl) rfl (fun s1 I1 => ?_) (.inr hl)))
  unfold unbindBehindTheSuite
  refine wpAny_onRaise ?_
  unfold unbindName
  refine wpAny_bind (wpAny_point (wpAny_bind ?_))
  unfold deleteName
  simp only [hk, hcls]
  rw [if_neg (by decide)]
  obtain ⟨m, hn, hm⟩ := id I1.loc
  obtain ⟨u, ru, lk⟩ := hm i y .non hi (by rw [List.getElem?_set_self hiσ]) (.inl hl)
  have hmy : m y = some u := by
    rcases lk with ⟨_, q⟩ | ⟨q, _⟩
    · exact q
    · rw [hk] at q
      rcases q with q | q <;> cases q
  refine wpAny_bind (wpAny_nsDel_keeps hn fun h2 v hn2 hs2 => ?_)
  rw [hmy]
  simp only [if_true, Option.isSome_some, Bool.not_true, Bool.false_eq_true, if_false]
  refine wpAny_pure (wpAny_point (h _ ?_))
  obtain ⟨oL, _, _, hoL, _⟩ := id hn
  have ne0 : ∀ b o, X.s₀.heap.get? b = some o → b ≠ X.env.locals := fun b o e => Nat.ne_of_lt (Nat.lt_of_lt_of_le (Heap.lt_size e) I1.ok.above)
  refine ⟨I1.ok, I1.os, I1.bare, ⟨fun b o e n hb hx => (hs2.2 b (ne0 b o e)).trans (I1.base.keep b o e n hb hx), fun b o e n hb hx => ?_, I1.base.free, fun b o e hx => ?_, I1.base.tups, I1.base.frzs, I1.base.tbls⟩, ⟨_, hn2, fun j z v' e1 e2 e3 => ?_⟩, fun z c e => ?_, I1.free, I1.freeC, fun p hp => ?_, fun b ob e => ?_, by simpa using I.len⟩
  · obtain ⟨sl, e1⟩ := I1.base.slot b o e n hb hx
    exact ⟨sl, (hs2.2 b (ne0 b o e)).trans e1⟩
  · obtain ⟨o', e1⟩ := I1.base.there b o e hx
    exact ⟨o', (hs2.2 b (ne0 b o e)).trans e1⟩
  · have hj : j ≠ i := fun q => by rw [q, List.getElem?_set_self hiσ] at e2; cases e2
    rw [List.getElem?_set_ne (Ne.symm hj)] at e2
    obtain ⟨u', r', q⟩ := hm j z v' e1 (by rw [List.getElem?_set_ne (Ne.symm hj)]; exact e2) e3
    refine ⟨u', r', ?_⟩
    rcases q with ⟨kk, e⟩ | ⟨kk, c, e, zz⟩
    · refine .inl ⟨kk, ?_⟩
      have : z ≠ y := fun q => hj (nodup_ix hN e1 (q ▸ hi))
      simp [this, e]
    · exact .inr ⟨kk, c, e, zz.sameBut hs2 (I1.cne z c e)⟩
  · obtain ⟨w', q⟩ := I1.cell z c e
    exact ⟨w', q.sameBut hs2 (I1.cne z c e)⟩
  · obtain ⟨e, n, ne, nf, d⟩ := I1.pin p hp
    exact ⟨(hs2.2 p.1 ne).trans e, n, ne, nf, d⟩
  · refine (I1.hok b ob e).stay (fun c w' hc q => (hs2.2 c fun z => ?_).trans q) (fun _ q => q) fun _ _ q => q
    rcases hc with hc | hc
    · rw [← hc, z, I1.free] at e; cases e
    · rw [z, I1.free] at hc; cases hc
end
/-! ### the rule -/
/-- what is wanted behind the suite: the error's name is gone -/
def Dx (i : Nat) (D : Ends) : Ends := ⟨fun σ H => D.nx (σ.set i none) H, D.rt, fun σ H => D.bk (σ.set i none) H, fun σ H => D.ct (σ.set i none) H⟩
/-- try: body; except D as e: suite. An error of the class C, one of D's, is caught -/
def tTry (K : PySem.W.Frag) (D0 : Addr) (i : Nat) (tb : St → XK → TS) (th : TS) : TS := fun D σ H =>
  tb σ (fun cls _ H' => ∃ C, cls = .ref C ∧ ExC K C ∧ C ≠ D0 ∧ PySem.W.mroIn K C (.ref D0) = some true ∧
    ∀ e vs, H' e = none → th (Dx i D) (σ.set i (some (.ref e))) (upd H' e (.frz (exO (.ref C) vs) (.own e)))) D σ H
theorem ps_try {X : Cx} {x y : Str} {i : Nat} {D0 : Addr} {b₀ : Stmt} {body suite : List Stmt} {tb : St → XK → TS} {th : TS} {np hpos pos : Pos} (hN : X.N.Nodup) (hi : X.N[i]? = some y) (hl : X.env.scope.names.lookup y = some .local)
    (hg : Gl X x) (hm : X.mg x = some (.ref D0)) (hD : ExC X.K D0) (hst : X.stack = X.env :: X.outer) (hfr : X.env.frame = some X.env.locals) (hX : X.ex = [])
    (hb : ∀ pn σ0 E, PSs (cxTry X pn σ0 E) body (tb σ0 E)) (hh : ∀ e o, PSs (cxHand X e o) (b₀ :: suite) th) (hd : (x == ("__debug__" : Str)) = false := by decide) :
    PS X (.Try body [.ExceptHandler (some (.Name x np)) (some y) (b₀ :: suite) hpos] [] [] pos) (tTry X.K D0 i tb th) := by
  intro pins s σ H D I h
  refine wpAny_Try_except (wpAny_mono (hb (X.pn ++ pins) σ _ [] s σ H D (I.lift _) h) (fun f s1 q => ?_) fun e s1 q => ?_)
  · have q' : SP X pins D f s1 := SP.unlift q
    cases f with
    | next => exact wpAny_execs_nil q'
    | brk => exact q'
    | cont => exact q'
    | ret u => exact q'
  · obtain ⟨ea, cls, fp, H', rfl, I1, F, fr, C, rfl, cC, hne, hmro, q⟩ := q
    have I1 : Inv X pins σ H' s1 := Inv.unlift (W := X.xe) I1
    have fr : ∀ b ∈ fp, New X pins H' b := fun b hb => let n := fr b hb; ⟨n.s0, n.h, n.loc, n.cel, fun p hp => n.pin p (by simpa using hp)⟩
    have hf : X.A.frames = some (X.env :: X.outer) := hst ▸ I1.ok.frames
    refine land hf (hst ▸ I1.stack) hfr F fun h' T F' hT f3 f4 f5 => ?_
    have I2 := I1.landed fr (by rw [hst]; exact f3) f4 f5
    have nE : New X pins H' ea := fr ea F.here
    have nT : New X pins H' T := I1.new (by
      cases z : s1.heap.get? T with
      | none => rfl
      | some o => exact absurd (Nat.lt_of_lt_of_le (Heap.lt_size z) hT) (Nat.lt_irrefl _)) (I1.hok.fresh hT) (by rw [hX]; simp)
    obtain ⟨vs, ge, z2, ⟨_, r⟩ | ⟨T', oT, ts, _, neT, _, _, _, r⟩⟩ := id F'
    · cases r
    · cases r
      have q := q ea vs nE.h
      have I3 := I2.hand nE ge z2
      generalize hH3 : upd H' ea (.frz (exO (.ref C) vs) (.own ea)) = H3 at *
      have neq : (cxHand X ea (exO (.ref C) vs)).A = X.A.mark (some (.ref ea)) := rfl
      refine wpAny_handleBy_cons (codeAny_handlers_test (ld_glob (X := cxHand X ea (exO (.ref C) vs)) I3 hg hm ?_ hd)) (by intro q; cases q)
      obtain ⟨bm, N, nm, qn, bs, hdct, sn, sub, ab, col, dd, k0, k1, k2, k3, k5, hlC, hcC, _⟩ := exC_obj cC
      obtain ⟨bm', N', nm', qn', bs', hdct', sn', sub', ab', col', dd', j0, j1, j2, j3, j5, hlD, _, hfD⟩ := exC_obj hD
      have hmem : (Value.ref C :: bm).contains (.ref D0) = true := by
        unfold PySem.W.mroIn at hmro
        rw [hcC] at hmro
        simpa using hmro
      have T' := (hfD _ I2.kIn).2
      obtain ⟨hh1, gg, dr, tk, os1⟩ := s1
      refine exc_matches (I2.kIn C _ hlC) (I2.kIn D0 _ hlD) ge rfl (T'.hasType (by decide +kernel)) hmem hne (codeAny_handlers_suite_as ?_)
      refine land_again F' fun h4 F4 k4 => ?_
      have nT3 : New (cxHand X ea (exO (.ref C) vs)) pins H3 T := ⟨nT.s0, by rw [← hH3, upd_ne neT]; exact nT.h, nT.loc, nT.cel, nT.pin⟩
      have I4 := I3.landed (h' := h4) (fp := [T]) (fun b hb => by rw [List.mem_singleton] at hb; rw [hb]; exact nT3) (fun b o g hb _ => k4 b o g fun z => hb (by simp [z])) (fun b o g hb => ⟨o.slots, k4 b o g fun z => hb (by simp [z])⟩) (fun b o g => by
        by_cases hb : b = T
        · obtain ⟨o', us, g', _⟩ := F4.rec T (by simp)
          exact ⟨o', by rw [hb]; exact g'⟩
        · exact ⟨o, k4 b o g hb⟩)
      refine store_ok (X := cxHand X ea (exO (.ref C) vs)) (v := .ref ea) I4 hN hi (.inl hl) rfl (fun s5 I5 => ?_) (.inr hl)
      refine wpAny_mono (hh ea (exO (.ref C) vs) pins s5 _ H3 (Dx i D) I5 q) (fun f s6 q6 => ?_) fun _ _ z => False.elim z
      cases f with
      | next =>
        obtain ⟨σ6, H6, I6, q7⟩ := q6
        exact (Inv.unhand I2 nE I6).nameGoes hN hi hl fun s' I8 => ⟨_, _, I8, q7⟩
      | brk =>
        obtain ⟨σ6, H6, I6, q7⟩ := q6
        exact (Inv.unhand I2 nE I6).nameGoes hN hi hl fun s' I8 => ⟨_, _, I8, q7⟩
      | cont =>
        obtain ⟨σ6, H6, I6, q7⟩ := q6
        exact (Inv.unhand I2 nE I6).nameGoes hN hi hl fun s' I8 => ⟨_, _, I8, q7⟩
      | ret u =>
        obtain ⟨v, σ6, H6, I6, r, q7⟩ := q6
        exact (Inv.unhand I2 nE I6).nameGoes hN hi hl fun s' I8 => ⟨v, _, _, I8, r, q7⟩
theorem Room.hand {j k : Nat} {A : Around} {v : Option Value} (r : Room k A) (h : j ≤ k) (h30 : j < 30) : Room j (A.mark v) :=
  ⟨fun z => absurd z (Nat.not_le.mpr h30), by have := r.dp; show A.depth + _ + 5 < _; omega, by have := r.un; show A.units + _ + 200 < _; omega⟩
/-! ### isinstance of an error in hand -/
/-- what of the text an error class must have for isinstance -/
structure ExI (K : PySem.W.Frag) (C : Addr) : Prop where
  ga : PySem.W.findIn K (.ref C) "__getattribute__" = some (some (.builtin "BaseException.__getattribute__"))
  gt : PySem.W.findIn K (.ref C) "__getattr__" = some none
  hd : PySem.W.hasDictIn K C = true
  ha : PySem.W.findIn K (.ref C) "__class__" = some (some (.builtin "object.__class__"))
  hn : PySem.W.specialIn K (.builtin "object.__class__") "__get__" = some (some (.builtin "getset_descriptor.__get__"))
  htk : PySem.W.takesIn K (.builtin "object.__class__") = some true
  hm : PySem.W.mroIn K C (.type "object") = some true
  be : PySem.W.mroIn K C (.type "BaseException") = some true
theorem ga_check {M : Model} {A : Around} {E : Value → Shared → Prop} {h : Heap} {g : Array GenState} {d : Drawn} {t : Nat} {os : OsState} {x : Addr} {nv : Value} {Q : Unit → Shared → Prop} (L : PySem.W.Looks M h (isInstance (.ref x) (.type "BaseException")) true)
    (hq : Q () ⟨h, g, d, t, os⟩) : wpAny M A (checkBuiltinCall "BaseException.__getattribute__" ⟨[.ref x, nv], []⟩) Q E ⟨h, g, d, t, os⟩ := by
  have hk : builtinKind "BaseException.__getattribute__" = some .slot := by decide +kernel
  have hsplit : splitId "BaseException.__getattribute__" = some ("BaseException", "__getattribute__") := by decide +kernel
  have ha := PySem.F.args_bexc_ga (.ref x) nv
  simp only [checkBuiltinCall, hk, hsplit]
  refine wpAny_bind (L.at ?_)
  repeat (first | exact hq | wp_step)
theorem ga_entry {prog : Program} {w : World} {A : Around} {E : Value → Shared → Prop} {h : Heap} {g : Array GenState} {d : Drawn} {t : Nat} {os : OsState} {K : PySem.W.Frag} {x C : Addr} {ox : Obj} {tk : Tok} {Q : Fin → Shared → Prop} (Y : K.In h) (I : PySem.W.InstAt h x ox C none)
    (L3 : PySem.W.Looks (model prog w) h (Builtin.ObjectAttr.find (.ref x) (.ref C) "__class__") (.bind (.builtin "getset_descriptor.__get__") (.builtin "object.__class__"))) (hm : PySem.W.mroIn K C (.type "object") = some true)
    (hq : Q (.done (.ret (.ref C))) ⟨h, g, d, t, os⟩) : wpAny (model prog w) A (Builtin.«object.__getattribute__» ⟨[.ref x, .str "__class__" tk], []⟩) Q E ⟨h, g, d, t, os⟩ := by
  have L0 := I.type (M := model prog w)
  refine wpAny_bind (wpAny_bind (wpAny_pure (wpAny_pure ?_)))
  refine wpAny_bind (wpAny_pure (wpAny_bind (L0.at (wpAny_bind (L3.at ?_)))))
  show wpAny _ _ (holding [Value.builtin "object.__class__"] (call (.builtin "getset_descriptor.__get__") [.builtin "object.__class__", .ref x, .ref C]) >>= ret) _ _ _
  exact wpAny_bind (wpAny_holding (wpAny_call (PySem.W.class_get (s := ⟨h, g, d, t, os⟩) (ox := ox) (od := none) Y I hm (wpAny_pure hq))))
theorem exc_class {prog : Program} {w : World} {A : Around} {E : Value → Shared → Prop} {s : Shared} {K : PySem.W.Frag} {x C : Addr} {ox : Obj} {Q : Option Value → Shared → Prop} (c : ExI K C) (Y : K.In s.heap) (I : PySem.W.InstAt s.heap x ox C none)
    (h : Q (some (.ref C)) { s with toks := s.toks + 1 }) : wpAny (model prog w) A (getAttr? (.ref x) "__class__") Q E s := by
  have hf : PySem.W.findObj K C none "__class__" = some (.bind (.builtin "getset_descriptor.__get__") (.builtin "object.__class__")) := by
    obtain ⟨cd, hc, _⟩ := PySem.W.any_some c.hd
    unfold PySem.W.findObj
    rw [hc, Option.bind_some, c.ha, Option.bind_some]
    simp [c.hn, c.htk]
  obtain ⟨hh, g, d, t, os⟩ := s
  have L0 := I.type (M := model prog w)
  have L1 := PySem.W.looks_findIn (M := model prog w) Y c.ga
  have L2 := PySem.W.looks_findIn (M := model prog w) Y c.gt
  have L3 := PySem.W.looks_find (M := model prog w) Y I hf
  have L4 := PySem.W.looks_mroIn (M := model prog w) Y c.be
  unfold getAttr? getAttrBy? getAttrBy
  refine wpAny_bind (wpAny_mkText (wpAny_bind (wpAny_attempt (wpAny_holding (wpAny_bind (L0.at (wpAny_bind (L1.at ?_))))))))
  show wpAny _ _ (getAttrByItsOwn _ _ _ _ _ _) _ _ _
  unfold getAttrByItsOwn
  refine wpAny_bind (show wpAny _ _ (typeLookup (.ref C) "__getattr__") _ _ _ from L2.at ?_)
  refine wpAny_bind (wpAny_attempt (wpAny_holding ?_))
  show wpAny _ _ (boundAndCalled _ _ _) _ _ _
  unfold boundAndCalled
  refine wpAny_bind (wpAny_of_eq (PySem.F.attr_ValueError.ga.bind _) ?_)
  refine wpAny_call (codeAny_call_builtin PySem.F.attr_ValueError.ga.plain PySem.F.entry_bexc_ga ?_)
  refine ga_check (L0.andThen L4) (ga_entry Y I L3 c.hm ?_)
  show wpAny _ _ (handedOut (.ref C)) _ _ _
  exact wpAny_pure (wpAny_pure h)
theorem kitx_err {K : PySem.W.Frag} {x C : Addr} {vs : Array Value} (c : ExI K C) : PySem.W.KitX K (.ref x) (.ref C) (fun h => PySem.W.InstAt h x (exO (.ref C) vs) C none) where
  ty := fun _ _ _ I => I.type
  it := fun M h Y _ => by
    obtain ⟨cd, hc, _⟩ := PySem.W.any_some c.hd
    unfold PySem.W.clsIn at hc
    split at hc
    · rename_i ho
      intro A' Q' E' s' k q
      unfold isType loadHead
      exact wpAny_bind (wpAny_loadPart (k _ _ (Y _ _ ho)) (wpAny_pure q))
    · cases hc
  ne := fun h tp dd its n sl Y htp => by
    obtain ⟨cd, hc, _⟩ := PySem.W.any_some c.hd
    refine Bool.eq_false_iff.mpr fun q => ?_
    have e : C = tp := Value.ref.inj (beq_iff_eq.mp q)
    subst e
    unfold PySem.W.clsIn at hc
    split at hc
    · rename_i ho
      have z := (Y _ _ ho).symm.trans htp
      cases z
    · cases hc
  ca := fun Y I k => exc_class c Y I k
section
variable {X : Cx}
/-- the class, own or built-in, as a value -/
def clsV : Value → V
  | .ref a => .ref a
  | .type n => .ty n
  | _ => .non
theorem call_isiE : CallR X (.builtin "isinstance") (fun xs H Q => ∃ a C vs c b, xs = [.ref a, clsV c] ∧ (∃ n, c = .ref n ∨ ∃ t, c = .type t) ∧ H a = some (.frz (exO (.ref C) vs) (.own a)) ∧ ExI X.K C ∧ PySem.W.kitOne X.K (.ref C) c = some b ∧ Q (.bl b) H) := by
  intro pins s σ H xs us Q I r h
  obtain ⟨a, C, vs, c, b, rfl, hc, hf, ci, e, q⟩ := h
  obtain ⟨u, v, rfl, ru, rv⟩ := vals2 r
  cases ru
  have ev : v = c := by
    obtain ⟨n, hc | ⟨t, hc⟩⟩ := hc
    · subst hc; exact rv
    · subst hc; exact rv
  subst ev
  obtain ⟨g, _⟩ := I.hok a _ hf
  exact PySem.W.kia_one (kitx_err (vs := vs) ci) I.kIn ⟨g, rfl, rfl, trivial⟩ e (fun z => nomatch z) fun tk => ⟨.bl b, H, I.tok tk, rfl, q⟩
end
end L2

set_option Elab.async false
set_option linter.all false
set_option maxRecDepth 100000
set_option maxHeartbeats 4000000
namespace L2
open PySem PySem.Spec PyProof.Rows QQ
/-! ## comprehensions with a test -/
section
variable {prog : Program} {w : World} {A : Around} {R : Result → Shared → Prop} {s : Shared}
theorem compI_loop {elt cnd target iter : Expr} {scope : Scope} {pos : Pos} {it acc : Value} {env : Env} (J : Nat → Shared → Prop)
    (turn : ∀ n z, J n z → wpAny (model prog w) A (pyNext it) (fun r z1 => match r with
      | none => R (.ok .next) z1
      | some v => wpAny (model prog w) A (letOwnedTupleGo target it v) (fun _ z2 => wpAny (model prog w) A (assign target env v) (fun _ z3 => wpAny (model prog w) A (isTrue cnd env (eval cnd env)) (fun b z6 => if b = true then wpAny (model prog w) A (eval elt env) (fun x z4 =>
          wpAny (model prog w) A (call (.builtin "list.append") [acc, x]) (fun _ z5 => ∃ m, m < n ∧ J m z5)
            (notedBy (model prog w) A env fun e s' => R (.error e) s') z4) (notedBy (model prog w) A env fun e s' => R (.error e) s') z6 else ∃ m, m < n ∧ J m z6) (notedBy (model prog w) A env fun e s' => R (.error e) s') z3)
            (notedBy (model prog w) A env fun e s' => R (.error e) s') z2) (notedBy (model prog w) A env fun e s' => R (.error e) s') z1) (notedBy (model prog w) A env fun e s' => R (.error e) s') z)
    (n : Nat) (h : J n s) : codeAny (model prog w) A (.compLoop (.ListComp elt [⟨target, iter, [cnd], 0⟩] scope pos) 0 it acc env) R s := by
  refine codeAny_loop rfl J (fun k z hz => ?_) n h
  show wpAny _ _ ((compTurn (.ListComp elt [⟨target, iter, [cnd], 0⟩] scope pos) 0 it acc env).onRaise (fun q => do noteFrame q env; theTreesLotGoes q)) _ _ z
  refine wpAny_noted ?_
  rw [compTurn_list]
  refine wpAny_bind (wpAny_standAt (wpAny_bind (wpAny_mono (turn k z hz) (fun r z1 g1 => ?_) fun _ _ q => q)))
  cases r with
  | none => exact wpAny_pure g1
  | some v =>
    refine wpAny_bind (wpAny_mono g1 (fun _ z2 g2 => wpAny_bind (wpAny_mono g2 (fun _ z3 g3 => ?_) fun _ _ q => q)) fun _ _ q => q)
    refine wpAny_bind (wpAny_tests_one (wpAny_mono g3 (fun b z6 g6 => ?_) fun _ _ q => q))
    cases b with
    | false => exact wpAny_pure ⟨rfl, g6⟩
    | true => exact wpAny_bind (wpAny_bind (wpAny_mono g6 (fun x z4 g4 => wpAny_bind (wpAny_mono g4 (fun _ z5 g5 => wpAny_pure (wpAny_pure ⟨rfl, g5⟩)) fun _ _ q => q)) fun _ _ q => q))
end
/-- [elt for target in iter if cnd] -/
def tCompI (n : Nat) (wi : TI) (g : TG) (tt : TT) (te : TE) : TE := fun σ H Q => wi σ H fun J H1 => ∀ l, H1 l = none → ∃ W : Nat → Nat → List V → St → Hp → Prop,
  (∃ m, W 0 m [] (List.replicate n none) (upd H1 l (.lst []))) ∧ ∀ i m ys σ' H', W i m ys σ' H' →
    (J.stop i H' ∧ Q (.ref l) H') ∨ (J.go i H' ∧ ∀ x H2, J.yld i H' x H2 → g x σ' H2 fun σ3 H3 => tt σ3 H3 fun c H5 => if c = true then te σ3 H5 fun y H4 =>
      H4 l = some (.lst ys) ∧ ys.length < sizeLine ∧ ∃ m', m' < m ∧ W (i + 1) m' (ys ++ [y]) σ3 (upd H4 l (.lst (ys ++ [y]))) else ∃ m', m' < m ∧ W (i + 1) m' ys σ3 H5)
section
variable {X : Cx} {N : List Str} {scope : Scope} {elt cnd target iter : Expr} {pos : Pos} {wi : TI} {g : TG} {tt : TT} {te : TE}
theorem compI_core {pins : List (Addr × Obj)} {σ : St} {H : Hp} {s : Shared} {Q : VK} {RR : Value → Env → Result → Shared → Prop}
    (hc : X.calm = true) (hkind : scope.kind = .function) (hfree : ∀ x ∈ scope.names, x.2 ≠ .free) (hcell : ∀ x ∈ scope.names, x.2 ≠ .cell)
    (hi : PI X target iter wi) (hg : ∀ fp s H, PG (cxComp X N scope fp s H) target g) (ht : ∀ fp s H, PT (cxComp X N scope fp s H) cnd tt) (he : ∀ fp s H, PE (cxComp X N scope fp s H) elt te)
    (I : Inv X pins σ H s) (h : tCompI N.length wi g tt te σ H Q)
    (hR : ∀ (l C : Addr) (H' : Hp) (s' : Shared), Inv X pins σ H' s' → FpOk X pins H' C → (∃ m, s'.heap.Ns C m) → Q (.ref l) H' → RR (.ref l) (compEnv scope C X.env) (.ok .next) s') :
    wpAny (model X.prog X.w) X.A (eval iter X.env) (fun x s₁ => wpAny (model X.prog X.w) X.A (pyIter x) (fun it s₂ => wpAny (model X.prog X.w) X.A (newList []) (fun acc s₃ =>
      wpAny (model X.prog X.w) X.A (newFunctionEnv scope X.env.globals [] [] X.env.qual none .none (some X.env)) (fun cenv s₄ =>
        codeAny (model X.prog X.w) X.A (.compStart (.ListComp elt [⟨target, iter, [cnd], 0⟩] scope pos) 0 it acc { cenv with scope := scope }) (RR acc { cenv with scope := scope }) s₄) X.xe s₃) X.xe s₂) X.xe s₁) X.xe s := by
  refine thn (hi pins s σ H _ I h) fun v s1 h1 => thn h1 fun itv s2 h2 => ?_
  obtain ⟨it, fp, tn, J, H2, e, I2, T, st2, f2, hw⟩ := h2
  subst e
  have hl2 : H2 s2.heap.objs.size = none := I2.hok.fresh (Nat.le_refl _)
  obtain ⟨W, ⟨m0, w0⟩, turn⟩ := hw s2.heap.objs.size hl2
  have lt2 : ∀ b ∈ fp, b < s2.heap.objs.size := fun b hb => let ⟨o, e, _⟩ := T.obj _ _ st2 b hb; Heap.lt_size e
  refine wpAny_newList ?_
  have I3 : Inv X pins σ (upd H2 s2.heap.objs.size (.lst [])) { s2 with heap := s2.heap.push { cls := .type "list", data := .seq ([] : List Value).toArray } } :=
    I2.laid (t' := s2.toks) (fun b u e => Heap.get?_push_of_some _ e) (Nat.le_refl _) ⟨Nat.zero_le _, [], 0, .nil, Heap.get?_push_size _ rfl⟩
  have st3 : tn 0 (s2.heap.push { cls := .type "list", data := .seq ([] : List Value).toArray }) := T.keep _ _ _ st2 fun b hb o e => Heap.get?_push_of_some _ e
  have lt3 : ∀ b ∈ fp, b < (s2.heap.push { cls := .type "list", data := .seq ([] : List Value).toArray }).objs.size := fun b hb => by rw [Heap.size_push]; exact Nat.lt_succ_of_lt (lt2 b hb)
  have f3 : ∀ b ∈ fp, FpOk X pins (upd H2 s2.heap.objs.size (.lst [])) b := fun b hb => ⟨by rw [upd_ne (Nat.ne_of_lt (lt2 b hb))]; exact (f2 b hb).1, (f2 b hb).2⟩
  generalize s2.heap.objs.size = l at *
  generalize upd H2 l (.lst []) = H3 at *
  have hs3 : ∃ s3 : Shared, s3 = { s2 with heap := s2.heap.push { cls := .type "list", data := .seq ([] : List Value).toArray } } := ⟨_, rfl⟩
  obtain ⟨s3, e3⟩ := hs3
  rw [← e3] at I3
  rw [← e3]
  have st3 : tn 0 s3.heap := by rw [e3]; exact st3
  have lt3 : ∀ b ∈ fp, b < s3.heap.objs.size := by rw [e3]; exact lt3
  clear e3
  refine wpAny_newFunctionEnv hcell (by intro y hy; simp at hy) (fun h4 hns hsb => ?_) hkind
  have kp : ∀ b o, s3.heap.get? b = some o → h4.get? b = some o := fun b o e => hsb.extBut b o (Nat.ne_of_lt (Heap.lt_size e)) (Heap.get?_push_of_some _ e)
  have I4 := inv_comp (N := N) (t' := s3.toks + ([] : List (Str × Value)).length) I3 hkind hfree hcell f3 lt3 hns kp
  have st4 : tn 0 h4 := T.keep _ _ _ st3 fun b hb o e => kp b o e
  have stat : ∀ {H' : Hp}, (∀ b ∈ fp, H' b = none) → ∀ b ∈ fp, FpOk (cxComp X N scope fp s3 H3) [] H' b := fun hn b hb =>
    ⟨hn b hb, (I4.ok.exf b hb).1, I4.ok.exfs b hb, .inl hb, fun x c e => (comp_nocell e).elim, fun p hp => absurd (show p ∈ ([] : List (Addr × Obj)) from hp) (by simp)⟩
  have loop : codeAny (model X.prog X.w) X.A (.compLoop (.ListComp elt [⟨target, iter, [cnd], 0⟩] scope pos) 0 (.ref it) (.ref l) (compEnv scope s3.heap.objs.size X.env)) (RR (.ref l) (compEnv scope s3.heap.objs.size X.env))
      { s3 with heap := h4, toks := s3.toks + ([] : List (Str × Value)).length } := by
    refine compI_loop (fun n s' => ∃ i ys σ' H', Inv (cxComp X N scope fp s3 H3) [] σ' H' s' ∧ tn i s'.heap ∧ (∀ b ∈ fp, H' b = none) ∧ W i n ys σ' H') ?_ m0 ⟨0, [], _, _, I4, st4, fun b hb => (f3 b hb).1, w0⟩
    rintro n s5 ⟨i, ys, σ5, H5, I5, st5, fr5, w5⟩
    rcases turn i n ys σ5 H5 w5 with ⟨stop, q⟩ | ⟨go, step⟩
    · refine thn (T.done (cxComp X N scope fp s3 H3) rfl rfl rfl hc i [] s5 σ5 H5 _ I5 (stat fr5) st5 stop) fun r s6 ⟨hr, I6⟩ => ?_
      subst hr
      exact hR _ _ _ _ (comp_back I3 f3 I6) (I3.fpOk (Nat.le_refl _) I6.free) (let ⟨m, hn, _⟩ := I6.loc; ⟨m, hn⟩) q
    · refine thn (T.item (cxComp X N scope fp s3 H3) rfl rfl rfl hc i [] s5 σ5 H5 _ I5 (stat fr5) st5 go) fun r s6 ⟨u, hr, h6⟩ => ?_
      subst hr
      refine thn h6 fun _ s7 ⟨x, H7, I7, r7, y7, st7, fr7⟩ => ?_
      have I7' := I7.pinned (stat fr7) (T.obj _ _ st7)
      refine wpAny_mono (hg fp s3 H3 _ s7 σ5 H7 x u _ I7' r7 (step x H7 y7)) (fun _ s8 ⟨σ8, H8, I8, q8⟩ => ?_) (fun _ _ z => False.elim z)
      refine wpAny_mono (ht fp s3 H3 _ s8 σ8 H8 _ I8 q8) (fun bb s85 ⟨H85, I85, q85⟩ => ?_) (fun _ _ z => False.elim z)
      cases bb with
      | false =>
        rw [if_neg Bool.false_ne_true] at q85 ⊢
        obtain ⟨m', hm', w9⟩ := q85
        refine ⟨m', hm', i + 1, ys, σ8, H85, I85.unpinned, T.keep _ _ _ st7 fun b hb o e => (I85.pin (b, o) (List.mem_append_right _ (List.mem_append_right _ (mem_pinsAt hb e)))).1, fun b hb => ?_, w9⟩
        obtain ⟨o, e, d⟩ := T.obj _ _ st7 b hb
        exact (I85.pin (b, o) (List.mem_append_right _ (List.mem_append_right _ (mem_pinsAt hb e)))).2.1
      | true =>
      rw [if_pos rfl] at q85 ⊢
      refine wpAny_mono (he fp s3 H3 _ s85 σ8 H85 _ I85 q85) (fun v s9 ⟨y, H9, I9, r9, hl9, hz9, m', hm', w9⟩ => ?_) (fun _ _ z => False.elim z)
      refine wpAny_mono (mt_append (X := cxComp X N scope fp s3 H3) _ s9 σ8 H9 (.ref l) [y] (.ref l) [v] (fun z Hz => Hz = upd H9 l (.lst (ys ++ [y]))) I9 rfl (.cons r9 .nil) ⟨l, ys, y, rfl, rfl, hl9, hz9, rfl⟩)
        (fun _ s10 ⟨z, Hz, I10, _, eH⟩ => ?_) (fun _ _ z => False.elim z)
      subst eH
      refine ⟨m', hm', i + 1, ys ++ [y], σ8, _, I10.unpinned, T.keep _ _ _ st7 fun b hb o e => (I10.pin (b, o) (List.mem_append_right _ (List.mem_append_right _ (mem_pinsAt hb e)))).1, fun b hb => ?_, w9⟩
      obtain ⟨o, e, d⟩ := T.obj _ _ st7 b hb
      exact (I10.pin (b, o) (List.mem_append_right _ (List.mem_append_right _ (mem_pinsAt hb e)))).2.1
  exact codeAny_compStart_list loop (T.self X.A 0 _ _ _ st4 loop)
end
/-- over a list, the element a value that is kept or not -/
theorem compI_li {K : PySem.W.Frag} {a l : Addr} {xs : List V} {n : Nat} {g : TG} {tt : TT} {te : TE} {R : Hp → Prop} {H1 : Hp} (Pv : Nat → List V → Hp → Prop) (h0 : Pv 0 [] (upd H1 l (.lst []))) (hl : ∀ i ys H, i ≤ xs.length → Pv i ys H → SqL K H a xs)
    (hs : ∀ i x ys σ H, xs[i]? = some x → Pv i ys H → σ.length = n → g x σ H fun σ3 H3 => tt σ3 H3 fun c H5 => if c = true then te σ3 H5 fun y H4 => H4 l = some (.lst ys) ∧ ys.length < sizeLine ∧ σ3.length = n ∧ Pv (i + 1) (ys ++ [y]) (upd H4 l (.lst (ys ++ [y]))) else σ3.length = n ∧ Pv (i + 1) ys H5)
    (hd : ∀ ys H, Pv xs.length ys H → R H) (mg : ∀ x σ H (A B : St → Hp → Prop), (∀ σ' H', A σ' H' → B σ' H') → g x σ H A → g x σ H B) (mtt : ∀ σ H (A B : Bool → Hp → Prop), (∀ v H', A v H' → B v H') → tt σ H A → tt σ H B) (mt : ∀ σ H (A B : VK), (∀ v H', A v H' → B v H') → te σ H A → te σ H B) :
    ∃ W : Nat → Nat → List V → St → Hp → Prop, (∃ m, W 0 m [] (List.replicate n none) (upd H1 l (.lst []))) ∧ ∀ i m ys σ' H', W i m ys σ' H' →
      ((Itl K a).stop i H' ∧ R H') ∨ ((Itl K a).go i H' ∧ ∀ x H2, (Itl K a).yld i H' x H2 → g x σ' H2 fun σ3 H3 => tt σ3 H3 fun c H5 => if c = true then te σ3 H5 fun y H4 =>
        H4 l = some (.lst ys) ∧ ys.length < sizeLine ∧ ∃ m', m' < m ∧ W (i + 1) m' (ys ++ [y]) σ3 (upd H4 l (.lst (ys ++ [y]))) else ∃ m', m' < m ∧ W (i + 1) m' ys σ3 H5) := by
  refine ⟨fun i m ys σ H => m = xs.length - i ∧ i ≤ xs.length ∧ σ.length = n ∧ Pv i ys H, ⟨xs.length, by simp, Nat.zero_le _, List.length_replicate, h0⟩, ?_⟩
  rintro i m ys σ H ⟨rfl, hi, hn, p⟩
  have q := hl i ys H hi p
  by_cases hlt : i < xs.length
  · refine .inr ⟨⟨xs, xs[i], q, by simp [hlt]⟩, fun x H' y => ?_⟩
    obtain ⟨e, y⟩ := y
    subst e
    refine mg _ _ _ _ _ (fun σ3 H3 z => mtt _ _ _ _ (fun c H5 z => ?_) z) (hs i x ys σ _ (y xs q) p hn)
    cases c with
    | true =>
      rw [if_pos rfl] at z ⊢
      exact mt _ _ _ _ (fun y H4 ⟨z1, z2, z3, z4⟩ => ⟨z1, z2, xs.length - (i + 1), by omega, rfl, hlt, z3, z4⟩) z
    | false =>
      rw [if_neg Bool.false_ne_true] at z ⊢
      exact ⟨xs.length - (i + 1), by omega, rfl, hlt, z.1, z.2⟩
  · have e : i = xs.length := by omega
    subst e
    exact .inl ⟨⟨xs, q, Nat.le_refl _⟩, hd ys H p⟩
/-! ### tuples of texts compared -/
theorem eqAt_str (A : Around) (s : Shared) (a : Str) (t : Tok) (c : Str) (u : Tok) : SeqAt.EqAt A s (.str a t) (.str c u) (a == c) := by
  first | exact SeqAt.EqAt.str_str a t c u | exact (MeetsSeq.EqGives.str_str a t c u).at A s
end L2

set_option Elab.async false
set_option linter.all false
set_option maxRecDepth 100000
set_option maxHeartbeats 4000000
namespace L2
open PySem
theorem fn_of0 {CX : CXT} {P : Program} {w : World} {K : PySem.W.Frag} {mg : Str → Option Value} {base : Heap} {f : Addr} {name qual : Str} {params : Arguments} {body : List Stmt} {scope : Scope} {dV kV doc pm cdv ct oc : Value} {an od : Option Addr}
    {osl : Array (Option Value)} {N ps : List Str} {sp : Sp} (lk : K.lookup f = some ⟨oc, od, .func (PySem.W.fnOf name qual params body scope dV kV doc pm an cdv ct), osl⟩) (hcd : PySem.W.codeIn K cdv qual = true) (S : FnScope N ps scope)
    (len : ∀ vs H Q E, sp vs H Q E → vs.length = ps.length)
    (hbody : ∀ (A : Around) (outer : List Env) (s : Shared) (H : Hp) (vs : List V) (Q : VK) (E : XK), sp vs H Q E →
      ∃ t, PSs (cxOf CX P w K mg base N qual scope f cdv A outer s H E) body t ∧ t { nx := fun _ H' => Q .non H', rt := Q } (start N vs) H) :
    FnOk P w K mg base CX 0 f (PySem.W.fnOf name qual params body scope dV kV doc pm an cdv ct) ps sp := by
  refine ⟨len, fun A outer s H args us vs Q E hr e0 hb r hsp => ?_⟩
  have hl := len _ _ _ _ hsp
  have KX : K.In s.heap := e0.mod.kin.keeps fun b o e => (e0.bs b o e).1
  have lim : s.heap.NoLimit := e0.mod.nolimit.keeps fun b o e => (e0.bs b o e).1
  have hkind : ∀ y ∈ ps.zip us, scope.names.lookup y.1 = some .local ∨ (scope.names.lookup y.1 = some .cell ∧ ((cellsFrom (s.heap.objs.size + 1) scope.names []).lookup y.1).isSome = true) := fun ⟨n, v⟩ hy => by
    rcases S.par n (List.of_mem_zip hy).1 with q | q
    · exact .inl q
    · exact .inr ⟨q, PySem.W.cellsFrom_some _ _ _ (.inl q)⟩
  refine codeAny_call_function hr.depth (KX _ _ lk) rfl S.co S.gen rfl (PySem.W.codeRec_of KX hcd) (hb _ _ _ _ ?_)
  refine wpAny_newFunctionEnv_cells S.kind hkind fun env he s1 x => ?_
  subst he
  refine ⟨lim.keeps x.toInCall.keep, codeAny_func ?_⟩
  obtain ⟨t, ht, hq⟩ := hbody A outer s H vs Q E hsp
  have I : Inv (cxOf CX P w K mg base N qual scope f cdv A outer s H E) [] (start N vs) H s1 := inv_start S e0 hl r x
  refine wpAny_mono (ht [] s1 (start N vs) H _ I hq) (fun fl s' hs => ?_) fun e s' hs => hs
  have fin : ∀ {σ' : St} {H' : Hp} {v : V} {u : Value}, Inv (cxOf CX P w K mg base N qual scope f cdv A outer s H E) [] σ' H' s' → RelV v u → Q v H' → CE outer P w H s Q u s' :=
    fun {σ' H' v u} J rv q => ⟨v, H', J.os, J.bare, J.base, J.hok, rv, q⟩
  cases fl with
  | ret u =>
    obtain ⟨v, σ', H', J, rv, q⟩ := hs
    exact fin J rv q
  | next =>
    obtain ⟨σ', H', J, q⟩ := hs
    exact fin (v := V.non) (u := Value.none) J rfl q
  | brk =>
    obtain ⟨_, _, _, q⟩ := hs
    exact False.elim q
  | cont =>
    obtain ⟨_, _, _, q⟩ := hs
    exact False.elim q
theorem Fun.ok0 {P : Program} {w : World} {K : PySem.W.Frag} {mg : Str → Option Value} {base : Heap} {x qual : Str} {st : Stmt} {f : Addr} {fd : FuncData} {N ps : List Str} {sp : Sp} (F : Fun K x qual st f fd) (S : FnScope N ps (defScope st)) (len : ∀ vs H Q E, sp vs H Q E → vs.length = ps.length)
    (hbody : ∀ (cdv : Value) (A : Around) (outer : List Env) (s : Shared) (H : Hp) (vs : List V) (Q : VK) (E : XK), sp vs H Q E →
      ∃ t, PSs (cxOf CX0 P w K mg base N qual (defScope st) f cdv A outer s H E).nox (defBody st) t ∧ t { nx := fun _ H' => Q .non H', rt := Q } (start N vs) H) : FnOk P w K mg base CX0 0 f fd ps sp := by
  obtain ⟨oc, od, kV, doc, pm, an, cdv, ct, osl, rfl, lk, hcd⟩ := F.ex
  refine fn_of0 lk hcd S len fun A outer s H vs Q E hsp => ?_
  obtain ⟨t, h, q⟩ := hbody cdv A outer s H vs Q E hsp
  exact ⟨t, h.nox, q⟩
end L2

set_option Elab.async false
set_option linter.all false
set_option maxRecDepth 100000
namespace QQ
open PySem PyProof.Rows
section
variable {prog : Program} {w : World} {A : Around} {E : Value → Shared → Prop} {s : Shared}
theorem ascii_end_q {it : Addr} {x : Str} {t : Tok} {i : Nat} {Q : Option Value → Shared → Prop} (hq : Hq A s.heap)
    (hit : s.heap.IsStrIter it "str_ascii_iterator" x t i) (hx : x.cps[i]? = none)
    (hQ : ∀ h', Heap.ExtBut it s.heap h' → Q none { s with heap := h' }) : wpAny (model prog w) A (pyNext (.ref it)) Q E s := by
  obtain ⟨o, ho, hc, hd⟩ := id hit
  have hn := hq_not hq ho hd (by simp)
  unfold pyNext
  refine wpAny_bind (wpAny_attempt (wpAny_callSpecial?_slot (name := Str.ofString "__next__") hit.typeIs F.slot_str_ascii_iterator_next
    (wpAny_call_entry F.slot_str_ascii_iterator_next hit.typeIs F.entry_str_ascii_iterator_next ?_ (F.args_str_ascii_iterator_next_1 _))))
  show wpAny _ _ (field (.ref it) 0 >>= _) _ _ s
  refine wpAny_bind (wpAny_field ho hd (x := .str x t) rfl ?_)
  show wpAny _ _ (field (.ref it) 1 >>= _) _ _ s
  refine wpAny_bind (wpAny_field ho hd (x := .int i 0) rfl ?_)
  simp only [Int.toNat_natCast, hx]
  refine wpAny_bind (wpAny_rule (wpAny_bind (wpAny_setField ho hd (by simp) (wpAny_bind (wpAny_letGo ?_)))))
  have sb1 := Heap.SameBut.update (h := s.heap) it (Obj.mapFields (·.setIfInBounds 0 Value.none))
  refine stop_quiet (A := A.in1) (hq.keep fun a ea o' e => sb1.extBut a o' (fun z => hn (by rw [ea, z])) e) fun h' e k ⟨o', ge, ce⟩ => ?_
  refine wpAny_bind (wpAny_isInstance (T := "StopIteration") (b := true) ⟨_, ge, ce⟩ isSubtype_stop ?_)
  exact wpAny_pure (hQ _ fun b ob hb e1 => k b ob (sb1.extBut b ob hb e1))
theorem wide_end_q {it : Addr} {x : Str} {t : Tok} {i : Nat} {Q : Option Value → Shared → Prop} (hq : Hq A s.heap)
    (hit : s.heap.IsStrIter it "str_iterator" x t i) (hx : x.cps[i]? = none)
    (hQ : ∀ h', Heap.ExtBut it s.heap h' → Q none { s with heap := h' }) : wpAny (model prog w) A (pyNext (.ref it)) Q E s := by
  obtain ⟨o, ho, hc, hd⟩ := id hit
  have hn := hq_not hq ho hd (by simp)
  unfold pyNext
  refine wpAny_bind (wpAny_attempt (wpAny_callSpecial?_slot (name := Str.ofString "__next__") hit.typeIs F.slot_str_iterator_next
    (wpAny_call_entry F.slot_str_iterator_next hit.typeIs F.entry_str_iterator_next ?_ (F.args_str_iterator_next_1 _))))
  show wpAny _ _ (field (.ref it) 0 >>= _) _ _ s
  refine wpAny_bind (wpAny_field ho hd (x := .str x t) rfl ?_)
  show wpAny _ _ (field (.ref it) 1 >>= _) _ _ s
  refine wpAny_bind (wpAny_field ho hd (x := .int i 0) rfl ?_)
  simp only [Int.toNat_natCast, hx]
  refine wpAny_bind (wpAny_rule (wpAny_bind (wpAny_setField ho hd (by simp) (wpAny_bind (wpAny_letGo ?_)))))
  have sb1 := Heap.SameBut.update (h := s.heap) it (Obj.mapFields (·.setIfInBounds 0 Value.none))
  refine stop_quiet (A := A.in1) (hq.keep fun a ea o' e => sb1.extBut a o' (fun z => hn (by rw [ea, z])) e) fun h' e k ⟨o', ge, ce⟩ => ?_
  refine wpAny_bind (wpAny_isInstance (T := "StopIteration") (b := true) ⟨_, ge, ce⟩ isSubtype_stop ?_)
  exact wpAny_pure (hQ _ fun b ob hb e1 => k b ob (sb1.extBut b ob hb e1))
end
end QQ

namespace L2
open PySem PySem.Spec PyProof.Rows
/-! ### a text's signs, one by one -/
def Its (x : Str) : It := ⟨fun i _ => i < x.cps.size, fun i H y H' => H' = H ∧ ∃ c, x.cps[i]? = some c ∧ y = .str ⟨#[c]⟩, fun i _ => x.cps.size ≤ i⟩
theorem turn_ascii {P : Program} {w : World} {K : PySem.W.Frag} {tg : Expr} (it : Addr) (x : Str) (t : Tok) : Turn P w K tg (Its x) [it] it (fun i h => h.IsStrIter it "str_ascii_iterator" x t i) where
  mem := by simp
  obj := fun i h st b hb => by
    have e : b = it := by simpa using hb
    subst e
    obtain ⟨o, e, c, d⟩ := st
    exact ⟨o, e, fun v z => by rw [d] at z; cases z⟩
  keep := fun i h h' st k => let ⟨o, ho, r⟩ := st; ⟨o, k it (by simp) o ho, r⟩
  item := by
    intro X hP hw hK hc i pins s σ H E I hf st hg
    subst hP hw hK
    have hg' : i < x.cps.size := hg
    obtain ⟨f0, f1, f2, f3, f4, f5⟩ := hf it (by simp)
    refine wpAny_pyNext_ascii_item st (c := x.cps[i]) (by simp [hg']) fun h' st' sb => ?_
    have I1 : Inv X pins σ H { s with heap := h', toks := s.toks + 1 } := I.turned (fun b o hb e => sb.extBut b o hb e) f0 f1 f3 f4 f5
    obtain ⟨o, e, c, d⟩ := id st'
    exact ⟨_, rfl, go_of (s := { s with heap := h', toks := s.toks + 1 }) e c d (by decide) ⟨.str ⟨#[x.cps[i]]⟩, H, I1, ⟨s.toks, rfl⟩, ⟨rfl, _, by simp [hg'], rfl⟩, st', fun b hb => (hf b hb).1⟩⟩
  done := by
    intro X hP hw hK hc i pins s σ H E I hf st hg
    subst hP hw hK
    have hg' : x.cps.size ≤ i := hg
    obtain ⟨f0, f1, f2, f3, f4, f5⟩ := hf it (by simp)
    exact QQ.ascii_end_q I.hq st (by simp [hg']) fun h' eb => ⟨rfl, I.turned (t' := s.toks) (fun b o hb e => eb b o hb e) f0 f1 f3 f4 f5⟩
  self := fun _ _ _ _ _ st h => wpAny_pyIter_striter_ascii st h
theorem turn_wide {P : Program} {w : World} {K : PySem.W.Frag} {tg : Expr} (it : Addr) (x : Str) (t : Tok) : Turn P w K tg (Its x) [it] it (fun i h => h.IsStrIter it "str_iterator" x t i) where
  mem := by simp
  obj := fun i h st b hb => by
    have e : b = it := by simpa using hb
    subst e
    obtain ⟨o, e, c, d⟩ := st
    exact ⟨o, e, fun v z => by rw [d] at z; cases z⟩
  keep := fun i h h' st k => let ⟨o, ho, r⟩ := st; ⟨o, k it (by simp) o ho, r⟩
  item := by
    intro X hP hw hK hc i pins s σ H E I hf st hg
    subst hP hw hK
    have hg' : i < x.cps.size := hg
    obtain ⟨f0, f1, f2, f3, f4, f5⟩ := hf it (by simp)
    refine wpAny_pyNext_wide_item st (c := x.cps[i]) (by simp [hg']) fun h' st' sb => ?_
    have I1 : Inv X pins σ H { s with heap := h', toks := s.toks + 1 } := I.turned (fun b o hb e => sb.extBut b o hb e) f0 f1 f3 f4 f5
    obtain ⟨o, e, c, d⟩ := id st'
    exact ⟨_, rfl, go_of (s := { s with heap := h', toks := s.toks + 1 }) e c d (by decide) ⟨.str ⟨#[x.cps[i]]⟩, H, I1, ⟨s.toks, rfl⟩, ⟨rfl, _, by simp [hg'], rfl⟩, st', fun b hb => (hf b hb).1⟩⟩
  done := by
    intro X hP hw hK hc i pins s σ H E I hf st hg
    subst hP hw hK
    have hg' : x.cps.size ≤ i := hg
    obtain ⟨f0, f1, f2, f3, f4, f5⟩ := hf it (by simp)
    exact QQ.wide_end_q I.hq st (by simp [hg']) fun h' eb => ⟨rfl, I.turned (t' := s.toks) (fun b o hb e => eb b o hb e) f0 f1 f3 f4 f5⟩
  self := fun _ _ _ _ _ st h => wpAny_pyIter_striter_wide st h
section
variable {X : Cx} {tg : Expr}
def iStr (tl : TE) : TI := fun σ H R => tl σ H fun x H1 => ∃ y, x = .str y ∧ R (Its y) H1
theorem pi_str {l : Expr} {tl : TE} (hl : PE X l tl) : PI X tg l (iStr tl) := by
  intro pins s σ H R I h
  refine thn (hl pins s σ H _ I h) fun v s1 ⟨x, H1, I1, r1, q1⟩ => ?_
  obtain ⟨y, e, q⟩ := q1
  subst e
  obtain ⟨t, rfl⟩ := r1
  cases ha : y.cps.all (· < 128)
  · refine wpAny_pyIter_wide ha ?_
    refine ⟨s1.heap.objs.size, [s1.heap.objs.size], _, _, H1, rfl, I1.kept (t' := s1.toks) fun b o e => Heap.get?_push_of_some _ e, turn_wide _ y t, ⟨_, Heap.get?_push_size _ rfl, rfl, rfl⟩, fun b hb => ?_, q⟩
    have e : b = s1.heap.objs.size := by simpa using hb
    subst e
    exact I1.fpOk (Nat.le_refl _) (I1.hok.fresh (Nat.le_refl _))
  · refine wpAny_pyIter_ascii ha ?_
    refine ⟨s1.heap.objs.size, [s1.heap.objs.size], _, _, H1, rfl, I1.kept (t' := s1.toks) fun b o e => Heap.get?_push_of_some _ e, turn_ascii _ y t, ⟨_, Heap.get?_push_size _ rfl, rfl, rfl⟩, fun b hb => ?_, q⟩
    have e : b = s1.heap.objs.size := by simpa using hb
    subst e
    exact I1.fpOk (Nat.le_refl _) (I1.hok.fresh (Nat.le_refl _))
theorem for_str {y : Str} {g : TG} {tb : TS} {D : Ends} {σ : St} {H : Hp} (Pv : Nat → St → Hp → Prop) (h0 : Pv 0 σ H)
    (hs : ∀ i c σ H, y.cps[i]? = some c → Pv i σ H → g (.str ⟨#[c]⟩) σ H fun σ2 H2 => tb { D with nx := Pv (i + 1), ct := Pv (i + 1), bk := D.nx } σ2 H2) (hd : ∀ σ H, Pv y.cps.size σ H → D.nx σ H) :
    ∃ W : Nat → Nat → St → Hp → Prop, (∃ m, W 0 m σ H) ∧ ∀ i m σ H, W i m σ H →
      ((Its y).stop i H ∧ D.nx σ H) ∨ ((Its y).go i H ∧ ∃ N : St → Hp → Prop, (∀ σ' H', N σ' H' → ∃ m', m' < m ∧ W (i + 1) m' σ' H') ∧ ∀ x H', (Its y).yld i H x H' → g x σ H' fun σ2 H2 => tb { D with nx := N, ct := N, bk := D.nx } σ2 H2) := by
  refine ⟨fun i m σ H => m = y.cps.size - i ∧ i ≤ y.cps.size ∧ Pv i σ H, ⟨y.cps.size, by simp, Nat.zero_le _, h0⟩, ?_⟩
  rintro i m σ H ⟨rfl, hi, p⟩
  by_cases hlt : i < y.cps.size
  · refine .inr ⟨hlt, Pv (i + 1), fun σ' H' p' => ⟨y.cps.size - (i + 1), by omega, rfl, hlt, p'⟩, fun x H' z => ?_⟩
    obtain ⟨e, c, hc, rfl⟩ := z
    subst e
    exact hs i c σ _ hc p
  · have e : i = y.cps.size := by omega
    subst e
    exact .inl ⟨Nat.le_refl _, hd σ H p⟩

/-! ### range(a, b, c) -/
def Itr3 (lo c : Int) (n : Nat) : It := ⟨fun i _ => i < n, fun i H x H' => H' = H ∧ x = .int (lo + i * c), fun i _ => n ≤ i⟩
theorem turn_range3 {P : Program} {w : World} {K : PySem.W.Frag} {tg : Expr} (it : Addr) (lo c : Int) (n : Nat) : Turn P w K tg (Itr3 lo c n) [it] it (fun i h => IsRangeIter h it (lo + (i : Nat) * c) ((n : Int) - (i : Nat)) c) where
  mem := by simp
  obj := fun i h st b hb => by
    have e : b = it := by simpa using hb
    subst e
    exact ⟨_, st, fun v z => by
      have z' : Data.fields _ = Data.cell v := z
      cases z'⟩
  keep := fun i h h' st k => k it (by simp) _ st
  item := by
    intro X hP hw hK hc i pins s σ H E I hf st hg
    subst hP hw hK
    obtain ⟨f0, f1, f2, f3, f4, f5⟩ := hf it (by simp)
    refine wpAny_pyNext_range_item st (by have : i < n := hg; omega) fun h' st1 sb => ?_
    have st' : IsRangeIter h' it (lo + ((i + 1 : Nat) : Int) * c) ((n : Int) - ((i + 1 : Nat) : Int)) c := by
      have e1 : lo + ((i + 1 : Nat) : Int) * c = lo + (i : Int) * c + c := by rw [show ((i + 1 : Nat) : Int) = (i : Int) + 1 from rfl, Int.add_mul]; omega
      have e2 : (n : Int) - ((i + 1 : Nat) : Int) = (n : Int) - (i : Int) - 1 := by omega
      rw [e1, e2]; exact st1
    have I1 : Inv X pins σ H { s with heap := h', toks := s.toks + 1 } := I.turned (fun b o hb e => sb.extBut b o hb e) f0 f1 f3 f4 f5
    exact ⟨_, rfl, go_of (s := { s with heap := h', toks := s.toks + 1 }) (n := "range_iterator") st' rfl rfl (by decide) ⟨.int (lo + i * c), H, I1, ⟨s.toks, rfl⟩, ⟨rfl, rfl⟩, st', fun b hb => (hf b hb).1⟩⟩
  done := by
    intro X hP hw hK hc i pins s σ H E I hf st hg
    subst hP hw hK
    obtain ⟨f0, f1, f2, f3, f4, f5⟩ := hf it (by simp)
    exact QQ.range_end_q I.hq st (by have : n ≤ i := hg; omega) fun h' eb => ⟨rfl, I.turned (t' := s.toks) (fun b o hb e => eb b o hb e) f0 f1 f3 f4 f5⟩
  self := fun _ _ _ _ _ st h => wpAny_pyIter_rangeiter st h
def iRng3 (ta : TA) : TI := fun σ H R => ta σ H fun vs H1 => ∃ (i j c : Int) (n : Nat), vs = [.int i, .int j, .int c] ∧ c ≠ 0 ∧ Builtin.Range.small i j c = true ∧ Builtin.Range.rangeSize i j c = (n : Int) ∧ Builtin.divisionGoesByPylong (j - i) c = false ∧ R (Itr3 i c n) H1
theorem pi_range3 {a b c : Expr} {ta : TA} {p pos : Pos} (hg : Gl X "range") (hm : X.mg "range" = none) (ha : PA X [a, b, c] ta) (hs : starEach [a, b, c] X.env = [(false, eval a X.env), (false, eval b X.env), (false, eval c X.env)] := by rfl) (hs2 : starEach [b, c] X.env = [(false, eval b X.env), (false, eval c X.env)] := by rfl) :
    PI X tg (.Call (.Name "range" p) [a, b, c] [] pos) (iRng3 ta) := by
  intro pins s σ H R I h
  refine Call_ (ld_blt I hg hm boot_range (PyProof.Rows.callWith_type1 (thn (ha pos pins s σ H _ I h) fun us s1 ⟨vs, H1, I1, r1, q1⟩ => ?_) (by rw [hs, hs2]) (by rw [hs2]; rfl)))
  obtain ⟨i, j, c, n, e, h0, h1, h2, h3, q⟩ := q1
  subst e
  cases r1 with
  | cons r rr =>
    cases rr with
    | cons r' rr =>
      cases rr with
      | cons r'' rr =>
        cases rr
        obtain ⟨t, rfl⟩ := r
        obtain ⟨t', rfl⟩ := r'
        obtain ⟨t'', rfl⟩ := r''
        refine call_range_3 h0 ?_ (.inl h3)
        refine wpAny_pyIter_range (IsRange.new ..) h1 ?_
        have I2 : Inv X pins σ H1 { s1 with heap := s1.heap.push { cls := .type "range", data := .fields #[.int i t, .int j t', .int c t''] }, toks := s1.toks } := I1.kept fun b o e => Heap.get?_push_of_some _ e
        refine ⟨(s1.heap.push { cls := .type "range", data := .fields #[.int i t, .int j t', .int c t''] }).objs.size, [(s1.heap.push { cls := .type "range", data := .fields #[.int i t, .int j t', .int c t''] }).objs.size], _, _, H1, rfl,
          I2.kept (t' := s1.toks) fun b o e => Heap.get?_push_of_some _ e, turn_range3 _ i c n, ?_, fun b hb => ?_, q⟩
        · have e1 : i + ((0 : Nat) : Int) * c = i := by simp
          have e2 : ((n : Nat) : Int) - ((0 : Nat) : Int) = Builtin.Range.rangeSize i j c := by rw [h2]; omega
          show IsRangeIter _ _ (i + ((0 : Nat) : Int) * c) (((n : Nat) : Int) - ((0 : Nat) : Int)) c
          rw [e1, e2]
          exact Heap.get?_push_size _ rfl
        · have e : b = (s1.heap.push { cls := .type "range", data := .fields #[.int i t, .int j t', .int c t''] }).objs.size := by simpa using hb
          subst e
          exact I2.fpOk (Nat.le_refl _) (I2.hok.fresh (Nat.le_refl _))
theorem for_range3 {lo c : Int} {n : Nat} {g : TG} {tb : TS} {D : Ends} {σ : St} {H : Hp} (Pv : Nat → St → Hp → Prop) (h0 : Pv 0 σ H)
    (hs : ∀ i σ H, i < n → Pv i σ H → g (.int (lo + i * c)) σ H fun σ2 H2 => tb { D with nx := Pv (i + 1), ct := Pv (i + 1), bk := D.nx } σ2 H2) (hd : ∀ σ H, Pv n σ H → D.nx σ H) :
    ∃ W : Nat → Nat → St → Hp → Prop, (∃ m, W 0 m σ H) ∧ ∀ i m σ H, W i m σ H →
      ((Itr3 lo c n).stop i H ∧ D.nx σ H) ∨ ((Itr3 lo c n).go i H ∧ ∃ N : St → Hp → Prop, (∀ σ' H', N σ' H' → ∃ m', m' < m ∧ W (i + 1) m' σ' H') ∧ ∀ x H', (Itr3 lo c n).yld i H x H' → g x σ H' fun σ2 H2 => tb { D with nx := N, ct := N, bk := D.nx } σ2 H2) := by
  refine ⟨fun i m σ H => m = n - i ∧ i ≤ n ∧ Pv i σ H, ⟨n, by simp, Nat.zero_le _, h0⟩, ?_⟩
  rintro i m σ H ⟨rfl, hi, p⟩
  by_cases hlt : i < n
  · refine .inr ⟨hlt, Pv (i + 1), fun σ' H' p' => ⟨n - (i + 1), by omega, rfl, hlt, p'⟩, fun x H' y => ?_⟩
    obtain ⟨e, y⟩ := y
    subst e y
    exact hs i σ _ hlt p
  · have e : i = n := by omega
    subst e
    exact .inl ⟨Nat.le_refl _, hd σ H p⟩

/-! ### texts of the signs 0 and 1 -/
def sgn (b : Bool) : Nat := if b then 49 else 48
def txt (bs : List Bool) : Str := ⟨(bs.map sgn).toArray⟩
theorem txt_cps (bs : List Bool) : (txt bs).cps.toList = bs.map sgn := by simp [txt]
theorem txt_length (bs : List Bool) : (txt bs).length = bs.length := by simp [txt, Str.length]
theorem txt_size (bs : List Bool) : (txt bs).cps.size = bs.length := by simp [txt]
theorem str_ext {x y : Str} (h : x.cps.toList = y.cps.toList) : x = y := by
  cases x; cases y
  simp only [Str.mk.injEq]
  exact Array.toList_inj.mp h
theorem txt_append (a b : List Bool) : txt a ++ txt b = txt (a ++ b) := by
  refine str_ext ?_
  show ((txt a).cps ++ (txt b).cps).toList = _
  rw [Array.toList_append, txt_cps, txt_cps, txt_cps, List.map_append]
theorem txt_get {bs : List Bool} {i : Nat} {c : Nat} (h : (txt bs).cps[i]? = some c) : ∃ b, bs[i]? = some b ∧ (⟨#[c]⟩ : Str) = txt [b] := by
  rw [← Array.getElem?_toList, txt_cps, List.getElem?_map] at h
  cases e : bs[i]? with
  | none => rw [e] at h; cases h
  | some b => rw [e] at h; cases h; exact ⟨b, rfl, rfl⟩
theorem txt_inj {a b : List Bool} : txt a = txt b ↔ a = b := by
  refine ⟨fun h => ?_, fun h => by rw [h]⟩
  have h1 : a.map sgn = b.map sgn := by rw [← txt_cps, ← txt_cps, h]
  refine (List.map_inj_right (f := sgn) fun x y e => ?_).mp h1
  cases x <;> cases y <;> first | rfl | exact absurd e (by decide)

/-! ### slices of texts -/
def rSlS : V → Option Int → Option Int → Hp → VK → Prop := fun x lo hi H Q => ∃ y, x = .str y ∧ y.length ≤ sizeLine ∧ Q (.str (Txt.slice y lo hi)) H
theorem part_some {v : Value} {o : Option Int} (p : IsPart v o) : ∃ l : Option (Int × Tok), l.map (·.1) = o ∧ v = partValue l := by
  cases p with
  | none => exact ⟨none, rfl, rfl⟩
  | int i t => exact ⟨some (i, t), rfl, rfl⟩
theorem sl_str : SlR X rSlS := by
  intro pins s σ H x v vl vu lo hi sl Q I rx hs pl pu h
  obtain ⟨y, rfl, hz, q⟩ := h
  obtain ⟨t, rfl⟩ := rx
  obtain ⟨l, rfl, rfl⟩ := part_some pl
  obtain ⟨u, rfl, rfl⟩ := part_some pu
  refine ⟨"str", _, F.slot_str_getitem.lookup, typeIs_str _ _ _, ?_⟩
  refine wpAny_getItem_str_slice (l := l) (u := u) (st := none) hs rfl ?_
  exact post_val_or_str ⟨Nat.le_trans (Txt.slice_le y _ _) hz, fun t' k => ⟨.str (Txt.slice y (l.map (·.1)) (u.map (·.1))), H, I.tok _, ⟨_, rfl⟩, q⟩⟩
theorem slice_both {x : Str} {a b : Nat} (hab : a ≤ b) (hb : b ≤ x.length) : (Txt.slice x (some (a : Int)) (some (b : Int))).cps.toList = (x.cps.toList.drop a).take (b - a) := by
  have h := StrLaws.sliced_plain x hab hb
  unfold Txt.slice
  split
  · rename_i e
    have e' : (Builtin.Str.strSliceIndices (some (a : Int)) (some (b : Int)) 1 x.length).length = x.length := by simpa using e
    rw [StrLaws.strSliceIndices_plain hab hb] at e'
    have e2 : b - a = x.length := by simpa using e'
    have ea : a = 0 := by omega
    subst ea
    have hx : x.cps.toList.length = x.length := by simp [Str.length]
    rw [List.drop_zero, e2, ← hx, List.take_length]
  · exact h
theorem txt_slice {bs : List Bool} {a b : Nat} (hab : a ≤ b) (hb : b ≤ bs.length) : Txt.slice (txt bs) (some (a : Int)) (some (b : Int)) = txt ((bs.drop a).take (b - a)) := by
  refine str_ext ?_
  rw [slice_both hab (by rw [txt_length]; exact hb), txt_cps, txt_cps, List.map_take, List.map_drop]
/-! ### '0' * n -/
def rMulS : R2 := fun x y H Q => ∃ z n, x = .str z ∧ y = .int n ∧ MulOk z n ∧ Q (.str (Txt.mul z n)) H
theorem op_mul_str : OpR X (binaryOp .Mult) rMulS := by
  intro pins s σ H x y v u Q I rx ry h
  obtain ⟨z, n, rfl, rfl, hok, q⟩ := h
  obtain ⟨t, rfl⟩ := rx
  obtain ⟨t', rfl⟩ := ry
  exact SB.mul hok fun t' k => ⟨.str (Txt.mul z n), H, I.tok _, ⟨_, rfl⟩, q⟩
end
end L2

set_option Elab.async false
set_option linter.all false
set_option maxRecDepth 100000
set_option maxHeartbeats 4000000
namespace L2
open PySem PySem.Spec PyProof.Rows QQ
/-! ### t != u: a tuple of one text or truth, and such a one -/
def rNeT1 (K : PySem.W.Frag) : R2 := fun x y H Q => ∃ (p q : Addr), x = .ref p ∧ y = .ref q ∧ ((∃ a b : Str, SqT K H p [.str a] ∧ SqT K H q [.str b] ∧ Q (.bl (!(a == b))) H) ∨ (∃ a b : Bool, SqT K H p [.bl a] ∧ SqT K H q [.bl b] ∧ Q (.bl (!(a == b))) H))
theorem vals_1 {x : V} {us : List Value} (r : Vals [x] us) : ∃ u, us = [u] ∧ RelV x u := by
  cases r with
  | cons r rr => cases rr; exact ⟨_, rfl, r⟩
theorem op_neT1 {X : Cx} (hu : X.A.units < cLine) : OpR X (compareOp .NotEq) (rNeT1 X.K) := by
  intro pins s σ H x y v u Q I rx ry h
  obtain ⟨p, q, rfl, rfl, h⟩ := h
  cases rx
  cases ry
  rcases h with ⟨a, b, h1, h2, k⟩ | ⟨a, b, h1, h2, k⟩
  · obtain ⟨its, rv, pl, hz⟩ := I.tuple h1
    obtain ⟨its2, rv2, pl2, hz2⟩ := I.tuple h2
    obtain ⟨u1, rfl, t1, rfl⟩ := vals_1 rv
    obtain ⟨u2, rfl, t2, rfl⟩ := vals_1 rv2
    refine SeqAt.RcNeAt.tuples (e := fun _ => a == b) (show s.heap.IsTuple p _ from pl) (show s.heap.IsTuple q _ from pl2) hu (fun j h1 h2 => ?_) _ _ _ _ ?_
    · have e : j = 0 := by simp at h1; omega
      subst e
      exact eqAt_str _ _ a t1 b t2
    · refine ⟨.bl (!(a == b)), H, I, ?_, k⟩
      show Value.bool _ = Value.bool _
      congr 1
      simp
  · obtain ⟨its, rv, pl, hz⟩ := I.tuple h1
    obtain ⟨its2, rv2, pl2, hz2⟩ := I.tuple h2
    obtain ⟨u1, rfl, r1⟩ := vals_1 rv
    obtain ⟨u2, rfl, r2⟩ := vals_1 rv2
    cases r1
    cases r2
    refine SeqAt.RcNeAt.tuples (e := fun _ => a == b) (show s.heap.IsTuple p _ from pl) (show s.heap.IsTuple q _ from pl2) hu (fun j h1 h2 => ?_) _ _ _ _ ?_
    · have e : j = 0 := by simp at h1; omega
      subst e
      first | exact SeqAt.EqAt.bool_bool a b | exact SeqAt.EqAt.bool_bool _ _
    · refine ⟨.bl (!(a == b)), H, I, ?_, k⟩
      show Value.bool _ = Value.bool _
      congr 1
      simp
end L2

set_option Elab.async false
set_option linter.all false
set_option maxRecDepth 100000
set_option maxHeartbeats 4000000
namespace L2
open PySem PySem.Spec PyProof.Rows QQ
/-! ### {} and the value None, True, False by `is not` -/
def tDNew0 : TE := fun _ H Q => ∀ p, H p = none → Q (.ref p) (upd H p (.dK []))
section
variable {X : Cx} {pos : Pos}
theorem Inv.bigM {pins : List (Addr × Obj)} {σ : St} {H : Hp} {s : Shared} (I : Inv X pins σ H s) : sysModules < s.heap.objs.size := by
  have h : mainGlobals < s.heap.objs.size := (I.ok.mod.glob.keeps I.bk).lt
  exact Nat.lt_trans (by decide) h
theorem pe_dnew0 : PE X (.Dict [] [] pos) tDNew0 := fun pins s σ H Q I h =>
  wpAny_Dict_empty ⟨.ref s.heap.objs.size, _, I.laid (a := s.heap.objs.size) (o := .dK []) (t' := s.toks) (fun _ _ q => Heap.get?_push_of_some _ q) (Nat.le_refl _) ⟨Nat.zero_le _, beq_eq_false_iff_ne.mpr (Ne.symm (Nat.ne_of_lt I.bigM)), [], .nil, Heap.DictOf.new s.heap⟩, rfl, h _ (I.hok.fresh (Nat.le_refl _))⟩
end
end L2

set_option Elab.async false
set_option linter.all false
set_option maxRecDepth 100000
set_option maxHeartbeats 4000000
namespace L2
open PySem PySem.Spec PyProof.Rows QQ
/-! ### rules by the K at hand; statements one by one -/
theorem seq_g {t u : TS} {D : Ends} {σ : St} {H : Hp} (h : ∀ R : St → Hp → Prop, (∀ σ H, u D σ H → R σ H) → t { D with nx := R } σ H) : tSeq t u D σ H := h (u D) fun _ _ z => z
def rNeL (K : PySem.W.Frag) : R2 := fun x y H Q => ∃ (p q : Addr) (ns ms : List Int), x = .ref p ∧ y = .ref q ∧ SqL K H p (ns.map V.int) ∧ SqL K H q (ms.map V.int) ∧ Q (.bl (!decide (ns = ms))) H
theorem op_neL {X : Cx} (hu : X.A.units + 64 < cLine) : OpR X (compareOp .NotEq) (rNeL X.K) := by
  intro pins s σ H x y v u Q I rx ry h
  obtain ⟨p, q, ns, ms, rfl, rfl, h1, h2, k⟩ := h
  cases rx
  cases ry
  obtain ⟨its, rv, pl, hz⟩ := I.list h1
  obtain ⟨its2, rv2, pl2, hz2⟩ := I.list h2
  exact PySem.W.ne_intsK pl.isList (intsAre_of rv) pl2.isList (intsAre_of rv2) hu ⟨.bl _, H, I, rfl, k⟩
theorem take_cut (xs : List V) (k : Nat) : cutV xs none (some ((k : Nat) : Int)) = xs.take k := by
  unfold cutV
  rw [HT.sIx_none, HT.sIx_nat, List.drop_zero, Nat.sub_zero]
  by_cases h : k ≤ xs.length
  · rw [Nat.min_eq_left h]
  · rw [Nat.min_eq_right (by omega), List.take_length, List.take_of_length_le (by omega)]
theorem drop_cut (xs : List V) (k : Nat) : cutV xs (some ((k : Nat) : Int)) none = xs.drop k := by
  unfold cutV
  rw [HT.sIx_none, HT.sIx_nat]
  by_cases h : k ≤ xs.length
  · rw [Nat.min_eq_left h, ← List.length_drop, List.take_length]
  · rw [Nat.min_eq_right (by omega), List.drop_length, List.drop_of_length_le (by omega), List.take_nil]
theorem lookup_one {a x : Str} {b c : Addr} (h : List.lookup x [(a, b)] = some c) : x = a ∧ c = b := by
  rw [List.lookup_cons] at h
  cases hx : x == a with
  | true => rw [hx] at h; exact ⟨eq_of_beq hx, (Option.some.inj h).symm⟩
  | false => rw [hx] at h; cases h
theorem none_of {H H' : Hp} (s : Same H H') {q : Addr} (h : H' q = none) : H q = none := by
  cases e : H q with
  | none => rfl
  | some o => rw [s _ _ e] at h; cases h
theorem same_new {H : Hp} {p : Addr} {o : HO} (h : H p = none) : Same H (upd H p o) := fun b u e => by
  rw [upd_ne (ne_of_none e h)]; exact e
/-! ### [elt for target in iter if cnd] as a value -/
section
variable {X : Cx} {N : List Str} {scope : Scope} {elt cnd target iter : Expr} {pos : Pos} {wi : TI} {g : TG} {tt : TT} {te : TE}
theorem pe_compI (hc : X.calm = true) (hkind : scope.kind = .function) (hfree : ∀ x ∈ scope.names, x.2 ≠ .free) (hcell : ∀ x ∈ scope.names, x.2 ≠ .cell) (hnames : ∀ x ∈ scope.names, x.2 = .local → scope.names.lookup x.1 = some .local)
    (hi : PI X target iter wi) (hg : ∀ fp s H, PG (cxComp X N scope fp s H) target g) (ht : ∀ fp s H, PT (cxComp X N scope fp s H) cnd tt) (he : ∀ fp s H, PE (cxComp X N scope fp s H) elt te)
    (hs : ∀ x, foldedSetIterable iter X.env x = pure x := by intro _; rfl) : PE X (.ListComp elt [⟨target, iter, [cnd], 0⟩] scope pos) (tCompI N.length wi g tt te) := by
  intro pins s σ H Q I h
  refine wpAny_ListComp hfree hkind hnames (compI_core (RR := fun acc cenv r s' => ∃ m, s'.heap.Ns cenv.locals m ∧ ∀ h', Heap.SameBut cenv.locals s'.heap h' →
    match r with
    | .ok _ => EP X pins σ Q acc { s' with heap := h' }
    | .error x => wpAny (model X.prog X.w) X.A (passOn "comprehension.variables-let-go" x cenv) (EP X pins σ Q) X.xe { s' with heap := h' }) hc hkind hfree hcell hi hg ht he I h ?_) hs
  rintro l C H' s' I' fC ⟨m, hn⟩ q
  exact ⟨m, hn, fun h' sb => ⟨.ref l, H', I'.turned (t' := s'.toks) (fun b o hb e => (sb.2 b hb).trans e) fC.1 fC.2.1 fC.2.2.2.1 fC.2.2.2.2.1 fC.2.2.2.2.2, rfl, q⟩⟩
end
section
variable {X : Cx}
/-! ### t[a:] of a tuple -/
def rSlF (K : PySem.W.Frag) : V → Option Int → Option Int → Hp → VK → Prop := fun x lo hi H Q => ∃ (a : Addr) (xs : List V) (n : Nat), x = .ref a ∧ lo = some (n : Int) ∧ hi = none ∧ SqT K H a xs ∧ 1 ≤ n ∧ n ≤ xs.length ∧ ∀ p, H p = none → Q (.ref p) (upd H p (.tup (xs.drop n)))
/-! ### lists of tuples of plain things compared, the same ones -/
theorem eqV_self : ∀ x : V, flatV x = true → eqV x x = true := by
  intro x h
  cases x <;> simp [flatV, eqV] at h ⊢
theorem eqAt_tup {pins : List (Addr × Obj)} {σ : St} {H : Hp} {s : Shared} (I : Inv X pins σ H s) {a b : Addr} {xs : List V} (ha : SqT X.K H a xs) (hb : SqT X.K H b xs) (fl : xs.all flatV = true) {A : Around} (hu : A.units < cLine) : SeqAt.EqAt A s (.ref a) (.ref b) true := by
  by_cases e : a = b
  · subst e; exact .same _
  · obtain ⟨its, rv, pl, hz⟩ := I.tuple ha
    obtain ⟨its2, rv2, pl2, hz2⟩ := I.tuple hb
    have l1 := rv.length
    have l2 := rv2.length
    refine .of_refs e ?_
    have R := SeqAt.RcAt.tuples (A := A) (e := fun _ => true) (show s.heap.IsTuple a its.toArray from pl) (show s.heap.IsTuple b its2.toArray from pl2) hu (fun j h1 h2 => ?_)
    · have e2 : ((List.range (min its.toArray.size its2.toArray.size)).all (fun _ => true) && its.toArray.size == its2.toArray.size) = true := by
        rw [List.size_toArray, List.size_toArray, ← l1, ← l2]; simp
      rw [e2] at R
      exact R
    · have j1 : j < xs.length := by simp at h1; omega
      obtain ⟨u1, e1, r1⟩ := rv.get (i := j) (x := xs[j]) (by simp [j1])
      obtain ⟨u2, e2, r2⟩ := rv2.get (i := j) (x := xs[j]) (by simp [j1])
      have g1 : its.toArray[j] = u1 := by
        obtain ⟨_, z⟩ := List.getElem?_eq_some_iff.mp e1
        simpa using z
      have g2 : its2.toArray[j] = u2 := by
        obtain ⟨_, z⟩ := List.getElem?_eq_some_iff.mp e2
        simpa using z
      have f1 : flatV xs[j] = true := List.all_eq_true.mp fl _ (List.getElem_mem j1)
      rw [g1, g2, ← eqV_self _ f1]
      exact eqAt_V r1 r2 f1 f1
/-- two lists of tuples, item by item the same -/
def SameTs (K : PySem.W.Frag) (H : Hp) (p q : Addr) : Prop := ∃ ps qs : List Addr, SqL K H p (ps.map V.ref) ∧ SqL K H q (qs.map V.ref) ∧ ps.length = qs.length ∧ ∀ (i : Nat) (a b : Addr), ps[i]? = some a → qs[i]? = some b → ∃ xs : List V, SqT K H a xs ∧ SqT K H b xs ∧ xs.all flatV = true
def rNeLT (K : PySem.W.Frag) : R2 := fun x y H Q => ∃ (p q : Addr), x = .ref p ∧ y = .ref q ∧ SameTs K H p q ∧ Q (.bl false) H
def rEqLT (K : PySem.W.Frag) : R2 := fun x y H Q => ∃ (p q : Addr), x = .ref p ∧ y = .ref q ∧ SameTs K H p q ∧ Q (.bl true) H
end
end L2

set_option Elab.async false
set_option linter.all false
set_option maxRecDepth 100000
set_option maxHeartbeats 4000000
namespace L2
open PySem PySem.Spec PyProof.Rows QQ
section
variable {X : Cx}
/-! ### try, where nothing is raised -/
theorem ps_tryN {body : List Stmt} {h₀ : ExceptHandler} {hs : List ExceptHandler} {tb : TS} {pos : Pos} (hb : PSs X.nox body tb) : PS X (.Try body (h₀ :: hs) [] [] pos) tb := by
  intro pins s σ H D I h
  refine wpAny_Try_except (wpAny_mono (hb pins s σ H D (I.wish _) h) (fun f s1 q => ?_) fun e s1 q => q.elim)
  have q' : SP X pins D f s1 := SP.unwish q
  cases f with
  | next => exact wpAny_execs_nil q'
  | brk => exact q'
  | cont => exact q'
  | ret u => exact q'
/-! ### xs += ys of lists -/
def ipL : TIp := fun x y H Q => ∃ l b xs zs, x = .ref l ∧ y = .ref b ∧ H l = some (.lst xs) ∧ H b = some (.lst zs) ∧ xs.length + zs.length ≤ sizeLine ∧ Q (.ref l) (upd H l (.lst (xs ++ zs)))
end
end L2

set_option Elab.async false
set_option linter.all false
set_option maxRecDepth 100000
set_option maxHeartbeats 4000000
namespace QQ
open PySem PyProof.Rows
section
variable {prog : Program} {w : World} {A : Around} {E : Value → Shared → Prop} {s : Shared}
theorem nextOf_end_q {it l : Addr} {i : Nat} {items} {Q : Value → Shared → Prop} (hq : Hq A s.heap)
    (hit : s.heap.IsListIter it l i) (hl : s.heap.IsList l items) (hx : items[i]? = none)
    (hE : ∀ h' e, Heap.ExtBut it s.heap h' → (∃ o, h'.get? e = some o ∧ o.cls = .type "StopIteration") → E (.ref e) { s with heap := h' }) :
    wpAny (model prog w) A (Builtin.SmallTypes.nextOf (.ref it)) Q E s := by
  obtain ⟨o, ho, hc, hd⟩ := id hit
  obtain ⟨ol, hol, _, nl, hdl⟩ := hl
  have hn := hq_not hq ho hd (by simp)
  unfold Builtin.SmallTypes.nextOf
  refine wpAny_bind (wpAny_callSpecial?_slot (name := Str.ofString "__next__") hit.typeIs slot_listiter_next (wpAny_call_entry slot_listiter_next hit.typeIs entry_listiter_next ?_ (args_listiter_next _)))
  show wpAny _ _ (field (.ref it) 0 >>= _) _ _ s
  refine wpAny_bind (wpAny_field ho hd (x := .ref l) rfl ?_)
  show wpAny _ _ (if (Value.ref l == Value.none) = true then _ else _) _ _ s
  rw [if_neg (show ¬ ((Value.ref l == Value.none) = true) from Bool.false_ne_true)]
  show wpAny _ _ (field (.ref it) 1 >>= _) _ _ s
  refine wpAny_bind (wpAny_field ho hd (x := .int i 0) rfl ?_)
  show wpAny _ _ (seqItems? (.ref l) >>= _) _ _ s
  refine wpAny_bind (wpAny_seqItems hol hdl ?_)
  simp only [Int.toNat_natCast, hx]
  refine wpAny_bind (wpAny_rule (wpAny_bind (wpAny_setField ho hd (by simp) ?_)))
  have sb1 := Heap.SameBut.update (h := s.heap) it (Obj.mapFields (·.setIfInBounds 0 Value.none))
  refine stop_quiet (A := A.in1) (hq.keep fun a ea o' e => sb1.extBut a o' (fun z => hn (by rw [ea, z])) e) fun h' e k he => ?_
  exact hE _ e (fun b ob hb e1 => k b ob (sb1.extBut b ob hb e1)) he
end
end QQ
namespace L2
open PySem PySem.Spec PyProof.Rows QQ
/-! ### zip of two lists -/
def Itz (K : PySem.W.Frag) (a b : Addr) : It :=
  ⟨fun i H => ∃ xs ys x y, SqL K H a xs ∧ SqL K H b ys ∧ xs[i]? = some x ∧ ys[i]? = some y,
   fun i H v H' => ∃ p x y, H p = none ∧ v = .ref p ∧ H' = upd H p (.tup [x, y]) ∧ (∀ xs, SqL K H a xs → xs[i]? = some x) ∧ ∀ ys, SqL K H b ys → ys[i]? = some y,
   fun i H => ∃ xs ys, SqL K H a xs ∧ SqL K H b ys ∧ (xs.length ≤ i ∨ ys.length ≤ i)⟩
def iZip (K : PySem.W.Frag) (ta : TA) : TI := fun σ H R => ta σ H fun vs H1 => ∃ l1 l2 xs ys, vs = [.ref l1, .ref l2] ∧ SqL K H1 l1 xs ∧ SqL K H1 l2 ys ∧ R (Itz K l1 l2) H1
/-! ### t != u of tuples of plain things, the same ones -/
def rNeTT (K : PySem.W.Frag) : R2 := fun x y H Q => ∃ (p q : Addr) (xs : List V), x = .ref p ∧ y = .ref q ∧ SqT K H p xs ∧ SqT K H q xs ∧ xs.all flatV = true ∧ Q (.bl false) H
theorem op_neTT {X : Cx} (hu : X.A.units + 64 < cLine) : OpR X (compareOp .NotEq) (rNeTT X.K) := by
  intro pins s σ H x y v u Q I rx ry h
  obtain ⟨p, q, xs, rfl, rfl, ha, hb, fl, k⟩ := h
  cases rx
  cases ry
  obtain ⟨its, rv, pl, hz⟩ := I.tuple ha
  obtain ⟨its2, rv2, pl2, hz2⟩ := I.tuple hb
  have l1 := rv.length
  have l2 := rv2.length
  refine SeqAt.RcNeAt.tuples (e := fun _ => true) (show s.heap.IsTuple p its.toArray from pl) (show s.heap.IsTuple q its2.toArray from pl2) (by omega) (fun j h1 h2 => ?_) _ _ _ _ ?_
  · have j1 : j < xs.length := by simp at h1; omega
    obtain ⟨u1, e1, r1⟩ := rv.get (i := j) (x := xs[j]) (by simp [j1])
    obtain ⟨u2, e2, r2⟩ := rv2.get (i := j) (x := xs[j]) (by simp [j1])
    have g1 : its.toArray[j] = u1 := by
      obtain ⟨_, z⟩ := List.getElem?_eq_some_iff.mp e1
      simpa using z
    have g2 : its2.toArray[j] = u2 := by
      obtain ⟨_, z⟩ := List.getElem?_eq_some_iff.mp e2
      simpa using z
    have f1 : flatV xs[j] = true := List.all_eq_true.mp fl _ (List.getElem_mem j1)
    rw [g1, g2, ← eqV_self _ f1]
    exact eqAt_V r1 r2 f1 f1
  · refine ⟨.bl false, H, I, ?_, k⟩
    show Value.bool _ = Value.bool _
    congr 1
    rw [List.size_toArray, List.size_toArray, ← l1, ← l2]
    simp
/-! ### lists of lists of ints compared, the same ones -/
theorem eqAt_lst {X : Cx} {pins : List (Addr × Obj)} {σ : St} {H : Hp} {s : Shared} (I : Inv X pins σ H s) {a b : Addr} {ns : List Int} (ha : SqL X.K H a (ns.map V.int)) (hb : SqL X.K H b (ns.map V.int)) {A : Around} (hu : A.units < cLine) : SeqAt.EqAt A s (.ref a) (.ref b) true := by
  by_cases e : a = b
  · subst e; exact .same _
  · obtain ⟨its, rv, pl, hz⟩ := I.list ha
    obtain ⟨its2, rv2, pl2, hz2⟩ := I.list hb
    have l1 := rv.length
    have l2 := rv2.length
    rw [List.length_map] at l1 l2
    refine .of_refs e ?_
    have R := SeqAt.RcAt.lists (A := A) (e := fun _ => true) pl.isList pl2.isList (by rw [List.size_toArray, List.size_toArray]; omega) hu (fun j h1 h2 => ?_)
    · have e2 : (List.range its.toArray.size).all (fun _ => true) = true := by simp
      rw [e2] at R
      exact R
    · have j1 : j < ns.length := by simp at h1; omega
      obtain ⟨u1, e1, r1⟩ := rv.get (i := j) (x := .int ns[j]) (by simp [j1])
      obtain ⟨u2, e2, r2⟩ := rv2.get (i := j) (x := .int ns[j]) (by simp [j1])
      have g1 : its.toArray[j] = u1 := by
        obtain ⟨_, z⟩ := List.getElem?_eq_some_iff.mp e1
        simpa using z
      have g2 : its2.toArray[j] = u2 := by
        obtain ⟨_, z⟩ := List.getElem?_eq_some_iff.mp e2
        simpa using z
      have hh : eqV (V.int ns[j]) (V.int ns[j]) = true := eqV_self _ rfl
      rw [g1, g2, ← hh]
      exact eqAt_V r1 r2 rfl rfl
def SameLs (K : PySem.W.Frag) (H : Hp) (p q : Addr) : Prop := ∃ ps qs : List Addr, SqL K H p (ps.map V.ref) ∧ SqL K H q (qs.map V.ref) ∧ ps.length = qs.length ∧ ∀ (i : Nat) (a b : Addr), ps[i]? = some a → qs[i]? = some b → ∃ ns : List Int, SqL K H a (ns.map V.int) ∧ SqL K H b (ns.map V.int)
def rNeLL (K : PySem.W.Frag) : R2 := fun x y H Q => ∃ (p q : Addr), x = .ref p ∧ y = .ref q ∧ SameLs K H p q ∧ Q (.bl false) H
end L2

set_option Elab.async false
set_option linter.all false
set_option maxRecDepth 100000
set_option maxHeartbeats 4000000
namespace L2
open PySem PySem.Spec PyProof.Rows QQ
/-! ### comprehensions with captured names, with a test, as values -/
def tCompCI (js : List (Option Nat)) (wi : TI) (g : TG) (tt : TT) (te : TE) : TE := fun σ H Q => wi σ H fun J H1 => ∀ l, H1 l = none → ∃ W : Nat → Nat → List V → St → Hp → Prop,
  (∃ m, W 0 m [] (cap js σ) (upd H1 l (.lst []))) ∧ ∀ i m ys σ' H', W i m ys σ' H' →
    (J.stop i H' ∧ Q (.ref l) H') ∨ (J.go i H' ∧ ∀ x H2, J.yld i H' x H2 → g x σ' H2 fun σ3 H3 => tt σ3 H3 fun c H5 => if c = true then te σ3 H5 fun y H4 =>
      H4 l = some (.lst ys) ∧ ys.length < sizeLine ∧ ∃ m', m' < m ∧ W (i + 1) m' (ys ++ [y]) σ3 (upd H4 l (.lst (ys ++ [y]))) else ∃ m', m' < m ∧ W (i + 1) m' ys σ3 H5)
section
variable {X : Cx} {N : List Str} {scope : Scope} {cl : List (Str × Addr)} {js : List (Option Nat)} {elt cnd target iter : Expr} {pos : Pos} {wi : TI} {g : TG} {tt : TT} {te : TE}
theorem compCI_core {pins : List (Addr × Obj)} {σ : St} {H : Hp} {s : Shared} {Q : VK} {RR : Value → Addr → Result → Shared → Prop}
    (hc : X.calm = true) (Cp : Caps X N scope cl js)
    (hi : PI X target iter wi) (hg : ∀ fp s H, PG (cxCompC X N scope cl fp s H) target g) (ht : ∀ fp s H, PT (cxCompC X N scope cl fp s H) cnd tt) (he : ∀ fp s H, PE (cxCompC X N scope cl fp s H) elt te)
    (I : Inv X pins σ H s) (h : tCompCI js wi g tt te σ H Q)
    (hR : ∀ (l C : Addr) (H' : Hp) (s' : Shared), Inv X pins σ H' s' → FpOk X pins H' C → (∃ m, s'.heap.Ns C m) → Q (.ref l) H' → RR (.ref l) C (.ok .next) s') :
    wpAny (model X.prog X.w) X.A (eval iter X.env) (fun x s₁ => wpAny (model X.prog X.w) X.A (pyIter x) (fun it s₂ => wpAny (model X.prog X.w) X.A (newList []) (fun acc s₃ =>
      wpAny (model X.prog X.w) X.A (newFunctionEnv scope X.env.globals cl [] X.env.qual none .none (some X.env)) (fun cenv s₄ =>
        codeAny (model X.prog X.w) X.A (.compStart (.ListComp elt [⟨target, iter, [cnd], 0⟩] scope pos) 0 it acc { cenv with scope := relabel scope X.env }) (RR acc cenv.locals) s₄) X.xe s₃) X.xe s₂) X.xe s₁) X.xe s := by
  refine thn (hi pins s σ H _ I h) fun v s1 h1 => thn h1 fun itv s2 h2 => ?_
  obtain ⟨it, fp, tn, J, H2, e, I2, T, st2, f2, hw⟩ := h2
  subst e
  have hl2 : H2 s2.heap.objs.size = none := I2.hok.fresh (Nat.le_refl _)
  obtain ⟨W, ⟨m0, w0⟩, turn⟩ := hw s2.heap.objs.size hl2
  have lt2 : ∀ b ∈ fp, b < s2.heap.objs.size := fun b hb => let ⟨o, e, _⟩ := T.obj _ _ st2 b hb; Heap.lt_size e
  refine wpAny_newList ?_
  have I3 : Inv X pins σ (upd H2 s2.heap.objs.size (.lst [])) { s2 with heap := s2.heap.push { cls := .type "list", data := .seq ([] : List Value).toArray } } :=
    I2.laid (t' := s2.toks) (fun b u e => Heap.get?_push_of_some _ e) (Nat.le_refl _) ⟨Nat.zero_le _, [], 0, .nil, Heap.get?_push_size _ rfl⟩
  have st3 : tn 0 (s2.heap.push { cls := .type "list", data := .seq ([] : List Value).toArray }) := T.keep _ _ _ st2 fun b hb o e => Heap.get?_push_of_some _ e
  have lt3 : ∀ b ∈ fp, b < (s2.heap.push { cls := .type "list", data := .seq ([] : List Value).toArray }).objs.size := fun b hb => by rw [Heap.size_push]; exact Nat.lt_succ_of_lt (lt2 b hb)
  have f3 : ∀ b ∈ fp, FpOk X pins (upd H2 s2.heap.objs.size (.lst [])) b := fun b hb => ⟨by rw [upd_ne (Nat.ne_of_lt (lt2 b hb))]; exact (f2 b hb).1, (f2 b hb).2⟩
  generalize s2.heap.objs.size = l at *
  generalize upd H2 l (.lst []) = H3 at *
  have hs3 : ∃ s3 : Shared, s3 = { s2 with heap := s2.heap.push { cls := .type "list", data := .seq ([] : List Value).toArray } } := ⟨_, rfl⟩
  obtain ⟨s3, e3⟩ := hs3
  rw [← e3] at I3
  rw [← e3]
  have st3 : tn 0 s3.heap := by rw [e3]; exact st3
  have lt3 : ∀ b ∈ fp, b < s3.heap.objs.size := by rw [e3]; exact lt3
  clear e3
  refine wpAny_newFunctionEnv Cp.nocell (by intro y hy; simp at hy) (fun h4 hns hsb => ?_) Cp.kind
  have kp : ∀ b o, s3.heap.get? b = some o → h4.get? b = some o := fun b o e => hsb.extBut b o (Nat.ne_of_lt (Heap.lt_size e)) (Heap.get?_push_of_some _ e)
  have I4 := inv_compC (N := N) (t' := s3.toks + ([] : List (Str × Value)).length) I3 Cp f3 lt3 hns kp
  have st4 : tn 0 h4 := T.keep _ _ _ st3 fun b hb o e => kp b o e
  have stat : ∀ {H' : Hp}, (∀ b ∈ fp, H' b = none) → ∀ b ∈ fp, FpOk (cxCompC X N scope cl fp s3 H3) [] H' b := fun hn b hb =>
    ⟨hn b hb, (I4.ok.exf b hb).1, I4.ok.exfs b hb, .inl hb, (I4.ok.exf b hb).2, fun p hp => absurd (show p ∈ ([] : List (Addr × Obj)) from hp) (by simp)⟩
  have loop : codeAny (model X.prog X.w) X.A (.compLoop (.ListComp elt [⟨target, iter, [cnd], 0⟩] scope pos) 0 (.ref it) (.ref l) (compEnvC scope cl s3.heap.objs.size X.env)) (RR (.ref l) s3.heap.objs.size)
      { s3 with heap := h4, toks := s3.toks + ([] : List (Str × Value)).length } := by
    refine compI_loop (fun n s' => ∃ i ys σ' H', Inv (cxCompC X N scope cl fp s3 H3) [] σ' H' s' ∧ tn i s'.heap ∧ (∀ b ∈ fp, H' b = none) ∧ W i n ys σ' H') ?_ m0 ⟨0, [], _, _, I4, st4, fun b hb => (f3 b hb).1, w0⟩
    rintro n s5 ⟨i, ys, σ5, H5, I5, st5, fr5, w5⟩
    rcases turn i n ys σ5 H5 w5 with ⟨stop, q⟩ | ⟨go, step⟩
    · refine thn (T.done (cxCompC X N scope cl fp s3 H3) rfl rfl rfl hc i [] s5 σ5 H5 _ I5 (stat fr5) st5 stop) fun r s6 ⟨hr, I6⟩ => ?_
      subst hr
      exact hR _ _ _ _ (compC_back I3 f3 I6) (I3.fpOk (Nat.le_refl _) I6.free) (let ⟨m, hn, _⟩ := I6.loc; ⟨m, hn⟩) q
    · refine thn (T.item (cxCompC X N scope cl fp s3 H3) rfl rfl rfl hc i [] s5 σ5 H5 _ I5 (stat fr5) st5 go) fun r s6 ⟨u, hr, h6⟩ => ?_
      subst hr
      refine thn h6 fun _ s7 ⟨x, H7, I7, r7, y7, st7, fr7⟩ => ?_
      have I7' := I7.pinned (stat fr7) (T.obj _ _ st7)
      refine wpAny_mono (hg fp s3 H3 _ s7 σ5 H7 x u _ I7' r7 (step x H7 y7)) (fun _ s8 ⟨σ8, H8, I8, q8⟩ => ?_) (fun _ _ z => False.elim z)
      refine wpAny_mono (ht fp s3 H3 _ s8 σ8 H8 _ I8 q8) (fun bb s85 ⟨H85, I85, q85⟩ => ?_) (fun _ _ z => False.elim z)
      cases bb with
      | false =>
        rw [if_neg Bool.false_ne_true] at q85 ⊢
        obtain ⟨m', hm', w9⟩ := q85
        refine ⟨m', hm', i + 1, ys, σ8, H85, I85.unpinned, T.keep _ _ _ st7 fun b hb o e => (I85.pin (b, o) (List.mem_append_right _ (List.mem_append_right _ (mem_pinsAt hb e)))).1, fun b hb => ?_, w9⟩
        obtain ⟨o, e, d⟩ := T.obj _ _ st7 b hb
        exact (I85.pin (b, o) (List.mem_append_right _ (List.mem_append_right _ (mem_pinsAt hb e)))).2.1
      | true =>
      rw [if_pos rfl] at q85 ⊢
      refine wpAny_mono (he fp s3 H3 _ s85 σ8 H85 _ I85 q85) (fun v s9 ⟨y, H9, I9, r9, hl9, hz9, m', hm', w9⟩ => ?_) (fun _ _ z => False.elim z)
      refine wpAny_mono (mt_append (X := cxCompC X N scope cl fp s3 H3) _ s9 σ8 H9 (.ref l) [y] (.ref l) [v] (fun z Hz => Hz = upd H9 l (.lst (ys ++ [y]))) I9 rfl (.cons r9 .nil) ⟨l, ys, y, rfl, rfl, hl9, hz9, rfl⟩)
        (fun _ s10 ⟨z, Hz, I10, _, eH⟩ => ?_) (fun _ _ z => False.elim z)
      subst eH
      refine ⟨m', hm', i + 1, ys ++ [y], σ8, _, I10.unpinned, T.keep _ _ _ st7 fun b hb o e => (I10.pin (b, o) (List.mem_append_right _ (List.mem_append_right _ (mem_pinsAt hb e)))).1, fun b hb => ?_, w9⟩
      obtain ⟨o, e, d⟩ := T.obj _ _ st7 b hb
      exact (I10.pin (b, o) (List.mem_append_right _ (List.mem_append_right _ (mem_pinsAt hb e)))).2.1
  exact codeAny_compStart_list loop (T.self X.A 0 _ _ _ st4 loop)
end
end L2

set_option Elab.async false
set_option linter.all false
set_option maxRecDepth 100000
set_option maxHeartbeats 4000000
namespace L2
open PySem PySem.Spec PyProof.Rows QQ
/-! ### xs[::-1] -/
section
variable {X : Cx} {e e1 : Expr} {te t1 : TE} {pos p2 : Pos}
def tRev (K : PySem.W.Frag) (te t1 : TE) : TE := fun σ H Q => te σ H fun x H1 => t1 σ H1 fun y H2 => ∃ a xs, x = .ref a ∧ y = .int (-1) ∧ SqL K H2 a xs ∧ ∀ p, H2 p = none → Q (.ref p) (upd H2 p (.lst xs.reverse))
end
end L2

set_option Elab.async false
set_option linter.all false
set_option maxRecDepth 100000
set_option maxHeartbeats 4000000
namespace L2
open PySem PySem.Spec PyProof.Rows QQ
section
variable {X : Cx} {a b : Expr} {rest : List Expr} {ta tb : TE} {pos : Pos}
/-! ### all(truths), all of them true; (a list) or .. -/
def tOrL (K : PySem.W.Frag) (ta tb : TE) : TE := fun σ H Q => ta σ H fun x H1 => ∃ p xs, x = .ref p ∧ SqL K H1 p xs ∧ ((xs = [] ∧ tb σ H1 Q) ∨ (xs ≠ [] ∧ Q (.ref p) H1))
end
end L2

set_option Elab.async false
set_option linter.all false
set_option maxRecDepth 100000
set_option maxHeartbeats 2000000
namespace L2
open PySem PyProof.Rows
theorem list_sort_key (a f : Addr) : Builtin.«list.sort» ⟨[.ref a], [(Str.ofString "key", .ref f)]⟩ = (do
    let items ← Builtin.List.listItems (.ref a)
    Builtin.List.listUpdate (.ref a) fun _ => #[]
    let before ← seqEpoch a
    let held ← newTuple items.toList
    let keyStore ← newList []
    holding [held, keyStore] do
      rule "list.sort.key"
      for x in items do
        match ← (call (.ref f) [x]).attempt with
        | .ok k => Builtin.List.listUpdate keyStore (·.push k)
        | .error e =>
          rule "list.sort.key-raised"
          let made ← Builtin.List.listItems keyStore
          Builtin.List.listUpdate keyStore fun _ => #[]
          letGo made.toList.reverse [e]
          Builtin.List.listUpdate (.ref a) fun _ => items; throw e
      let keys ← Builtin.List.listItems keyStore
      let kind ← if items.size < 2 then pure general' else keyKind' keys
      let ((), s) ← (if items.size < 2 then pure () else sortRuns').run (SortSt.mk' kind (keys.zip items) #[] 7 none)
      let sorted := (arrOf s).map (·.2)
      Builtin.List.listUpdate keyStore fun _ => #[]
      letGo ((arrOf s).map (·.1)).toList (failedOf s).toList
      let touched := (← seqEpoch a) != before
      Builtin.List.listUpdate (.ref a) fun _ => sorted
      if let some e := failedOf s then rule "list.sort.comparison-raised"; throw e
      if touched then rule "list.sort.modified"; raiseError "ValueError" "list modified during sort"
      ret .none) := by
  first | rfl | (fail "not by rfl")
theorem args_list_sort_key (a v : Value) : argsOk "list.sort" ⟨[a], [(Str.ofString "key", v)]⟩ := by unfold argsOk; kernel_rfl
theorem args_sorted_key (a v : Value) : argsOk "sorted" ⟨[a], [(Str.ofString "key", v)]⟩ := by unfold argsOk; kernel_rfl
theorem ints_snoc : ∀ {vs : List Value} {ns : List Int} {n : Int} {t : Tok}, IntsAre vs ns → IntsAre (vs ++ [.int n t]) (ns ++ [n])
  | _, _, n, t, .nil => .cons n t .nil
  | _, _, _, _, .cons m u h => .cons m u (ints_snoc h)
theorem seq_nocell {c : String} {xs : Array Value} {n : Nat} : ∀ v, (seqObj c xs n).data ≠ .cell v := fun v h => by cases h
/-- a record that may turn -/
theorem Inv.turn {X : Cx} {pins : List (Addr × Obj)} {σ : St} {H : Hp} {s : Shared} {a : Addr} {g : Obj → Obj} (I : Inv X pins σ H s) (fa : FpOk X pins H a) : Inv X pins σ H { s with heap := s.heap.update a g } :=
  I.turned (t' := s.toks) (fun b o hb e => by rw [Heap.get?_update_ne _ _ _ _ hb]; exact e) fa.1 fa.2.1 fa.2.2.2.1 fa.2.2.2.2.1 fa.2.2.2.2.2
end L2

set_option Elab.async false
set_option linter.all false
set_option maxRecDepth 100000
set_option maxHeartbeats 2000000
namespace L2
open PySem PyProof.Rows QQ
/-- a list that was made aside is ours from here on -/
theorem Inv.adopt {X : Cx} {pins : List (Addr × Obj)} {σ : St} {H : Hp} {s : Shared} {a : Addr} {xs : List V} {its : List Value} {n : Nat} (I : Inv X pins σ H s) (fa : FpOk X pins H a) (rv : Vals xs its) (hz : xs.length ≤ sizeLine)
    (ho : s.heap.get? a = some (seqObj "list" its.toArray n)) : Inv X pins σ (upd H a (.lst xs)) s := by
  have hn := fa.1
  refine I.step (h' := s.heap) (g' := s.gens) (d' := s.drawn) (t' := s.toks) (ch := [a]) (fun b hb => ?_) (fun b o _ _ _ e _ => e) (fun b o _ _ _ e _ => ⟨o.slots, e⟩) (fun b o hb e n => ?_)
    (fun b o _ e => ⟨o, e⟩) (fun b ys e => ?_) (fun b o u e => ?_) (fun b ps e => ⟨#[], ?_⟩) (fun m hm => hm) (fun b u e => ?_) I.bare
  · rw [List.mem_singleton.mp hb]; exact ⟨fa.2.2.2.1, fa.2.1, fa.2.2.2.2.1, fa.2.2.2.2.2⟩
  · rw [upd_ne (fun z => hb (by simp [z]))]; exact n
  · rw [upd_ne (ne_of_none e hn)]; exact e
  · rw [upd_ne (ne_of_none e hn)]; exact e
  · rw [upd_ne (ne_of_none e hn), e]; simp
  · by_cases hb : b = a
    · subst hb; rw [upd_same] at e; cases e; exact ⟨hz, its, n, rv, ho⟩
    · rw [upd_ne hb] at e
      exact (I.hok b u e).stay (fun c v _ q => q) (fun c q => by rw [upd_ne (ne_of_none q hn)]; exact q) fun c xs q => by rw [upd_ne (ne_of_none q hn)]; exact q
/-! ### as a rule of the layer -/
inductive PR : List (Value × Value) → List (Int × V) → Prop
  | nil : PR [] []
  | cons {k v : Value} {n : Int} {x : V} {l : List (Value × Value)} {m : List (Int × V)} : (∃ t, k = .int n t) → RelV x v → PR l m → PR ((k, v) :: l) ((n, x) :: m)
theorem pr_perm {l l' : List (Value × Value)} (h : l.Perm l') : ∀ {m}, PR l m → ∃ m', m.Perm m' ∧ PR l' m' := by
  induction h with
  | nil => intro m h; exact ⟨m, .refl _, h⟩
  | cons x _ ih =>
    intro m h
    cases h with
    | cons a b c =>
      obtain ⟨m', p, q⟩ := ih c
      exact ⟨_, p.cons _, .cons a b q⟩
  | swap x y l =>
    intro m h
    cases h with
    | cons a b c =>
      cases c with
      | cons a' b' c' => exact ⟨_, .swap _ _ _, .cons a' b' (.cons a b c')⟩
  | trans _ _ h1 h2 =>
    intro m h
    obtain ⟨m1, p1, q1⟩ := h1 h
    obtain ⟨m2, p2, q2⟩ := h2 q1
    exact ⟨m2, p1.trans p2, q2⟩
theorem pr_zip : ∀ {kv its : List Value} {ks : List Int} {xs : List V}, IntsAre kv ks → Vals xs its → PR (kv.zip its) (ks.zip xs)
  | _, _, _, _, .nil, _ => by simp; exact .nil
  | _, _, _, _, .cons n t h, .nil => by simp; exact .nil
  | _, _, _, _, .cons n t h, .cons r rs => .cons ⟨t, rfl⟩ r (pr_zip h rs)
theorem pr_vals : ∀ {l : List (Value × Value)} {m : List (Int × V)}, PR l m → Vals (m.map (·.2)) (l.map (·.2))
  | _, _, .nil => .nil
  | _, _, .cons _ r h => .cons r (pr_vals h)
theorem pr_len : ∀ {l : List (Value × Value)} {m : List (Int × V)}, PR l m → l.length = m.length
  | _, _, .nil => rfl
  | _, _, .cons _ r h => by simp [pr_len h]
theorem pr_at : ∀ {l : List (Value × Value)} {m : List (Int × V)}, PR l m → ∀ {i : Nat} {q : Int × V}, m[i]? = some q → ∃ t v, l[i]? = some (.int q.1 t, v)
  | _, _, .cons ⟨t, e⟩ r h, 0, q, hq => by
    simp at hq; subst hq; subst e; exact ⟨t, _, rfl⟩
  | _, _, .cons _ r h, i + 1, q, hq => by simp at hq; simpa using pr_at h hq
def tSortK (K : PySem.W.Frag) (sp : Sp) (t : TA) : TE := fun σ H Q => t σ H fun zs H1 => ∃ (p : Addr) (xs : List V) (ks : List Int), zs = [.ref p] ∧ SqL K H1 p xs ∧ xs.length = ks.length ∧ xs.length < 64 ∧
  (∀ (i : Nat) (v : V) (k : Int), xs[i]? = some v → ks[i]? = some k → sp [v] H1 (fun r H2 => r = .int k ∧ H2 = H1) E0) ∧
  ∀ (l : Addr) (m : List (Int × V)), H1 l = none → (ks.zip xs).Perm m → (m.map (·.1)).Pairwise (· ≤ ·) → Q (.ref l) (upd H1 l (.lst (m.map (·.2))))
section
variable {X : Cx} {k : Nat} {f : Addr} {fd : FuncData} {x : Str} {sp : Sp} {e : Expr} {te : TE} {fe : Expr} {p kp pos : Pos} {y : Str}
end
end L2

set_option Elab.async false
set_option linter.all false
set_option maxRecDepth 100000
set_option maxHeartbeats 2000000
namespace L2
open PySem PyProof.Rows QQ
section
variable {X : Cx}
theorem num_at {ys : Array (Int × Tok)} {ns : List Int} (e1 : ns = ys.toList.map (·.1)) {i : Nat} (h : i < ns.length) : numAt ys i = ns[i] := by
  subst e1
  rw [List.length_map, Array.length_toList] at h
  simp [numAt, h]
/-- max(a list of numbers) -/
theorem call_maxL (hc : X.A.handled = none) : CallR X (.builtin "max") (fun xs H Q => ∃ (p : Addr) (ns : List Int), xs = [.ref p] ∧ SqL X.K H p (ns.map V.int) ∧ 0 < ns.length ∧ ∀ n ∈ ns, (∀ m ∈ ns, m ≤ n) → Q (.int n) H) := by
  intro pins s σ H xs us Q I r h
  obtain ⟨p, ns, rfl, hq, hne, q⟩ := h
  obtain ⟨u, rfl, rx⟩ := vals1 r
  cases rx
  obtain ⟨its, rv, pl, hz⟩ := I.list hq
  have hi := intsAre_of rv
  obtain ⟨ys, hx⟩ := hi.allInts.items
  have hl : s.heap.IsList p (intItems ys) := hx ▸ pl.isList
  have e1 : ns = ys.toList.map (·.1) := by
    rw [← nums_intItems, ← hx]
    exact (show numsOf its.toArray.toList = ns from hi.numsOf).symm
  have hsz : ns.length = ys.size := by rw [e1]; simp
  refine max_intList hc hl (by omega) fun v h' tk hv hk => ?_
  obtain ⟨t, rfl⟩ := intItems_at hv
  obtain ⟨h1, h2⟩ := argBest_gt (numAt ys) (ys.size - 1)
  generalize argBest (fun i j => decide (numAt ys i > numAt ys j)) (ys.size - 1) = b at *
  have hb : b < ns.length := by omega
  have eb := num_at e1 hb
  refine ⟨.int ns[b], H, I.kept (t' := tk) hk, ⟨t, by rw [eb]⟩, q _ (List.getElem_mem hb) fun m hm => ?_⟩
  obtain ⟨j, hj, rfl⟩ := List.getElem_of_mem hm
  have := h2 j (by omega)
  rw [num_at e1 hj, eb] at this
  exact this
end
end L2

set_option Elab.async false
set_option linter.all false
set_option maxRecDepth 100000
set_option maxHeartbeats 4000000
namespace QQ
open PySem PyProof.Rows
section
variable {prog : Program} {w : World} {A : Around} {E : Value → Shared → Prop} {s : Shared}
theorem enum_end_q {e it l : Addr} {i : Nat} {items : Array Value} {old : Value} {Q : Option Value → Shared → Prop} (hq : Hq A s.heap)
    (he : IsEnum s.heap e it i old) (hit : s.heap.IsListIter it l i) (hl : s.heap.IsList l items) (hx : items[i]? = none)
    (hQ : ∀ h', Heap.ExtBut it s.heap h' → Q none { s with heap := h' }) : wpAny (model prog w) A (pyNext (.ref e)) Q E s := by
  have hT : s.TypeIs (.ref e) "enumerate" := ⟨_, he, rfl⟩
  unfold pyNext
  refine wpAny_bind (wpAny_attempt (wpAny_callSpecial?_slot (name := Str.ofString "__next__") hT PySem.F.slot_enumerate_next
    (wpAny_call_entry PySem.F.slot_enumerate_next hT PySem.F.entry_enumerate_next ?_ (PySem.F.args_enumerate_next_1 _))))
  show wpAny _ _ (field (.ref e) 2 >>= _) _ _ _
  refine wpAny_bind (wpAny_field he rfl (x := .ref it) rfl ?_)
  refine wpAny_bind (nextOf_end_q (A := A.in1) hq hit hl hx fun h' x he' hx' => ?_)
  obtain ⟨o, ho, hc⟩ := hx'
  refine wpAny_bind (wpAny_isInstance (T := "StopIteration") (b := true) ⟨o, ho, hc⟩ isSubtype_stop ?_)
  exact wpAny_pure (hQ _ he')
end
end QQ
namespace L2
open PySem PySem.Spec PyProof.Rows QQ
/-! ### enumerate -/
def Ite (K : PySem.W.Frag) (a : Addr) : It :=
  ⟨fun i H => ∃ xs x, SqL K H a xs ∧ xs[i]? = some x, fun i H v H' => ∃ p x, H p = none ∧ v = .ref p ∧ H' = upd H p (.tup [.int (i : Int), x]) ∧ ∀ xs, SqL K H a xs → xs[i]? = some x, fun i H => ∃ xs, SqL K H a xs ∧ xs.length ≤ i⟩
theorem turn_enum {P : Program} {w : World} {K : PySem.W.Frag} {es : List Expr} {k : Nat} {pos : Pos} (a e it : Addr) (hne : e ≠ it) :
    Turn P w K (.Tuple es k pos) (Ite K a) [e, it] e (fun i h => (∃ old, IsEnum h e it ((i : Nat) : Int) old) ∧ h.IsListIter it a i) where
  mem := by simp
  obj := fun i h st b hb => by
    obtain ⟨⟨old, he⟩, hit⟩ := st
    rcases List.mem_cons.mp hb with hb | hb
    · subst hb
      exact ⟨_, he, fun v z => by
        have z' : Data.fields _ = Data.cell v := z
        cases z'⟩
    · obtain rfl := List.mem_singleton.mp hb
      obtain ⟨o, e', c, d⟩ := hit
      exact ⟨o, e', fun v z => by rw [d] at z; cases z⟩
  keep := fun i h h' st k => by
    obtain ⟨⟨old, he⟩, hit⟩ := st
    exact ⟨⟨old, k e (by simp) _ he⟩, hit.at fun o x => k it (by simp) o x⟩
  item := by
    intro X hP hw hK hc i pins s σ H E I hf st hg
    subst hP hw hK
    obtain ⟨⟨old, he⟩, hit⟩ := st
    obtain ⟨xs, x, hq, hx⟩ := hg
    obtain ⟨its, rv, p, hz⟩ := I.list hq
    obtain ⟨u, hu, ru⟩ := rv.get hx
    obtain ⟨e0, e1, e2, e3, e4, e5⟩ := hf e (by simp)
    obtain ⟨f0, f1, f2, f3, f4, f5⟩ := hf it (by simp)
    have elt : e < s.heap.objs.size := Heap.lt_size he
    have ilt : it < s.heap.objs.size := by obtain ⟨o, e', _⟩ := id hit; exact Heap.lt_size e'
    have hT : H s.heap.objs.size = none := I.hok.fresh (Nat.le_refl _)
    refine wpAny_pyNext_enum_item he hit p.isList (x := u) (by simpa using hu) hne fun h1 ho hit1 ht hsz kk => ?_
    refine ⟨_, rfl, wpAny_letOwnedTupleGo_enum (s := { s with heap := h1, toks := s.toks + 1 }) ho fun h2 he2 hs2 => ?_⟩
    have kept : ∀ b o, b ≠ e → b ≠ it → s.heap.get? b = some o → h2.get? b = some o := fun b o n1 n2 x => (hs2.2 b n1).trans (kk b o n1 n2 x)
    have htup : h2.get? s.heap.objs.size = some { cls := .type "tuple", data := .seq #[.int i s.toks, u] } := (hs2.2 _ (Nat.ne_of_gt elt)).trans ht
    have hT2 : ∀ b o, s.heap.get? b = some o → b ≠ s.heap.objs.size := fun b o x => Nat.ne_of_lt (Heap.lt_size x)
    have nT : ∀ b o, H b = some o → b ≠ s.heap.objs.size := fun b o x z => by rw [z, hT] at x; cases x
    have nE : ∀ b o, H b = some o → b ≠ e ∧ b ≠ it := fun b o x => ⟨fun z => (by rw [z, e0] at x; cases x), fun z => (by rw [z, f0] at x; cases x)⟩
    have he3 : IsEnum h2 e it (((i + 1 : Nat) : Int)) u := by
      have : (((i + 1 : Nat) : Int)) = (i : Int) + 1 := by omega
      rw [this]; exact he2
    have hit2 : h2.IsListIter it a (i + 1) := hit1.at fun o x => (hs2.2 it hne.symm).trans x
    have I2 : Inv X pins σ (upd H s.heap.objs.size (.tup [.int (i : Int), x])) { s with heap := h2, toks := s.toks + 1 } := by
      refine I.step (g' := s.gens) (d' := s.drawn) (ch := [e, it]) (fun b hb => ?_) (fun b o _ _ hb x _ => kept b o (fun z => hb (by simp [z])) (fun z => hb (by simp [z])) x)
        (fun b o _ _ hb x _ => ⟨o.slots, kept b o (fun z => hb (by simp [z])) (fun z => hb (by simp [z])) x⟩) (fun b o _ x n => by rw [upd_ne (hT2 b o x)]; exact n)
        (fun b o hb x => ⟨o, kept b o (fun z => hb (by simp [z])) (fun z => hb (by simp [z])) x⟩) (fun b xs x => by rw [upd_ne (nT b _ x)]; exact x) (fun b o u x => by rw [upd_ne (nT b _ x)]; exact x)
        (fun b ps x => ⟨#[], by rw [upd_ne (nT b _ x), x]; simp⟩) (fun m hm => ?_) (fun b o x => ?_) I.bare
      · rcases List.mem_cons.mp hb with hb | hb
        · subst hb; exact ⟨e3, e1, e4, e5⟩
        · obtain rfl := List.mem_singleton.mp hb
          exact ⟨f3, f1, f4, f5⟩
      · obtain ⟨o, es', ep, ho', r⟩ := hm
        exact ⟨o, es', ep, kept _ o (Ne.symm e1) (Ne.symm f1) ho', r⟩
      · by_cases hb : b = s.heap.objs.size
        · subst hb
          rw [upd_same] at x
          cases x
          exact ⟨by show 2 ≤ sizeLine; decide, [.int i s.toks, u], .cons ⟨_, rfl⟩ (.cons ru .nil), ⟨_, htup, rfl, _, rfl⟩⟩
        · rw [upd_ne hb] at x
          refine (I.hok b o x).stay (fun c v hc' q => ?_) (fun c q => by rw [upd_ne (nT c _ q)]; exact q) fun c xs q => by rw [upd_ne (nT c _ q)]; exact q
          rcases hc' with z | z
          · subst z; exact kept c v (nE c _ x).1 (nE c _ x).2 q
          · exact kept c v (nE c _ z).1 (nE c _ z).2 q
    refine ⟨.ref s.heap.objs.size, _, I2, rfl, ⟨_, x, hT, rfl, rfl, fun ys hy => by rw [I.list_inj hy hq]; exact hx⟩, ⟨⟨u, he3⟩, hit2⟩, fun b hb => ?_⟩
    rcases List.mem_cons.mp hb with hb | hb
    · subst hb; rw [upd_ne (Nat.ne_of_lt elt)]; exact e0
    · obtain rfl := List.mem_singleton.mp hb
      rw [upd_ne (Nat.ne_of_lt ilt)]; exact f0
  done := by
    intro X hP hw hK hc i pins s σ H E I hf st hg
    subst hP hw hK
    obtain ⟨⟨old, he⟩, hit⟩ := st
    obtain ⟨xs, hq, hx⟩ := hg
    obtain ⟨its, rv, p, hz⟩ := I.list hq
    obtain ⟨f0, f1, f2, f3, f4, f5⟩ := hf it (by simp)
    have hl := rv.length
    exact enum_end_q I.hq he hit p.isList (by simp; omega) fun h' eb => ⟨rfl, I.turned (t' := s.toks) (fun b o hb e => eb b o hb e) f0 f1 f3 f4 f5⟩
  self := fun _ _ _ _ _ st h => by
    obtain ⟨⟨old, he⟩, hit⟩ := st
    exact wpAny_pyIter_enum he h
def iEnum (K : PySem.W.Frag) (ta : TA) : TI := fun σ H R => ta σ H fun vs H1 => ∃ l xs, vs = [.ref l] ∧ SqL K H1 l xs ∧ R (Ite K l) H1
theorem pi_enum {X : Cx} {a : Expr} {ta : TA} {p pos q : Pos} {es : List Expr} {k : Nat} (hg : Gl X "enumerate") (hm : X.mg "enumerate" = none) (ha : PA X [a] ta) (hs : starEach [a] X.env = [(false, eval a X.env)] := by rfl) :
    PI X (.Tuple es k q) (.Call (.Name "enumerate" p) [a] [] pos) (iEnum X.K ta) := by
  intro pins s σ H R I h
  refine Call_ (ld_blt I hg hm boot_enumerate (PyProof.Rows.callWith_type1 (thn (ha pos pins s σ H _ I h) fun us s1 ⟨vs, H1, I1, r1, q1⟩ => ?_) hs rfl))
  obtain ⟨l, xs, e, hq, q⟩ := q1
  subst e
  cases r1 with
  | cons r rr =>
    cases rr
    cases r
    obtain ⟨its, rv, p, hz⟩ := I1.list hq
    refine call_enumerate_list p.isList fun h' he hit hsz hk => ?_
    have I2 : Inv X pins σ H1 { s1 with heap := h' } := I1.kept (t' := s1.toks) hk
    refine wpAny_pyIter_enum he ⟨s1.heap.objs.size + 1, [s1.heap.objs.size + 1, s1.heap.objs.size], _, _, H1, rfl, I2, turn_enum l _ _ (Nat.succ_ne_self _), ⟨⟨_, he⟩, hit⟩, fun b hb => ?_, q⟩
    have hb' : s1.heap.objs.size ≤ b := by
      rcases List.mem_cons.mp hb with hb | hb
      · rw [hb]; exact Nat.le_succ _
      · rw [List.mem_singleton.mp hb]; exact Nat.le_refl _
    exact I1.fpOk hb' (I1.hok.fresh hb')
theorem comp_en {K : PySem.W.Frag} {a l : Addr} {xs : List V} {n : Nat} {g : TG} {te : TE} {R : Hp → Prop} {H1 : Hp} (Pv : Nat → List V → Hp → Prop) (h0 : Pv 0 [] (upd H1 l (.lst []))) (hl : ∀ i ys H, i ≤ xs.length → Pv i ys H → SqL K H a xs)
    (hs : ∀ i x ys σ H p, xs[i]? = some x → Pv i ys H → σ.length = n → H p = none → g (.ref p) σ (upd H p (.tup [.int ((i : Nat) : Int), x])) fun σ3 H3 => te σ3 H3 fun y H4 => H4 l = some (.lst ys) ∧ ys.length < sizeLine ∧ σ3.length = n ∧ Pv (i + 1) (ys ++ [y]) (upd H4 l (.lst (ys ++ [y]))))
    (hd : ∀ ys H, Pv xs.length ys H → R H) (mg : ∀ x σ H (A B : St → Hp → Prop), (∀ σ' H', A σ' H' → B σ' H') → g x σ H A → g x σ H B) (mt : ∀ σ H (A B : VK), (∀ v H', A v H' → B v H') → te σ H A → te σ H B) :
    ∃ W : Nat → Nat → List V → St → Hp → Prop, (∃ m, W 0 m [] (List.replicate n none) (upd H1 l (.lst []))) ∧ ∀ i m ys σ' H', W i m ys σ' H' →
      ((Ite K a).stop i H' ∧ R H') ∨ ((Ite K a).go i H' ∧ ∀ x H2, (Ite K a).yld i H' x H2 → g x σ' H2 fun σ3 H3 => te σ3 H3 fun y H4 =>
        H4 l = some (.lst ys) ∧ ys.length < sizeLine ∧ ∃ m', m' < m ∧ W (i + 1) m' (ys ++ [y]) σ3 (upd H4 l (.lst (ys ++ [y])))) := by
  refine ⟨fun i m ys σ H => m = xs.length - i ∧ i ≤ xs.length ∧ σ.length = n ∧ Pv i ys H, ⟨xs.length, by simp, Nat.zero_le _, List.length_replicate, h0⟩, ?_⟩
  rintro i m ys σ H ⟨rfl, hi, hn, p⟩
  have q := hl i ys H hi p
  by_cases hlt : i < xs.length
  · refine .inr ⟨⟨xs, xs[i], q, by simp [hlt]⟩, fun x H' y => ?_⟩
    obtain ⟨p1, x1, hp1, e1, e2, y⟩ := y
    subst e1 e2
    exact mg _ _ _ _ _ (fun σ3 H3 z => mt _ _ _ _ (fun y H4 ⟨z1, z2, z3, z4⟩ => ⟨z1, z2, xs.length - (i + 1), by omega, rfl, hlt, z3, z4⟩) z) (hs i x1 ys σ _ p1 (y xs q) p hn hp1)
  · have e : i = xs.length := by omega
    subst e
    exact .inl ⟨⟨xs, q, Nat.le_refl _⟩, hd ys H p⟩

/-- with a test -/
theorem compI_en {K : PySem.W.Frag} {a l : Addr} {xs : List V} {n : Nat} {g : TG} {tt : TT} {te : TE} {R : Hp → Prop} {H1 : Hp} (Pv : Nat → List V → Hp → Prop) (h0 : Pv 0 [] (upd H1 l (.lst []))) (hl : ∀ i ys H, i ≤ xs.length → Pv i ys H → SqL K H a xs)
    (hs : ∀ i x ys σ H p, xs[i]? = some x → Pv i ys H → σ.length = n → H p = none → g (.ref p) σ (upd H p (.tup [.int ((i : Nat) : Int), x])) fun σ3 H3 => tt σ3 H3 fun c H5 => if c = true then te σ3 H5 fun y H4 => H4 l = some (.lst ys) ∧ ys.length < sizeLine ∧ σ3.length = n ∧ Pv (i + 1) (ys ++ [y]) (upd H4 l (.lst (ys ++ [y]))) else σ3.length = n ∧ Pv (i + 1) ys H5)
    (hd : ∀ ys H, Pv xs.length ys H → R H) (mg : ∀ x σ H (A B : St → Hp → Prop), (∀ σ' H', A σ' H' → B σ' H') → g x σ H A → g x σ H B) (mtt : ∀ σ H (A B : Bool → Hp → Prop), (∀ v H', A v H' → B v H') → tt σ H A → tt σ H B) (mt : ∀ σ H (A B : VK), (∀ v H', A v H' → B v H') → te σ H A → te σ H B) :
    ∃ W : Nat → Nat → List V → St → Hp → Prop, (∃ m, W 0 m [] (List.replicate n none) (upd H1 l (.lst []))) ∧ ∀ i m ys σ' H', W i m ys σ' H' →
      ((Ite K a).stop i H' ∧ R H') ∨ ((Ite K a).go i H' ∧ ∀ x H2, (Ite K a).yld i H' x H2 → g x σ' H2 fun σ3 H3 => tt σ3 H3 fun c H5 => if c = true then te σ3 H5 fun y H4 =>
        H4 l = some (.lst ys) ∧ ys.length < sizeLine ∧ ∃ m', m' < m ∧ W (i + 1) m' (ys ++ [y]) σ3 (upd H4 l (.lst (ys ++ [y]))) else ∃ m', m' < m ∧ W (i + 1) m' ys σ3 H5) := by
  refine ⟨fun i m ys σ H => m = xs.length - i ∧ i ≤ xs.length ∧ σ.length = n ∧ Pv i ys H, ⟨xs.length, by simp, Nat.zero_le _, List.length_replicate, h0⟩, ?_⟩
  rintro i m ys σ H ⟨rfl, hi, hn, p⟩
  have q := hl i ys H hi p
  by_cases hlt : i < xs.length
  · refine .inr ⟨⟨xs, xs[i], q, by simp [hlt]⟩, fun x H' y => ?_⟩
    obtain ⟨p1, x1, hp1, e1, e2, y⟩ := y
    subst e1 e2
    refine mg _ _ _ _ _ (fun σ3 H3 z => mtt _ _ _ _ (fun c H5 z => ?_) z) (hs i x1 ys σ _ p1 (y xs q) p hn hp1)
    cases c with
    | true =>
      rw [if_pos rfl] at z ⊢
      exact mt _ _ _ _ (fun y H4 ⟨z1, z2, z3, z4⟩ => ⟨z1, z2, xs.length - (i + 1), by omega, rfl, hlt, z3, z4⟩) z
    | false =>
      rw [if_neg Bool.false_ne_true] at z ⊢
      exact ⟨xs.length - (i + 1), by omega, rfl, hlt, z.1, z.2⟩
  · have e : i = xs.length := by omega
    subst e
    exact .inl ⟨⟨xs, q, Nat.le_refl _⟩, hd ys H p⟩
end L2

set_option Elab.async false
set_option linter.all false
set_option maxRecDepth 100000
set_option maxHeartbeats 4000000
namespace L2
open PySem PySem.Spec PyProof.Rows QQ
/-! ### comprehensions over zip -/
theorem comp_zip {K : PySem.W.Frag} {a b l : Addr} {xs zs : List V} {n : Nat} {g : TG} {te : TE} {R : Hp → Prop} {H1 : Hp} (Pv : Nat → List V → Hp → Prop) (hlen : xs.length = zs.length) (h0 : Pv 0 [] (upd H1 l (.lst []))) (hl : ∀ i ys H, i ≤ xs.length → Pv i ys H → SqL K H a xs ∧ SqL K H b zs)
    (hs : ∀ i x z ys σ H p, xs[i]? = some x → zs[i]? = some z → Pv i ys H → σ.length = n → H p = none → g (.ref p) σ (upd H p (.tup [x, z])) fun σ3 H3 => te σ3 H3 fun y H4 => H4 l = some (.lst ys) ∧ ys.length < sizeLine ∧ σ3.length = n ∧ Pv (i + 1) (ys ++ [y]) (upd H4 l (.lst (ys ++ [y]))))
    (hd : ∀ ys H, Pv xs.length ys H → R H) (mg : ∀ x σ H (A B : St → Hp → Prop), (∀ σ' H', A σ' H' → B σ' H') → g x σ H A → g x σ H B) (mt : ∀ σ H (A B : VK), (∀ v H', A v H' → B v H') → te σ H A → te σ H B) :
    ∃ W : Nat → Nat → List V → St → Hp → Prop, (∃ m, W 0 m [] (List.replicate n none) (upd H1 l (.lst []))) ∧ ∀ i m ys σ' H', W i m ys σ' H' →
      ((Itz K a b).stop i H' ∧ R H') ∨ ((Itz K a b).go i H' ∧ ∀ x H2, (Itz K a b).yld i H' x H2 → g x σ' H2 fun σ3 H3 => te σ3 H3 fun y H4 =>
        H4 l = some (.lst ys) ∧ ys.length < sizeLine ∧ ∃ m', m' < m ∧ W (i + 1) m' (ys ++ [y]) σ3 (upd H4 l (.lst (ys ++ [y])))) := by
  refine ⟨fun i m ys σ H => m = xs.length - i ∧ i ≤ xs.length ∧ σ.length = n ∧ Pv i ys H, ⟨xs.length, by simp, Nat.zero_le _, List.length_replicate, h0⟩, ?_⟩
  rintro i m ys σ H ⟨rfl, hi, hn, p⟩
  obtain ⟨q1, q2⟩ := hl i ys H hi p
  by_cases hlt : i < xs.length
  · have hlt2 : i < zs.length := by omega
    refine .inr ⟨⟨xs, zs, xs[i], zs[i], q1, q2, by simp [hlt], by simp [hlt2]⟩, fun x H' y => ?_⟩
    obtain ⟨p1, x1, z1, hp1, e1, e2, y1, y2⟩ := y
    subst e1 e2
    exact mg _ _ _ _ _ (fun σ3 H3 z => mt _ _ _ _ (fun y H4 ⟨z1, z2, z3, z4⟩ => ⟨z1, z2, xs.length - (i + 1), by omega, rfl, hlt, z3, z4⟩) z) (hs i x1 z1 ys σ _ p1 (y1 xs q1) (y2 zs q2) p hn hp1)
  · have e : i = xs.length := by omega
    subst e
    exact .inl ⟨⟨xs, zs, q1, q2, .inl (Nat.le_refl _)⟩, hd ys H p⟩
theorem compI_zip {K : PySem.W.Frag} {a b l : Addr} {xs zs : List V} {n : Nat} {g : TG} {tt : TT} {te : TE} {R : Hp → Prop} {H1 : Hp} (Pv : Nat → List V → Hp → Prop) (hlen : xs.length = zs.length) (h0 : Pv 0 [] (upd H1 l (.lst []))) (hl : ∀ i ys H, i ≤ xs.length → Pv i ys H → SqL K H a xs ∧ SqL K H b zs)
    (hs : ∀ i x z ys σ H p, xs[i]? = some x → zs[i]? = some z → Pv i ys H → σ.length = n → H p = none → g (.ref p) σ (upd H p (.tup [x, z])) fun σ3 H3 => tt σ3 H3 fun c H5 => if c = true then te σ3 H5 fun y H4 => H4 l = some (.lst ys) ∧ ys.length < sizeLine ∧ σ3.length = n ∧ Pv (i + 1) (ys ++ [y]) (upd H4 l (.lst (ys ++ [y]))) else σ3.length = n ∧ Pv (i + 1) ys H5)
    (hd : ∀ ys H, Pv xs.length ys H → R H) (mg : ∀ x σ H (A B : St → Hp → Prop), (∀ σ' H', A σ' H' → B σ' H') → g x σ H A → g x σ H B) (mtt : ∀ σ H (A B : Bool → Hp → Prop), (∀ v H', A v H' → B v H') → tt σ H A → tt σ H B) (mt : ∀ σ H (A B : VK), (∀ v H', A v H' → B v H') → te σ H A → te σ H B) :
    ∃ W : Nat → Nat → List V → St → Hp → Prop, (∃ m, W 0 m [] (List.replicate n none) (upd H1 l (.lst []))) ∧ ∀ i m ys σ' H', W i m ys σ' H' →
      ((Itz K a b).stop i H' ∧ R H') ∨ ((Itz K a b).go i H' ∧ ∀ x H2, (Itz K a b).yld i H' x H2 → g x σ' H2 fun σ3 H3 => tt σ3 H3 fun c H5 => if c = true then te σ3 H5 fun y H4 =>
        H4 l = some (.lst ys) ∧ ys.length < sizeLine ∧ ∃ m', m' < m ∧ W (i + 1) m' (ys ++ [y]) σ3 (upd H4 l (.lst (ys ++ [y]))) else ∃ m', m' < m ∧ W (i + 1) m' ys σ3 H5) := by
  refine ⟨fun i m ys σ H => m = xs.length - i ∧ i ≤ xs.length ∧ σ.length = n ∧ Pv i ys H, ⟨xs.length, by simp, Nat.zero_le _, List.length_replicate, h0⟩, ?_⟩
  rintro i m ys σ H ⟨rfl, hi, hn, p⟩
  obtain ⟨q1, q2⟩ := hl i ys H hi p
  by_cases hlt : i < xs.length
  · have hlt2 : i < zs.length := by omega
    refine .inr ⟨⟨xs, zs, xs[i], zs[i], q1, q2, by simp [hlt], by simp [hlt2]⟩, fun x H' y => ?_⟩
    obtain ⟨p1, x1, z1, hp1, e1, e2, y1, y2⟩ := y
    subst e1 e2
    refine mg _ _ _ _ _ (fun σ3 H3 z => mtt _ _ _ _ (fun c H5 z => ?_) z) (hs i x1 z1 ys σ _ p1 (y1 xs q1) (y2 zs q2) p hn hp1)
    cases c with
    | true =>
      rw [if_pos rfl] at z ⊢
      exact mt _ _ _ _ (fun y H4 ⟨z1, z2, z3, z4⟩ => ⟨z1, z2, xs.length - (i + 1), by omega, rfl, hlt, z3, z4⟩) z
    | false =>
      rw [if_neg Bool.false_ne_true] at z ⊢
      exact ⟨xs.length - (i + 1), by omega, rfl, hlt, z.1, z.2⟩
  · have e : i = xs.length := by omega
    subst e
    exact .inl ⟨⟨xs, zs, q1, q2, .inl (Nat.le_refl _)⟩, hd ys H p⟩
/-! ### a list of numbers in a list of such -/
theorem eqAt_lstG {X : Cx} {pins : List (Addr × Obj)} {σ : St} {H : Hp} {s : Shared} (I : Inv X pins σ H s) {a b : Addr} {ns ms : List Int} (ha : SqL X.K H a (ns.map V.int)) (hb : SqL X.K H b (ms.map V.int)) {A : Around} (hu : A.units < cLine) : SeqAt.EqAt A s (.ref a) (.ref b) (decide (ns = ms)) := by
  by_cases e : ns = ms
  · subst e
    rw [decide_eq_true rfl]
    exact eqAt_lst I ha hb hu
  rw [decide_eq_false e]
  have hab : a ≠ b := fun z => by
    subst z
    have q := I.list_inj ha hb
    exact e (List.map_inj_right (fun x y h => V.int.inj h) |>.mp q)
  obtain ⟨its, rv, pl, hz⟩ := I.list ha
  obtain ⟨its2, rv2, pl2, hz2⟩ := I.list hb
  have l1 := rv.length
  have l2 := rv2.length
  rw [List.length_map] at l1 l2
  refine .of_refs hab ?_
  by_cases hl : ns.length = ms.length
  · have R := SeqAt.RcAt.lists (A := A) (e := fun j => decide (ns[j]? = ms[j]?)) pl.isList pl2.isList (by rw [List.size_toArray, List.size_toArray]; omega) hu (fun j h1 h2 => ?_)
    · have e2 : (List.range its.toArray.size).all (fun j => decide (ns[j]? = ms[j]?)) = false := by
        cases z : (List.range its.toArray.size).all (fun j => decide (ns[j]? = ms[j]?)) with
        | false => rfl
        | true =>
          refine absurd (List.ext_getElem? fun i => ?_) e
          by_cases hi : i < ns.length
          · exact of_decide_eq_true (List.all_eq_true.mp z i (List.mem_range.mpr (by rw [List.size_toArray]; omega)))
          · rw [List.getElem?_eq_none (by omega), List.getElem?_eq_none (by omega)]
      rw [e2] at R
      exact R
    · have j1 : j < ns.length := by simp at h1; omega
      have j2 : j < ms.length := by omega
      obtain ⟨u1, e1, r1⟩ := rv.get (i := j) (x := .int ns[j]) (by simp [j1])
      obtain ⟨u2, e2, r2⟩ := rv2.get (i := j) (x := .int ms[j]) (by simp [j2])
      have g1 : its.toArray[j] = u1 := by
        obtain ⟨_, z⟩ := List.getElem?_eq_some_iff.mp e1
        simpa using z
      have g2 : its2.toArray[j] = u2 := by
        obtain ⟨_, z⟩ := List.getElem?_eq_some_iff.mp e2
        simpa using z
      have hh : eqV (V.int ns[j]) (V.int ms[j]) = decide (ns[j]? = ms[j]?) := by
        rw [List.getElem?_eq_getElem j1, List.getElem?_eq_getElem j2]
        show (ns[j] == ms[j]) = _
        rw [Bool.eq_iff_iff, beq_iff_eq, decide_eq_true_iff]
        exact ⟨fun z => by rw [z], fun z => Option.some.inj z⟩
      rw [g1, g2]
      show SeqAt.EqAt A.in1 s u1 u2 (decide (ns[j]? = ms[j]?))
      rw [← hh]
      exact eqAt_V r1 r2 rfl rfl
  · exact SeqAt.RcAt.lists_lengths pl.isList pl2.isList (by rw [List.size_toArray, List.size_toArray, bne_iff_ne]; omega) hu
/-- the rows are lists of numbers, and this one is among them -/
def rInLL (K : PySem.W.Frag) : R2 := fun x y H Q => ∃ (p q : Addr) (ns : List Int) (ts : List Addr) (Rs : List (List Int)), x = .ref p ∧ y = .ref q ∧ SqL K H p (ns.map V.int) ∧ SqL K H q (ts.map V.ref) ∧ ts.length = Rs.length ∧ (∀ (i : Nat) (t : Addr) (r : List Int), ts[i]? = some t → Rs[i]? = some r → SqL K H t (r.map V.int)) ∧ ns ∈ Rs ∧ Q (.bl true) H
theorem op_inLL {X : Cx} (hu : X.A.units + 64 < cLine) : OpR X (compareOp .In) (rInLL X.K) := by
  intro pins s σ H x y v u Q I rx ry h
  obtain ⟨p, q, ns, ts, Rs, rfl, rfl, hp, hq, hl, hi, hm, k⟩ := h
  cases rx
  cases ry
  obtain ⟨its, rv, pl, hz⟩ := I.list hq
  have l1 := rv.length
  rw [List.length_map] at l1
  have key : ∀ j (hj : j < its.length), ∃ (t : Addr) (r : List Int), its[j] = .ref t ∧ Rs[j]? = some r ∧ SqL X.K H t (r.map V.int) := fun j hj => by
    have k1 : j < ts.length := by omega
    have k2 : j < Rs.length := by omega
    obtain ⟨u1, e1, r1⟩ := rv.get (i := j) (x := .ref ts[j]) (by simp [k1])
    cases r1
    refine ⟨ts[j], Rs[j], ?_, by simp [k2], hi j _ _ (by simp [k1]) (by simp [k2])⟩
    obtain ⟨_, z⟩ := List.getElem?_eq_some_iff.mp e1
    exact z
  refine SeqAt.in_listAt (fun v => @decide (∃ t, v = .ref t ∧ SqL X.K H t (ns.map V.int)) (Classical.propDecidable _)) pl.isList (fun w hw => ?_) ⟨.bl true, H, I, ?_, k⟩
  · have hw' : w ∈ its := by simpa using hw
    obtain ⟨j, hj, rfl⟩ := List.getElem_of_mem hw'
    obtain ⟨t, r, e1, e2, e3⟩ := key j hj
    rw [e1]
    have R := eqAt_lstG I e3 hp (A := X.A.in1) (by show X.A.units + 1 < _; omega)
    have e4 : decide (r = ns) = @decide (∃ t', Value.ref t = .ref t' ∧ SqL X.K H t' (ns.map V.int)) (Classical.propDecidable _) := by
      by_cases h : r = ns
      · subst h
        rw [decide_eq_true rfl]
        exact (@decide_eq_true _ (Classical.propDecidable _) ⟨t, rfl, e3⟩).symm
      · rw [decide_eq_false h]
        refine (@decide_eq_false _ (Classical.propDecidable _) ?_).symm
        rintro ⟨t', z1, z2⟩
        cases z1
        exact h (List.map_inj_right (fun x y h => V.int.inj h) |>.mp (I.list_inj e3 z2))
    rw [e4] at R
    exact R
  · show Value.bool _ = Value.bool _
    congr 1
    rw [List.any_toArray, List.any_eq_true]
    obtain ⟨j, hj, e⟩ := List.getElem_of_mem hm
    have hj2 : j < its.length := by omega
    obtain ⟨t, r, e1, e2, e3⟩ := key j hj2
    have : r = ns := by
      rw [List.getElem?_eq_getElem hj] at e2
      exact (Option.some.inj e2).symm.trans e
    subst this
    exact ⟨_, List.getElem_mem hj2, @decide_eq_true _ (Classical.propDecidable _) ⟨t, e1, e3⟩⟩
/-! ### list.insert -/
section
variable {X : Cx}
def rInsert : V → List V → Hp → VK → Prop := fun x vs H Q => ∃ (l : Addr) (xs : List V) (i : Nat) (y : V), x = .ref l ∧ vs = [.int ((i : Nat) : Int), y] ∧ H l = some (.lst xs) ∧ i ≤ xs.length ∧ xs.length < sizeLine ∧ Q .non (upd H l (.lst (xs.take i ++ y :: xs.drop i)))
theorem mt_insert : MtM X "list.insert" rInsert := by
  intro pins s σ H x vs v us Q I rx rv h
  obtain ⟨l, xs, i, y, rfl, rfl, hH, hi, hz, q⟩ := h
  cases rx
  obtain ⟨u1, u, rfl, r1, r2⟩ := vals2 rv
  obtain ⟨t, rfl⟩ := r1
  obtain ⟨z, its, n, r, hl, e⟩ := I.lstM hH
  obtain ⟨x, hx⟩ : ∃ x : Int, x = ((i : Nat) : Int) := ⟨_, rfl⟩
  rw [← hx]
  have hi2 : x < 2 ^ 63 := by
    have : i < sizeLine := by omega
    have hsl : sizeLine ≤ 16777216 := by decide
    omega
  have hf : ¬(!Builtin.List.listFitsIndex x) = true := by
    rw [fitsIndex_both (by omega) hi2]; exact fun z => nomatch z
  have hs1 : its.toArray.size ≤ sizeLine := by rw [List.size_toArray]; omega
  have mt := PySem.AutoSeq1.list_insert_list_int_val_1 l its.toArray n x t u hf hs1
  refine call_meets F.slot_list_insert ⟨_, e, rfl⟩ F.entry_list_insert (F.args_list_insert_3 (.ref l) (.int x t) u) mt ⟨e, ?_⟩
  refine ⟨.non, _, I.lset (its' := its.take i ++ u :: its.drop i) hH e ?_ ((r.take i).append (.cons r2 (r.drop i))) ?_, rfl, q⟩
  · have hk : (if x < 0 then (x + (its.toArray.size : Int)).toNat else min x.toNat its.toArray.size) = i := by
      rw [if_neg (by omega), hx, Int.toNat_natCast, List.size_toArray]; omega
    show (its.toArray.extract 0 (if x < 0 then (x + (its.toArray.size : Int)).toNat else min x.toNat its.toArray.size)).push u ++ its.toArray.extract (if x < 0 then (x + (its.toArray.size : Int)).toNat else min x.toNat its.toArray.size) = _
    rw [hk, ← Array.toList_inj]
    simp [List.extract_eq_drop_take, List.take_of_length_le]
  · rw [List.length_append, List.length_cons, List.length_take, List.length_drop]
    omega
end
end L2
namespace L2
open PySem PySem.Spec PyProof.Rows QQ
/-- over a list, the captured names as they are -/
theorem compC_li {K : PySem.W.Frag} {a l : Addr} {xs : List V} {σ0 : St} {g : TG} {te : TE} {R : Hp → Prop} {H1 : Hp} (Pv : Nat → List V → St → Hp → Prop) (h0 : Pv 0 [] σ0 (upd H1 l (.lst []))) (hl : ∀ i ys σ H, i ≤ xs.length → Pv i ys σ H → SqL K H a xs)
    (hs : ∀ i x ys σ H, xs[i]? = some x → Pv i ys σ H → g x σ H fun σ3 H3 => te σ3 H3 fun y H4 => H4 l = some (.lst ys) ∧ ys.length < sizeLine ∧ Pv (i + 1) (ys ++ [y]) σ3 (upd H4 l (.lst (ys ++ [y]))))
    (hd : ∀ ys σ H, Pv xs.length ys σ H → R H) (mg : ∀ x σ H (A B : St → Hp → Prop), (∀ σ' H', A σ' H' → B σ' H') → g x σ H A → g x σ H B) (mt : ∀ σ H (A B : VK), (∀ v H', A v H' → B v H') → te σ H A → te σ H B) :
    ∃ W : Nat → Nat → List V → St → Hp → Prop, (∃ m, W 0 m [] σ0 (upd H1 l (.lst []))) ∧ ∀ i m ys σ' H', W i m ys σ' H' →
      ((Itl K a).stop i H' ∧ R H') ∨ ((Itl K a).go i H' ∧ ∀ x H2, (Itl K a).yld i H' x H2 → g x σ' H2 fun σ3 H3 => te σ3 H3 fun y H4 =>
        H4 l = some (.lst ys) ∧ ys.length < sizeLine ∧ ∃ m', m' < m ∧ W (i + 1) m' (ys ++ [y]) σ3 (upd H4 l (.lst (ys ++ [y])))) := by
  refine ⟨fun i m ys σ H => m = xs.length - i ∧ i ≤ xs.length ∧ Pv i ys σ H, ⟨xs.length, by simp, Nat.zero_le _, h0⟩, ?_⟩
  rintro i m ys σ H ⟨rfl, hi, p⟩
  have q := hl i ys σ H hi p
  by_cases hlt : i < xs.length
  · refine .inr ⟨⟨xs, xs[i], q, by simp [hlt]⟩, fun x H' y => ?_⟩
    obtain ⟨e, y⟩ := y
    subst e
    exact mg _ _ _ _ _ (fun σ3 H3 z => mt _ _ _ _ (fun y H4 ⟨z1, z2, z4⟩ => ⟨z1, z2, xs.length - (i + 1), by omega, rfl, hlt, z4⟩) z) (hs i x ys σ _ (y xs q) p)
  · have e : i = xs.length := by omega
    subst e
    exact .inl ⟨⟨xs, q, Nat.le_refl _⟩, hd ys σ H p⟩
end L2

set_option Elab.async false
set_option linter.all false
set_option maxRecDepth 100000
set_option maxHeartbeats 4000000
namespace L2
open PySem PySem.Spec PyProof.Rows QQ
/-! ### one of two readings -/
theorem PE.either {X : Cx} {e : Expr} {t u : TE} (h : PE X e t) (g : PE X e u) : PE X e (fun σ H Q => t σ H Q ∨ u σ H Q) := by
  intro pins s σ H Q I z
  rcases z with z | z
  · exact h pins s σ H Q I z
  · exact g pins s σ H Q I z
/-! ### C() without an __init__ of its own -/
structure MkB (K : PySem.W.Frag) (C : Addr) : Prop where
  makes : PySem.W.makesIn K C = true
  init : PySem.W.findIn K (.ref C) "__init__" = some (some (.builtin "object.__init__"))
  kp : PySem.W.keepIn K (.ref C) = true
def tMakeB (C : Addr) : TE := fun _ H Q => ∀ x dx, H x = none → H dx = none → dx ≠ x → Q (.ref x) (upd (upd H dx (.own x)) x (.ins C dx []))
theorem pe_makeB {X : Cx} {C : Addr} {x : Str} {p pos : Pos} (M : MkB X.K C) (hg : Gl X x) (hm : X.mg x = some (.ref C)) (hdb : (x == ("__debug__" : Str)) = false := by decide) : PE X (.Call (.Name x p) [] [] pos) (tMakeB C) := by
  intro pins s σ H Q I h
  refine wpAny_Call_Name_kw (ld_glob I hg hm ?_ hdb)
  refine PySem.W.callWith_K0 I.kIn M.kp ?_
  have I2 := Inv.made (C := C) I
  have hq := h (s.heap.objs.size + 1) s.heap.objs.size (I.hok.fresh (Nat.le_succ _)) (I.hok.fresh (Nat.le_refl _)) (Nat.ne_of_lt (Nat.lt_succ_self _))
  refine wpAny_call (make_map0 I.kIn M.makes M.init (fun self => PySem.W.Looks.of_pure (PySem.W.oi_bind self)) ?_)
  have Y := PySem.W.makes_of (M := model X.prog X.w) I.kIn M.makes
  have e2 : ((s.heap.push PySem.W.emptyDict).push (PySem.W.instObj C s.heap.objs.size)).get? (s.heap.objs.size + 1) = some (PySem.W.instObj C s.heap.objs.size) := by
    have := Heap.get?_push_size (s.heap.push PySem.W.emptyDict) (o := PySem.W.instObj C s.heap.objs.size) rfl
    rwa [Heap.size_push] at this
  have t1 : PySem.W.Looks (model X.prog X.w) ((s.heap.push PySem.W.emptyDict).push (PySem.W.instObj C s.heap.objs.size)) (typeOf (.ref (s.heap.objs.size + 1))) (.ref C) := (PySem.W.Looks.ld e2).andThen .now
  have t2 : PySem.W.Looks (model X.prog X.w) ((s.heap.push PySem.W.emptyDict).push (PySem.W.instObj C s.heap.objs.size)) (isInstance (.ref (s.heap.objs.size + 1)) (.type "object")) true := t1.andThen (Y.top.keeps fun b o e => Heap.get?_push_of_some _ (Heap.get?_push_of_some _ e))
  refine codeAny_call_builtin PySem.W.oi_plain PySem.W.entry_oi (@PySem.W.check_slot (model X.prog X.w) _ _ _ "object.__init__" "object" "__init__" (.ref (s.heap.objs.size + 1)) [] [] _ PySem.W.oi_kind PySem.W.oi_split t2 (PySem.W.oi_args (.ref (s.heap.objs.size + 1))) ?_)
  rw [PySem.W.oi_run]
  exact wpAny_pure (And.intro rfl ⟨.ref (s.heap.objs.size + 1), _, I2, rfl, hq⟩)
section
variable {X : Cx}
/-! ### isinstance of an own class -/
theorem call_isiC : CallR X (.builtin "isinstance") (fun xs H Q => ∃ (x : V) (D : Addr) (t : Value) (b : Bool), xs = [x, .ref D] ∧ TyOf X.K H x t ∧ PySem.W.kitOne X.K t (.ref D) = some b ∧ Q (.bl b) H) := by
  intro pins s σ H xs us Q I r h
  obtain ⟨x, D, t, b, rfl, ty, e, q⟩ := h
  obtain ⟨u, v, rfl, ru, rv⟩ := vals2 r
  cases rv
  exact isinst_ok I ru ty e fun tk => ⟨.bl b, H, I.tok tk, rfl, q⟩
/-! ### lists of lists of numbers, or of None, that are the same -/
def SameXs (K : PySem.W.Frag) (H : Hp) (p q : Addr) : Prop := ∃ xs ys : List V, SqL K H p xs ∧ SqL K H q ys ∧ xs.length = ys.length ∧ ∀ (i : Nat) (x y : V), xs[i]? = some x → ys[i]? = some y → (x = .non ∧ y = .non) ∨ ∃ (a b : Addr) (ns : List Int), x = .ref a ∧ y = .ref b ∧ SqL K H a (ns.map V.int) ∧ SqL K H b (ns.map V.int)
def rEqXs (K : PySem.W.Frag) : R2 := fun x y H Q => ∃ (p q : Addr), x = .ref p ∧ y = .ref q ∧ SameXs K H p q ∧ Q (.bl true) H
end
end L2

set_option Elab.async false
set_option linter.all false
set_option maxRecDepth 100000
set_option maxHeartbeats 4000000
namespace L2
open PySem PySem.Spec PyProof.Rows QQ
section
variable {X : Cx}
/-! ### list.index of a number in a list of numbers -/
def rIndex (K : PySem.W.Frag) : V → List V → Hp → VK → Prop := fun x vs H Q => ∃ (l : Addr) (ns : List Int) (k : Int) (j : Nat), x = .ref l ∧ vs = [.int k] ∧ H l = some (.lst (ns.map V.int)) ∧ ns[j]? = some k ∧ (∀ i < j, ns[i]? ≠ some k) ∧ Q (.int ((j : Nat) : Int)) H
theorem mt_index : MtR X "list.index" (rIndex X.K) := by
  intro pins s σ H x vs v us Q I rx rv h
  obtain ⟨l, ns, k, j, rfl, rfl, hH, hj, hno, q⟩ := h
  cases rx
  obtain ⟨u, rfl, ru⟩ := vals1 rv
  obtain ⟨t, rfl⟩ := ru
  obtain ⟨z, its, n, r, hl, e⟩ := I.lstM hH
  rw [List.length_map] at hl z
  have hjl : j < ns.length := (List.getElem?_eq_some_iff.mp hj).1
  have hjs : ((j : Nat) : Int) < 2 ^ 63 - 1 := by
    have hsl : sizeLine ≤ 16777216 := by decide
    omega
  have key : ∀ i (hi : i < its.length), ∃ t', its[i] = .int (ns[i]'(by omega)) t' := fun i hi => by
    have k1 : i < ns.length := by omega
    obtain ⟨u1, e1, r1⟩ := r.get (i := i) (x := .int ns[i]) (by simp [k1])
    obtain ⟨t', rfl⟩ := r1
    obtain ⟨_, z⟩ := List.getElem?_eq_some_iff.mp e1
    exact ⟨t', z⟩
  have hf : (ns.map V.int).all flatV = true := by simp [flatV]
  have ejv : ns[j] = k := by rw [List.getElem?_eq_getElem hjl] at hj; exact Option.some.inj hj
  have g := SeqAt.list_indexAt l its.toArray n none #[] (.int k t) (eqU (.int k)) j (by rw [List.size_toArray]; omega) hjs (by
      obtain ⟨t', e1⟩ := key j (by omega)
      have e2 : its.toArray[j]'(by rw [List.size_toArray]; omega) = its[j]'(by omega) := by simp
      rw [e2, e1, ejv]
      show (k == k) = true
      simp) (fun m hm hmj => by
      obtain ⟨t', e1⟩ := key m (by omega)
      have e2 : its.toArray[m] = its[m]'(by omega) := by simp
      rw [e2, e1]
      show (ns[m]'(by omega) == k) = false
      have h1 := hno m hmj
      rw [List.getElem?_eq_getElem (by omega)] at h1
      simpa using h1)
  refine call_meets F.slot_list_index ⟨_, e, rfl⟩ F.entry_list_index (F.args_list_index_2 (.ref l) (.int k t)) g ⟨e, fun y hy => mem_eqAt (x := .int k) ⟨t, rfl⟩ rfl r hf y (by simpa using hy), ?_⟩
  exact ⟨.int ((j : Nat) : Int), H, I.tok _, ⟨_, rfl⟩, q⟩
end
end L2

set_option Elab.async false
set_option linter.all false
set_option maxRecDepth 100000
set_option maxHeartbeats 4000000
namespace L2
open PySem PySem.Spec PyProof.Rows QQ
section
variable {X : Cx}
def rNeXs (K : PySem.W.Frag) : R2 := fun x y H Q => ∃ (p q : Addr), x = .ref p ∧ y = .ref q ∧ SameXs K H p q ∧ Q (.bl false) H
theorem op_neXs (hu : X.A.units + 64 < cLine) : OpR X (compareOp .NotEq) (rNeXs X.K) := by
  intro pins s σ H x y v u Q I rx ry h
  obtain ⟨p, q, rfl, rfl, ⟨xs, ys, h1, h2, hl, hi⟩, k⟩ := h
  cases rx
  cases ry
  obtain ⟨its, rv, pl, hz⟩ := I.list h1
  obtain ⟨its2, rv2, pl2, hz2⟩ := I.list h2
  have l1 := rv.length
  have l2 := rv2.length
  refine SeqAt.RcNeAt.lists (e := fun _ => true) pl.isList pl2.isList (by rw [List.size_toArray, List.size_toArray]; omega) (by omega) (fun j j1 j2 => ?_) _ _ _ _ ?_
  · have k1 : j < xs.length := by simp at j1; omega
    have k2 : j < ys.length := by omega
    obtain ⟨u1, e1, r1⟩ := rv.get (i := j) (x := xs[j]) (by simp [k1])
    obtain ⟨u2, e2, r2⟩ := rv2.get (i := j) (x := ys[j]) (by simp [k2])
    have g1 : its.toArray[j] = u1 := by
      obtain ⟨_, z⟩ := List.getElem?_eq_some_iff.mp e1
      simpa using z
    have g2 : its2.toArray[j] = u2 := by
      obtain ⟨_, z⟩ := List.getElem?_eq_some_iff.mp e2
      simpa using z
    rw [g1, g2]
    rcases hi j xs[j] ys[j] (by simp [k1]) (by simp [k2]) with ⟨z1, z2⟩ | ⟨a, b, ns, z1, z2, q1, q2⟩
    · rw [z1] at r1
      rw [z2] at r2
      cases r1
      cases r2
      exact SeqAt.EqAt.same _
    · rw [z1] at r1
      rw [z2] at r2
      cases r1
      cases r2
      exact eqAt_lst I q1 q2 (by show X.A.units + 1 < _; omega)
  · refine ⟨.bl false, H, I, ?_, k⟩
    show Value.bool _ = Value.bool _
    simp
end
end L2

set_option Elab.async false
set_option linter.all false
set_option maxRecDepth 100000
set_option maxHeartbeats 4000000
namespace L2
open PySem PySem.Spec PyProof.Rows QQ
section
variable {X : Cx}
/-! ### lists with the same things in them, by themselves or as tuples of plain ones -/
def EqG (K : PySem.W.Frag) (H : Hp) (x y : V) : Prop := (x = y ∧ (flatV x = true ∨ ∃ a, x = .ref a)) ∨ ∃ (a b : Addr) (xs : List V), x = .ref a ∧ y = .ref b ∧ SqT K H a xs ∧ SqT K H b xs ∧ xs.all flatV = true
def SameGs (K : PySem.W.Frag) (H : Hp) (p q : Addr) : Prop := ∃ xs ys : List V, SqL K H p xs ∧ SqL K H q ys ∧ xs.length = ys.length ∧ ∀ (i : Nat) (x y : V), xs[i]? = some x → ys[i]? = some y → EqG K H x y
theorem sameGs_at {pins : List (Addr × Obj)} {σ : St} {H : Hp} {s : Shared} (I : Inv X pins σ H s) {p q : Addr} (h : SameGs X.K H p q) {A : Around} (hu : A.units < cLine) : ∃ its its2 : List Value, s.heap.IsList p its.toArray ∧ s.heap.IsList q its2.toArray ∧ its.toArray.size = its2.toArray.size ∧ ∀ j (h1 : j < its.toArray.size) (h2 : j < its2.toArray.size), SeqAt.EqAt A s its.toArray[j] its2.toArray[j] true := by
  obtain ⟨xs, ys, h1, h2, hl, hi⟩ := h
  obtain ⟨its, rv, pl, hz⟩ := I.list h1
  obtain ⟨its2, rv2, pl2, hz2⟩ := I.list h2
  have l1 := rv.length
  have l2 := rv2.length
  refine ⟨its, its2, pl.isList, pl2.isList, by rw [List.size_toArray, List.size_toArray]; omega, fun j j1 j2 => ?_⟩
  have k1 : j < xs.length := by simp at j1; omega
  have k2 : j < ys.length := by omega
  obtain ⟨u1, e1, r1⟩ := rv.get (i := j) (x := xs[j]) (by simp [k1])
  obtain ⟨u2, e2, r2⟩ := rv2.get (i := j) (x := ys[j]) (by simp [k2])
  have g1 : its.toArray[j] = u1 := by
    obtain ⟨_, z⟩ := List.getElem?_eq_some_iff.mp e1
    simpa using z
  have g2 : its2.toArray[j] = u2 := by
    obtain ⟨_, z⟩ := List.getElem?_eq_some_iff.mp e2
    simpa using z
  rw [g1, g2]
  rcases hi j xs[j] ys[j] (by simp [k1]) (by simp [k2]) with ⟨z1, f | ⟨a, z2⟩⟩ | ⟨a, b, zs, z1, z2, q1, q2, fl⟩
  · rw [← z1] at r2
    rw [← eqV_self _ f]
    exact eqAt_V r1 r2 f f
  · rw [← z1] at r2
    rw [z2] at r1 r2
    cases r1
    cases r2
    exact SeqAt.EqAt.same _
  · rw [z1] at r1
    rw [z2] at r2
    cases r1
    cases r2
    exact eqAt_tup I q1 q2 fl hu
def rNeGs (K : PySem.W.Frag) : R2 := fun x y H Q => ∃ (p q : Addr), x = .ref p ∧ y = .ref q ∧ SameGs K H p q ∧ Q (.bl false) H
theorem op_neGs (hu : X.A.units + 64 < cLine) : OpR X (compareOp .NotEq) (rNeGs X.K) := by
  intro pins s σ H x y v u Q I rx ry h
  obtain ⟨p, q, rfl, rfl, h, k⟩ := h
  cases rx
  cases ry
  obtain ⟨its, its2, pl, pl2, hz, he⟩ := sameGs_at (A := X.A.in1) I h (by show X.A.units + 1 < _; omega)
  refine SeqAt.RcNeAt.lists (e := fun _ => true) pl pl2 hz (by omega) he _ _ _ _ ?_
  refine ⟨.bl false, H, I, ?_, k⟩
  show Value.bool _ = Value.bool _
  simp
def rEqGs (K : PySem.W.Frag) : R2 := fun x y H Q => ∃ (p q : Addr), x = .ref p ∧ y = .ref q ∧ SameGs K H p q ∧ Q (.bl true) H
theorem op_eqGs (hu : X.A.units + 64 < cLine) : OpR X (compareOp .Eq) (rEqGs X.K) := by
  intro pins s σ H x y v u Q I rx ry h
  obtain ⟨p, q, rfl, rfl, h, k⟩ := h
  cases rx
  cases ry
  obtain ⟨its, its2, pl, pl2, hz, he⟩ := sameGs_at (A := X.A.in1) I h (by show X.A.units + 1 < _; omega)
  refine SeqAt.RcAt.lists (e := fun _ => true) pl pl2 hz (by omega) he _ _ _ _ ?_
  refine ⟨.bl true, H, I, ?_, k⟩
  show Value.bool _ = Value.bool _
  simp
/-! ### list.count of a number in a list of numbers -/
theorem countP_ints (k : Int) : ∀ {ns : List Int} {us : List Value}, Vals (ns.map V.int) us → us.countP (eqU (.int k)) = ns.count k
  | [], _, .nil => rfl
  | n :: ns, _, .cons r t => by
    obtain ⟨tk, rfl⟩ := r
    rw [List.countP_cons, countP_ints k t, List.count_cons]
    rfl
def rCount (K : PySem.W.Frag) : V → List V → Hp → VK → Prop := fun x vs H Q => ∃ (l : Addr) (ns : List Int) (k : Int), x = .ref l ∧ vs = [.int k] ∧ H l = some (.lst (ns.map V.int)) ∧ Q (.int ((ns.count k : Nat) : Int)) H
theorem mt_count : MtR X "list.count" (rCount X.K) := by
  intro pins s σ H x vs v us Q I rx rv h
  obtain ⟨l, ns, k, rfl, rfl, hH, q⟩ := h
  cases rx
  obtain ⟨u, rfl, ru⟩ := vals1 rv
  obtain ⟨t, rfl⟩ := ru
  obtain ⟨z, its, n, r, hl, e⟩ := I.lstM hH
  have hf : (ns.map V.int).all flatV = true := by simp [flatV]
  have g := SeqAt.list_countAt l its.toArray n none #[] (.int k t) (eqU (.int k))
  refine call_meets F.slot_list_count ⟨_, e, rfl⟩ F.entry_list_count (F.args_list_count_2 (.ref l) (.int k t)) g ⟨e, fun y hy => mem_eqAt (x := .int k) ⟨t, rfl⟩ rfl r hf y (by simpa using hy), ?_⟩
  refine ⟨.int ((ns.count k : Nat) : Int), H, I.tok _, ⟨s.toks, ?_⟩, q⟩
  rw [show its.toArray.toList = its from rfl, countP_ints k r]
/-! ### one of two readings of an operator; {} != itself -/
theorem OpR.either {f : Value → Value → Sem Value} {r t : R2} (h : OpR X f r) (g : OpR X f t) : OpR X f (fun x y H Q => r x y H Q ∨ t x y H Q) := by
  intro pins s σ H x y v u Q I rx ry z
  rcases z with z | z
  · exact h pins s σ H x y v u Q I rx ry z
  · exact g pins s σ H x y v u Q I rx ry z
def rNeD0 : R2 := fun x y H Q => ∃ p : Addr, x = .ref p ∧ y = .ref p ∧ H p = some (.dK []) ∧ Q (.bl false) H
theorem op_neD0 (hu : X.A.units + 64 < cLine) : OpR X (compareOp .NotEq) rNeD0 := by
  intro pins s σ H x y v u Q I rx ry h
  obtain ⟨p, rfl, rfl, hp, k⟩ := h
  cases rx
  cases ry
  obtain ⟨_, hs, vs, kv, D⟩ := (show ObjOk X.prog X.w H s.heap p (.dK []) from I.hok p _ hp)
  cases kv
  exact PySem.W.keq_ne (r := true) hs hs D D (by omega) (fun _ => .nil) ⟨.bl false, H, I, rfl, k⟩
/-! ### for i, x in enumerate(list) -/
theorem for_en {K : PySem.W.Frag} {a : Addr} {xs : List V} {g : TG} {tb : TS} {D : Ends} {σ : St} {H : Hp} (Pv : Nat → St → Hp → Prop) (h0 : Pv 0 σ H) (hl : ∀ i σ H, i ≤ xs.length → Pv i σ H → SqL K H a xs)
    (hs : ∀ i x p σ H, xs[i]? = some x → H p = none → Pv i σ H → g (.ref p) σ (upd H p (.tup [.int ((i : Nat) : Int), x])) fun σ2 H2 => tb { D with nx := Pv (i + 1), ct := Pv (i + 1), bk := D.nx } σ2 H2) (hd : ∀ σ H, Pv xs.length σ H → D.nx σ H) :
    ∃ W : Nat → Nat → St → Hp → Prop, (∃ m, W 0 m σ H) ∧ ∀ i m σ H, W i m σ H →
      ((Ite K a).stop i H ∧ D.nx σ H) ∨ ((Ite K a).go i H ∧ ∃ N : St → Hp → Prop, (∀ σ' H', N σ' H' → ∃ m', m' < m ∧ W (i + 1) m' σ' H') ∧ ∀ x H', (Ite K a).yld i H x H' → g x σ H' fun σ2 H2 => tb { D with nx := N, ct := N, bk := D.nx } σ2 H2) := by
  refine ⟨fun i m σ H => m = xs.length - i ∧ i ≤ xs.length ∧ Pv i σ H, ⟨xs.length, by simp, Nat.zero_le _, h0⟩, ?_⟩
  rintro i m σ H ⟨rfl, hi, p⟩
  have q := hl i σ H hi p
  by_cases hlt : i < xs.length
  · refine .inr ⟨⟨xs, xs[i], q, by simp [hlt]⟩, Pv (i + 1), fun σ' H' p' => ⟨xs.length - (i + 1), by omega, rfl, hlt, p'⟩, fun x H' y => ?_⟩
    obtain ⟨p1, x1, hp1, e1, e2, y⟩ := y
    subst e1 e2
    exact hs i x1 p1 σ _ (y xs q) hp1 p
  · have e : i = xs.length := by omega
    subst e
    exact .inl ⟨⟨xs, q, Nat.le_refl _⟩, hd σ H p⟩
/-! ### [.. for x in range(..) if ..] with captured names -/
theorem compCI_rng {lo : Int} {l : Addr} {k : Nat} {σ0 : St} {g : TG} {tt : TT} {te : TE} {R : Hp → Prop} {H1 : Hp} (Pv : Nat → List V → St → Hp → Prop) (h0 : Pv 0 [] σ0 (upd H1 l (.lst [])))
    (hs : ∀ i ys σ H, i < k → Pv i ys σ H → g (.int (lo + (i : Nat))) σ H fun σ3 H3 => tt σ3 H3 fun c H5 => if c = true then te σ3 H5 fun y H4 => H4 l = some (.lst ys) ∧ ys.length < sizeLine ∧ Pv (i + 1) (ys ++ [y]) σ3 (upd H4 l (.lst (ys ++ [y]))) else Pv (i + 1) ys σ3 H5)
    (hd : ∀ ys σ H, Pv k ys σ H → R H) (mg : ∀ x σ H (A B : St → Hp → Prop), (∀ σ' H', A σ' H' → B σ' H') → g x σ H A → g x σ H B) (mtt : ∀ σ H (A B : Bool → Hp → Prop), (∀ v H', A v H' → B v H') → tt σ H A → tt σ H B) (mt : ∀ σ H (A B : VK), (∀ v H', A v H' → B v H') → te σ H A → te σ H B) :
    ∃ W : Nat → Nat → List V → St → Hp → Prop, (∃ m, W 0 m [] σ0 (upd H1 l (.lst []))) ∧ ∀ i m ys σ' H', W i m ys σ' H' →
      ((Itr lo k).stop i H' ∧ R H') ∨ ((Itr lo k).go i H' ∧ ∀ x H2, (Itr lo k).yld i H' x H2 → g x σ' H2 fun σ3 H3 => tt σ3 H3 fun c H5 => if c = true then te σ3 H5 fun y H4 =>
        H4 l = some (.lst ys) ∧ ys.length < sizeLine ∧ ∃ m', m' < m ∧ W (i + 1) m' (ys ++ [y]) σ3 (upd H4 l (.lst (ys ++ [y]))) else ∃ m', m' < m ∧ W (i + 1) m' ys σ3 H5) := by
  refine ⟨fun i m ys σ H => m = k - i ∧ i ≤ k ∧ Pv i ys σ H, ⟨k, by simp, Nat.zero_le _, h0⟩, ?_⟩
  rintro i m ys σ H ⟨rfl, hi, p⟩
  by_cases hlt : i < k
  · refine .inr ⟨hlt, fun x H' y => ?_⟩
    obtain ⟨e, y⟩ := y
    subst e y
    refine mg _ _ _ _ _ (fun σ3 H3 z => mtt _ _ _ _ (fun c H5 z2 => ?_) z) (hs i ys σ _ hlt p)
    by_cases hc : c = true
    · rw [if_pos hc] at z2 ⊢
      exact mt _ _ _ _ (fun y H4 ⟨z1, z3, z4⟩ => ⟨z1, z3, k - (i + 1), by omega, rfl, hlt, z4⟩) z2
    · rw [if_neg hc] at z2 ⊢
      exact ⟨k - (i + 1), by omega, rfl, hlt, z2⟩
  · have e : i = k := by omega
    subst e
    exact .inl ⟨Nat.le_refl _, hd ys σ H p⟩
end
section
variable {X : Cx} {N : List Str} {scope : Scope} {cl : List (Str × Addr)} {js : List (Option Nat)} {elt cnd target iter : Expr} {pos : Pos} {wi : TI} {g : TG} {tt : TT} {te : TE}
/-- name = [elt for target in iter if cnd], names captured -/
theorem ps_setCCI {i : Nat} {y : Str} {py spos : Pos} (hN : X.N.Nodup) (hiy : X.N[i]? = some y) (hy : Loc X.env.scope y)
    (hc : X.calm = true) (Cp : Caps X N scope cl js)
    (hi : PI X target iter wi) (hg : ∀ fp s H, PG (cxCompC X N scope cl fp s H) target g) (ht : ∀ fp s H, PT (cxCompC X N scope cl fp s H) cnd tt) (he : ∀ fp s H, PE (cxCompC X N scope cl fp s H) elt te)
    (hsw : swapsWith (.ListComp elt [⟨target, iter, [cnd], 0⟩] scope pos) (some (.Name y py)) spos.line X.env = pure true)
    (hs : ∀ x, foldedSetIterable iter X.env x = pure x := by intro _; rfl) (hf : X.fn y = true ∨ X.env.scope.names.lookup y = some .local := by first | exact .inl rfl | exact .inr rfl | assumption) :
    PS X (.Assign [.Name y py] (.ListComp elt [⟨target, iter, [cnd], 0⟩] scope pos) spos) (tSetC i (tCompCI js wi g tt te)) := by
  intro pins s σ H D I h
  rw [exec_Assign_Name_used _ _ _ _ hsw]
  refine wpAny_bind (wpAny_standAt (wpAny_bind ?_))
  show wpAny _ X.A (do let _ ← comprehension (.ListComp elt [⟨target, iter, [cnd], 0⟩] scope pos) scope X.env _ (newList []) false (eval iter X.env) (some (assign (.Name y py) X.env))) _ _ s
  refine wpAny_bind (wpAny_mono (wpAny_comprehension_free (use := some (assign (.Name y py) X.env)) (Q := fun _ s' => SP X pins D .next s') rfl hs Cp.clos Cp.kind Cp.names
    (compCI_core (RR := fun acc C => compPost (model X.prog X.w) X.A X.xe (some (assign (.Name y py) X.env)) (fun _ s' => SP X pins D .next s') acc C) hc Cp hi hg ht he I h ?_)) (fun _ s' hq => wpAny_pure (wpAny_pure hq)) fun _ _ e => e)
  rintro l C H' s' I' fC ⟨m, hn⟩ q
  show wpAny _ X.A (assign (.Name y py) X.env (.ref l)) _ _ _
  refine wpAny_assign_Name (store_ok2 (v := .ref l) I' hN hiy hy (show RelV (.ref l) (.ref l) from rfl) (fun s2 I2 ⟨a, sb, ha⟩ => ?_) hf)
  have hCa : C ≠ a := by
    rcases ha with ha | ha
    · rw [ha]; exact fC.2.1
    · exact Ne.symm (fC.2.2.2.2.1 y a ha)
  exact ⟨m, hn.sameBut sb hCa, fun h' sb' => ⟨_, H', I2.turned (t' := s2.toks) (fun b o hb e => (sb'.2 b hb).trans e) fC.1 fC.2.1 fC.2.2.2.1 fC.2.2.2.2.1 fC.2.2.2.2.2, q⟩⟩
end
/-! ### (a, b) != (c, d) of numbers -/
def rNeT2 (K : PySem.W.Frag) : R2 := fun x y H Q => ∃ (p q : Addr) (a b c d : Int), x = .ref p ∧ y = .ref q ∧ SqT K H p [.int a, .int b] ∧ SqT K H q [.int c, .int d] ∧ Q (.bl (!(decide (a = c) && decide (b = d)))) H
theorem op_neT2 {X : Cx} {K : PySem.W.Frag} (hK : X.K = K) (hu : X.A.units + 64 < cLine) : OpR X (compareOp .NotEq) (rNeT2 K) := by
  subst hK
  intro pins s σ H x y v u Q I rx ry h
  obtain ⟨p, q, a, b, c, d, rfl, rfl, ha, hb, k⟩ := h
  cases rx
  cases ry
  obtain ⟨its, rv, pl, hz⟩ := I.tuple ha
  obtain ⟨its2, rv2, pl2, hz2⟩ := I.tuple hb
  have l1 := rv.length
  have l2 := rv2.length
  refine SeqAt.RcNeAt.tuples (e := fun j => if j = 0 then decide (a = c) else decide (b = d)) (show s.heap.IsTuple p its.toArray from pl) (show s.heap.IsTuple q its2.toArray from pl2) (by omega) (fun j h1 h2 => ?_) _ _ _ _ ?_
  · have j1 : j < 2 := by simp at h1 l1; omega
    have pick : ∀ (A B C D : Int), ([V.int A, V.int B])[j]? = some (if j = 0 then V.int A else V.int B) := fun A B C D => by
      match j, j1 with
      | 0, _ => rfl
      | 1, _ => rfl
    obtain ⟨u1, e1, r1⟩ := rv.get (pick a b c d)
    obtain ⟨u2, e2, r2⟩ := rv2.get (pick c d a b)
    have g1 : its.toArray[j] = u1 := by
      obtain ⟨_, z⟩ := List.getElem?_eq_some_iff.mp e1
      simpa using z
    have g2 : its2.toArray[j] = u2 := by
      obtain ⟨_, z⟩ := List.getElem?_eq_some_iff.mp e2
      simpa using z
    rw [g1, g2]
    have q0 := eqAt_V (A := X.A.in1) (s := s) r1 r2 (by split <;> rfl) (by split <;> rfl)
    have e3 : eqV (if j = 0 then V.int a else V.int b) (if j = 0 then V.int c else V.int d) = (if j = 0 then decide (a = c) else decide (b = d)) := by
      split
      · show (a == c) = _
        by_cases z : a = c <;> simp [z]
      · show (b == d) = _
        by_cases z : b = d <;> simp [z]
    rw [e3] at q0
    exact q0
  · refine ⟨.bl (!(decide (a = c) && decide (b = d))), H, I, ?_, k⟩
    show Value.bool _ = Value.bool _
    have e1 : its.toArray.size = 2 := by rw [List.size_toArray, ← l1]; rfl
    have e2 : its2.toArray.size = 2 := by rw [List.size_toArray, ← l2]; rfl
    rw [e1, e2]
    simp [List.range, List.range.loop]
end L2

set_option Elab.async false
set_option linter.all false
set_option maxRecDepth 100000
set_option maxHeartbeats 4000000
namespace L2
open PySem PySem.Spec PyProof.Rows QQ
section
variable {X : Cx}
/-! ### isinstance of an error and a tuple of classes, none of which is its own -/
theorem kitAny_none {K : PySem.W.Frag} {t : Value} : ∀ {cs : List Addr} {us : List Value}, Vals (cs.map V.ref) us → (∀ c ∈ cs, PySem.W.kitOne K t (.ref c) = some false) → PySem.W.kitAny K t us = some false
  | [], _, .nil, _ => rfl
  | c :: cs, _, .cons r tl, h => by
    cases r
    have h1 := h c List.mem_cons_self
    have h2 := kitAny_none tl fun d hd => h d (List.mem_cons_of_mem _ hd)
    simp only [PySem.W.kitAny, h1]
    exact h2
theorem call_isiET : CallR X (.builtin "isinstance") (fun xs H Q => ∃ (a C p : Addr) (vs : Array Value) (cs : List Addr), xs = [.ref a, .ref p] ∧ H a = some (.frz (exO (.ref C) vs) (.own a)) ∧ ExI X.K C ∧ SqT X.K H p (cs.map V.ref) ∧ (∀ c ∈ cs, PySem.W.kitOne X.K (.ref C) (.ref c) = some false) ∧ Q (.bl false) H) := by
  intro pins s σ H xs us Q I r h
  obtain ⟨a, C, p, vs, cs, rfl, hf, ci, hp, hk, q⟩ := h
  obtain ⟨u, v, rfl, ru, rv⟩ := vals2 r
  cases ru
  cases rv
  obtain ⟨its, rw', pl, hz⟩ := I.tuple hp
  obtain ⟨⟨cls, dd, data, sl⟩, ho, hc, n, hd⟩ := (show s.heap.IsTuple p its.toArray from pl)
  simp only at hc hd
  subst hc hd
  obtain ⟨g, _⟩ := I.hok a _ hf
  exact PySem.W.kia_tup (kitx_err (vs := vs) ci) I.kIn ⟨g, rfl, rfl, trivial⟩ ho (kitAny_none rw' hk) (fun z => nomatch z) fun tk => ⟨.bl false, H, I.tok tk, rfl, q⟩
/-! ### f'..{n}..', the text unsaid -/
def tFs (n : Int) (te : TE) : TE := fun σ H Q => te σ H fun v H1 => v = .int n ∧ ∀ z : Str, Q (.str z) H1
theorem pe_fs {n : Int} {e : Expr} {te : TE} {a b : Str} {j1 j2 : Nat} {p1 p2 p3 pos : Pos} (he : PE X e te) (hn : n.natAbs.log2 < 1920 := by decide) (h1 : (Str.empty ++ a).length ≤ sizeLine := by decide) (h2 : (Str.empty ++ a ++ Str.ofString (toString n)).length ≤ sizeLine := by decide)
    (h3 : (Str.empty ++ a ++ Str.ofString (toString n) ++ b).length ≤ sizeLine := by decide) : PE X (.JoinedStr [.Constant (.str a) j1 p1, .FormattedValue e (-1) none p2, .Constant (.str b) j2 p3] pos) (tFs n te) := by
  intro pins s σ H Q I h
  refine wpAny_JoinedStr ?_
  show wpAny _ _ (eval (.Constant (.str a) j1 p1) X.env) _ _ s
  refine Calls.Constant_str ⟨a, _, rfl, h1, ?_⟩
  show wpAny _ _ (eval (.FormattedValue e (-1) none p2) X.env) _ _ _
  refine wpAny_FormattedValue_plain (thn (he pins _ σ H _ (I.tok _) h) fun v s1 ⟨y, H1, I1, r1, q1⟩ => ?_)
  obtain ⟨rfl, q1⟩ := q1
  obtain ⟨t, rfl⟩ := r1
  refine wpAny_formatField_int hn ⟨Str.ofString (toString n), _, rfl, h2, ?_⟩
  show wpAny _ _ (eval (.Constant (.str b) j2 p3) X.env) _ _ _
  refine Calls.Constant_str ⟨b, _, rfl, h3, h3, ?_⟩
  exact ⟨.str _, H1, (I1.tok _), ⟨_, rfl⟩, q1 _⟩
end
end L2

set_option Elab.async false
set_option linter.all false
set_option maxRecDepth 100000
set_option maxHeartbeats 4000000
namespace L2
open PySem PySem.Spec PyProof.Rows QQ
/-! ### comprehensions over a text and over a range with a step -/
theorem comp_str {z : Str} {l : Addr} {n : Nat} {g : TG} {te : TE} {R : Hp → Prop} {H1 : Hp} (Pv : Nat → List V → Hp → Prop) (h0 : Pv 0 [] (upd H1 l (.lst [])))
    (hs : ∀ i c ys σ H, z.cps[i]? = some c → Pv i ys H → σ.length = n → g (.str ⟨#[c]⟩) σ H fun σ3 H3 => te σ3 H3 fun y H4 => H4 l = some (.lst ys) ∧ ys.length < sizeLine ∧ σ3.length = n ∧ Pv (i + 1) (ys ++ [y]) (upd H4 l (.lst (ys ++ [y]))))
    (hd : ∀ ys H, Pv z.cps.size ys H → R H) (mg : ∀ x σ H (A B : St → Hp → Prop), (∀ σ' H', A σ' H' → B σ' H') → g x σ H A → g x σ H B) (mt : ∀ σ H (A B : VK), (∀ v H', A v H' → B v H') → te σ H A → te σ H B) :
    ∃ W : Nat → Nat → List V → St → Hp → Prop, (∃ m, W 0 m [] (List.replicate n none) (upd H1 l (.lst []))) ∧ ∀ i m ys σ' H', W i m ys σ' H' →
      ((Its z).stop i H' ∧ R H') ∨ ((Its z).go i H' ∧ ∀ x H2, (Its z).yld i H' x H2 → g x σ' H2 fun σ3 H3 => te σ3 H3 fun y H4 =>
        H4 l = some (.lst ys) ∧ ys.length < sizeLine ∧ ∃ m', m' < m ∧ W (i + 1) m' (ys ++ [y]) σ3 (upd H4 l (.lst (ys ++ [y])))) := by
  refine ⟨fun i m ys σ H => m = z.cps.size - i ∧ i ≤ z.cps.size ∧ σ.length = n ∧ Pv i ys H, ⟨z.cps.size, by simp, Nat.zero_le _, List.length_replicate, h0⟩, ?_⟩
  rintro i m ys σ H ⟨rfl, hi, hn, p⟩
  by_cases hlt : i < z.cps.size
  · refine .inr ⟨hlt, fun x H' y => ?_⟩
    obtain ⟨e, c, hc, rfl⟩ := y
    subst e
    exact mg _ _ _ _ _ (fun σ3 H3 z' => mt _ _ _ _ (fun y H4 ⟨z1, z2, z3, z4⟩ => ⟨z1, z2, z.cps.size - (i + 1), by omega, rfl, hlt, z3, z4⟩) z') (hs i c ys σ _ hc p hn)
  · have e : i = z.cps.size := by omega
    subst e
    exact .inl ⟨Nat.le_refl _, hd ys H p⟩
theorem compC_rng3 {lo c : Int} {l : Addr} {k : Nat} {σ0 : St} {g : TG} {te : TE} {R : Hp → Prop} {H1 : Hp} (Pv : Nat → List V → St → Hp → Prop) (h0 : Pv 0 [] σ0 (upd H1 l (.lst [])))
    (hs : ∀ i ys σ H, i < k → Pv i ys σ H → g (.int (lo + (i : Nat) * c)) σ H fun σ3 H3 => te σ3 H3 fun y H4 => H4 l = some (.lst ys) ∧ ys.length < sizeLine ∧ Pv (i + 1) (ys ++ [y]) σ3 (upd H4 l (.lst (ys ++ [y]))))
    (hd : ∀ ys σ H, Pv k ys σ H → R H) (mg : ∀ x σ H (A B : St → Hp → Prop), (∀ σ' H', A σ' H' → B σ' H') → g x σ H A → g x σ H B) (mt : ∀ σ H (A B : VK), (∀ v H', A v H' → B v H') → te σ H A → te σ H B) :
    ∃ W : Nat → Nat → List V → St → Hp → Prop, (∃ m, W 0 m [] σ0 (upd H1 l (.lst []))) ∧ ∀ i m ys σ' H', W i m ys σ' H' →
      ((Itr3 lo c k).stop i H' ∧ R H') ∨ ((Itr3 lo c k).go i H' ∧ ∀ x H2, (Itr3 lo c k).yld i H' x H2 → g x σ' H2 fun σ3 H3 => te σ3 H3 fun y H4 =>
        H4 l = some (.lst ys) ∧ ys.length < sizeLine ∧ ∃ m', m' < m ∧ W (i + 1) m' (ys ++ [y]) σ3 (upd H4 l (.lst (ys ++ [y])))) := by
  refine ⟨fun i m ys σ H => m = k - i ∧ i ≤ k ∧ Pv i ys σ H, ⟨k, by simp, Nat.zero_le _, h0⟩, ?_⟩
  rintro i m ys σ H ⟨rfl, hi, p⟩
  by_cases hlt : i < k
  · refine .inr ⟨hlt, fun x H' y => ?_⟩
    obtain ⟨e, y⟩ := y
    subst e y
    exact mg _ _ _ _ _ (fun σ3 H3 z => mt _ _ _ _ (fun y H4 ⟨z1, z2, z4⟩ => ⟨z1, z2, k - (i + 1), by omega, rfl, hlt, z4⟩) z) (hs i ys σ _ hlt p)
  · have e : i = k := by omega
    subst e
    exact .inl ⟨Nat.le_refl _, hd ys σ H p⟩
/-! ### methods of texts -/
theorem vals_strs : ∀ {ys : List Str} {us : List Value}, Vals (ys.map V.str) us → ∃ l : List (Str × Tok), us = strValues l ∧ l.map (·.1) = ys
  | [], us, r => by
    cases r
    exact ⟨[], rfl, rfl⟩
  | y :: ys, us, r => by
    obtain ⟨u, us', rfl, ru, r'⟩ : ∃ u us', us = u :: us' ∧ RelV (V.str y) u ∧ Vals (ys.map V.str) us' := by
      cases r with
      | cons a b => exact ⟨_, _, rfl, a, b⟩
    obtain ⟨t, rfl⟩ := ru
    obtain ⟨l, rfl, e⟩ := vals_strs r'
    exact ⟨(y, t) :: l, rfl, by simp [e]⟩
section
variable {X : Cx}
def rJoin : V → List V → Hp → VK → Prop := fun x vs H Q => ∃ (sep : Str) (l : Addr) (ys : List Str), x = .str sep ∧ vs = [.ref l] ∧ H l = some (.lst (ys.map V.str)) ∧ JoinOk sep ys = true ∧ Q (.str (Txt.join sep ys)) H
theorem mt_join : MtR X "str.join" rJoin := by
  intro pins s σ H x vs v us Q I rx rv h
  obtain ⟨sep, l, ys, rfl, rfl, hH, ok, q⟩ := h
  obtain ⟨t, rfl⟩ := rx
  obtain ⟨u, rfl, ru⟩ := vals1 rv
  cases ru
  obtain ⟨z, its, n, r, hl, e⟩ := I.lstM hH
  obtain ⟨l2, rfl, e2⟩ := vals_strs r
  refine SC.join (D := l) (l := l2) ⟨_, e, rfl, _, rfl⟩ e2 ok fun t' k => ?_
  exact ⟨.str (Txt.join sep ys), H, I.tok _, ⟨_, rfl⟩, q⟩
def rSIndex : V → List V → Hp → VK → Prop := fun x vs H Q => ∃ (z y : Str) (i : Nat) (rest : List Nat), x = .str z ∧ vs = [.str y] ∧ Builtin.Str.occurrences z y 0 z.length 1 = i :: rest ∧ Q (.int ((i : Nat) : Int)) H
theorem mt_sindex : MtR X "str.index" rSIndex := by
  intro pins s σ H x vs v us Q I rx rv h
  obtain ⟨z, y, i, rest, rfl, rfl, ho, q⟩ := h
  obtain ⟨t, rfl⟩ := rx
  obtain ⟨u, rfl, ru⟩ := vals1 rv
  obtain ⟨t', rfl⟩ := ru
  exact SC.index ho ⟨.int ((i : Nat) : Int), H, I.tok _, ⟨_, rfl⟩, q⟩
def rUpper : V → List V → Hp → VK → Prop := fun x vs H Q => ∃ (z : Str), x = .str z ∧ vs = [] ∧ Builtin.Str.tooLong (Txt.upper z).length = false ∧ Q (.str (Txt.upper z)) H
theorem mt_upper : MtR X "str.upper" rUpper := by
  intro pins s σ H x vs v us Q I rx rv h
  obtain ⟨z, rfl, rfl, ht, q⟩ := h
  obtain ⟨t, rfl⟩ := rx
  cases rv
  exact SC.upper ht ⟨.str (Txt.upper z), H, I.tok _, ⟨_, rfl⟩, q⟩
end
end L2

set_option Elab.async false
set_option linter.all false
set_option maxRecDepth 100000
set_option maxHeartbeats 4000000
namespace L2
open PySem PySem.Spec PyProof.Rows QQ
/-! ### a dict against a list -/
open PySem.AutoSeq1 (wpAny_loadPart') in
theorem list_eq_declines_dict (l b : Addr) (items : Array Value) (n : Nat) (dd : Option Addr) (sl : Array (Option Value)) (d2 : Option Addr) (da2 : Data) (sl2 : Array (Option Value)) :
    Meets (Builtin.«list.__eq__» ⟨[.ref l, .ref b], []⟩) (fun _ R s => s.heap.get? l = some { cls := .type "list", dict := dd, data := .seq items n, slots := sl } ∧ s.heap.get? b = some { cls := .type "dict", dict := d2, data := da2, slots := sl2 } ∧ R (.ok (.ret .notImplemented)) s) :=
  .of_wp fun prog w A R s h => by obtain ⟨hp, g, d, tk, os⟩ := s; obtain ⟨hl, hb, h⟩ := h; have f1 := F.sub_dict_list; wp_walk using wpAny_loadPart' hl, wpAny_loadPart' hb; exact ⟨_, rfl, h⟩
theorem rc_dict_list {A : Around} {s : Shared} {p l : Addr} {items : Array Value} (hp : s.TypeIs (.ref p) "dict") (hl : s.heap.IsList l items) (hu : A.units < cLine) : SeqAt.RcAt A s (.ref p) (.ref l) false := fun prog w E Q h => by
  obtain ⟨⟨cls, dd, data, sl⟩, ho, hc, n, hd⟩ := id hl
  obtain ⟨⟨cls2, dd2, data2, sl2⟩, ho2, hc2⟩ := id hp
  simp only at hc hd hc2
  subst hc hd hc2
  have hne : p ≠ l := fun e => by
    subst e
    rw [ho] at ho2
    exact absurd (show Value.type "list" = Value.type "dict" from congrArg Obj.cls (Option.some.inj ho2)) (by decide)
  refine SeqAt.rc_eq_decline_or (k := false) hp ⟨_, ho, rfl⟩ (by decide) F.sub_list_dict F.slot_dict_eq F.slot_list_eq_refl
    (fun _ hq => wpAny_call_entry PySem.F.slot_dict_eq hp PySem.F.entry_dict_eq ?_ (PySem.F.args_dict_eq_2 _ _))
    (fun _ hq => call_meets F.slot_list_eq_refl ⟨_, ho, rfl⟩ F.entry_list_eq (F.args_list_eq_2 _ _) (list_eq_declines_dict l p items n dd sl dd2 data2 sl2) ⟨ho, ho2, hq⟩)
    (fun _ hq => SeqAt.wpAny_isSame_ref_other' hne ho2 ho (by simp) hq) (.inr hu) h
  show wpAny _ _ (Builtin.Dict.dictSlotArgs "__eq__" ⟨[.ref p, .ref l], []⟩ >>= _) _ _ s
  refine wpAny_bind ?_
  unfold Builtin.Dict.dictSlotArgs
  refine wpAny_bind (wpAny_notOrdered_dict hp ?_)
  show wpAny _ _ (pure (Value.ref p, Value.ref l)) _ _ s
  refine wpAny_pure ?_
  refine wpAny_bind (wpAny_isInstance (T := "list") ⟨_, ho, rfl⟩ PySem.F.sub_list_dict ?_)
  simp only [Bool.not_false, if_true]
  refine wpAny_bind (wpAny_rule ?_)
  exact wpAny_pure ⟨_, rfl, hq⟩
section
variable {X : Cx}
/-! ### lists within lists and tuples -/
theorem eqAt_gs {pins : List (Addr × Obj)} {σ : St} {H : Hp} {s : Shared} (I : Inv X pins σ H s) {a b : Addr} (h : SameGs X.K H a b) {A : Around} (hu : A.units + 1 < cLine) : SeqAt.EqAt A s (.ref a) (.ref b) true := by
  by_cases e : a = b
  · subst e; exact .same _
  · refine .of_refs e ?_
    obtain ⟨its, its2, pl, pl2, hz, he⟩ := sameGs_at (A := A.in1) I h (by show A.units + 1 < _; omega)
    have R := SeqAt.RcAt.lists (A := A) (e := fun _ => true) pl pl2 hz (by omega) he
    have e2 : (List.range its.toArray.size).all (fun _ => true) = true := by simp
    rw [e2] at R
    exact R
/-- pairs of a text and a list of plain things, the same ones -/
def SameRf (K : PySem.W.Frag) (H : Hp) (p q : Addr) : Prop := ∃ (z : Str) (l m : Addr), SqT K H p [.str z, .ref l] ∧ SqT K H q [.str z, .ref m] ∧ SameGs K H l m
theorem sameRf_at {pins : List (Addr × Obj)} {σ : St} {H : Hp} {s : Shared} (I : Inv X pins σ H s) {p q : Addr} (h : SameRf X.K H p q) {A : Around} (hu : A.units + 1 < cLine) : ∃ its its2 : List Value, s.heap.IsTuple p its.toArray ∧ s.heap.IsTuple q its2.toArray ∧ its.toArray.size = its2.toArray.size ∧ ∀ j (h1 : j < its.toArray.size) (h2 : j < its2.toArray.size), SeqAt.EqAt A s its.toArray[j] its2.toArray[j] true := by
  obtain ⟨z, l, m, h1, h2, hs⟩ := h
  obtain ⟨its, rv, pl, hz⟩ := I.tuple h1
  obtain ⟨its2, rv2, pl2, hz2⟩ := I.tuple h2
  obtain ⟨u1, v1, rfl, r1, w1⟩ : ∃ u1 v1, its = [u1, v1] ∧ RelV (.str z) u1 ∧ RelV (.ref l) v1 := by
    cases rv with
    | cons a b => cases b with | cons c d => cases d; exact ⟨_, _, rfl, a, c⟩
  obtain ⟨u2, v2, rfl, r2, w2⟩ : ∃ u2 v2, its2 = [u2, v2] ∧ RelV (.str z) u2 ∧ RelV (.ref m) v2 := by
    cases rv2 with
    | cons a b => cases b with | cons c d => cases d; exact ⟨_, _, rfl, a, c⟩
  obtain ⟨t1, rfl⟩ := r1
  obtain ⟨t2, rfl⟩ := r2
  cases w1
  cases w2
  refine ⟨_, _, pl, pl2, rfl, fun j h1 h2 => ?_⟩
  match j, h1 with
  | 0, _ =>
    have e : (z == z) = true := by simp
    have R := eqAt_str A s z t1 z t2
    rw [e] at R
    exact R
  | 1, _ => exact eqAt_gs I hs hu
def rNeRf (K : PySem.W.Frag) : R2 := fun x y H Q => ∃ (p q : Addr), x = .ref p ∧ y = .ref q ∧ SameRf K H p q ∧ Q (.bl false) H
theorem op_neRf (hu : X.A.units + 64 < cLine) : OpR X (compareOp .NotEq) (rNeRf X.K) := by
  intro pins s σ H x y v u Q I rx ry h
  obtain ⟨p, q, rfl, rfl, h, k⟩ := h
  cases rx
  cases ry
  obtain ⟨its, its2, pl, pl2, hz, he⟩ := sameRf_at (A := X.A.in1) I h (by show X.A.units + 1 + 1 < _; omega)
  refine SeqAt.RcNeAt.tuples (e := fun _ => true) pl pl2 (by omega) he _ _ _ _ ?_
  refine ⟨.bl false, H, I, ?_, k⟩
  show Value.bool _ = Value.bool _
  rw [hz]
  simp
def rEqRf (K : PySem.W.Frag) : R2 := fun x y H Q => ∃ (p q : Addr), x = .ref p ∧ y = .ref q ∧ SameRf K H p q ∧ Q (.bl true) H
theorem op_eqRf (hu : X.A.units + 64 < cLine) : OpR X (compareOp .Eq) (rEqRf X.K) := by
  intro pins s σ H x y v u Q I rx ry h
  obtain ⟨p, q, rfl, rfl, h, k⟩ := h
  cases rx
  cases ry
  obtain ⟨its, its2, pl, pl2, hz, he⟩ := sameRf_at (A := X.A.in1) I h (by show X.A.units + 1 + 1 < _; omega)
  refine SeqAt.RcAt.tuples (e := fun _ => true) pl pl2 (by omega) he _ _ _ _ ?_
  refine ⟨.bl true, H, I, ?_, k⟩
  show Value.bool _ = Value.bool _
  rw [hz]
  simp
/-- [a, b] != [c, d], lists of plain or same things -/
def rNeG2 (K : PySem.W.Frag) : R2 := fun x y H Q => ∃ (p q a b c d : Addr), x = .ref p ∧ y = .ref q ∧ SqL K H p [.ref a, .ref b] ∧ SqL K H q [.ref c, .ref d] ∧ SameGs K H a c ∧ SameGs K H b d ∧ Q (.bl false) H
theorem op_neG2 (hu : X.A.units + 64 < cLine) : OpR X (compareOp .NotEq) (rNeG2 X.K) := by
  intro pins s σ H x y v u Q I rx ry h
  obtain ⟨p, q, a, b, c, d, rfl, rfl, h1, h2, s1, s2, k⟩ := h
  cases rx
  cases ry
  obtain ⟨its, rv, pl, hz⟩ := I.list h1
  obtain ⟨its2, rv2, pl2, hz2⟩ := I.list h2
  obtain ⟨u1, v1, rfl, r1, w1⟩ : ∃ u1 v1, its = [u1, v1] ∧ RelV (.ref a) u1 ∧ RelV (.ref b) v1 := by
    cases rv with
    | cons a b => cases b with | cons c d => cases d; exact ⟨_, _, rfl, a, c⟩
  obtain ⟨u2, v2, rfl, r2, w2⟩ : ∃ u2 v2, its2 = [u2, v2] ∧ RelV (.ref c) u2 ∧ RelV (.ref d) v2 := by
    cases rv2 with
    | cons a b => cases b with | cons c d => cases d; exact ⟨_, _, rfl, a, c⟩
  cases r1
  cases r2
  cases w1
  cases w2
  refine SeqAt.RcNeAt.lists (e := fun _ => true) pl.isList pl2.isList rfl (by omega) (fun j h1 h2 => ?_) _ _ _ _ ?_
  · match j, h1 with
    | 0, _ => exact eqAt_gs I s1 (by show X.A.units + 1 + 1 < _; omega)
    | 1, _ => exact eqAt_gs I s2 (by show X.A.units + 1 + 1 < _; omega)
  · refine ⟨.bl false, H, I, ?_, k⟩
    show Value.bool _ = Value.bool _
    simp
/-! ### another thing against a list -/
/-- x is no list of the length of xs: another kind, or another length -/
def NoSuch (K : PySem.W.Frag) (H : Hp) (x : V) (n : Nat) : Prop := (∃ i, x = .int i) ∨ (∃ b, x = .bl b) ∨ (∃ z, x = .str z) ∨ (∃ p xs, x = .ref p ∧ SqT K H p xs) ∨ (∃ p, x = .ref p ∧ H p = some (.dK [])) ∨ (∃ p xs, x = .ref p ∧ SqL K H p xs ∧ xs.length ≠ n)
def rEqNo (K : PySem.W.Frag) : R2 := fun x y H Q => ∃ (q : Addr) (ys : List V), y = .ref q ∧ SqL K H q ys ∧ NoSuch K H x ys.length ∧ Q (.bl false) H
theorem op_eqNo (hu : X.A.units + 64 < cLine) : OpR X (compareOp .Eq) (rEqNo X.K) := by
  intro pins s σ H x y v u Q I rx ry h
  obtain ⟨q, ys, rfl, h2, hn, k⟩ := h
  cases ry
  obtain ⟨its2, rv2, pl2, hz2⟩ := I.list h2
  have hu' : X.A.units < cLine := by omega
  have fin : EP X pins σ Q (.bool false) s := ⟨.bl false, H, I, rfl, k⟩
  rcases hn with ⟨i, rfl⟩ | ⟨b, rfl⟩ | ⟨z, rfl⟩ | ⟨p, xs, rfl, h1⟩ | ⟨p, rfl, hp⟩ | ⟨p, xs, rfl, h1, hl⟩
  · obtain ⟨t, rfl⟩ := rx
    exact SeqAt.RcAt.int_list i t pl2.isList hu' _ _ _ _ fin
  · cases rx
    exact SeqAt.RcAt.bool_list b pl2.isList hu' _ _ _ _ fin
  · obtain ⟨t, rfl⟩ := rx
    exact SeqAt.RcAt.str_list z t pl2.isList hu' _ _ _ _ fin
  · cases rx
    obtain ⟨its, rv, pl, hz⟩ := I.tuple h1
    exact SeqAt.RcAt.tuple_list pl pl2.isList hu' _ _ _ _ fin
  · cases rx
    obtain ⟨_, hs, vs, kv, D⟩ := (show ObjOk X.prog X.w H s.heap p (.dK []) from I.hok p _ hp)
    exact rc_dict_list D.typeIs pl2.isList hu' _ _ _ _ fin
  · cases rx
    obtain ⟨its, rv, pl, hz⟩ := I.list h1
    refine SeqAt.RcAt.lists_lengths pl.isList pl2.isList ?_ hu' _ _ _ _ fin
    have l1 := rv.length
    have l2 := rv2.length
    rw [List.size_toArray, List.size_toArray, bne_iff_ne]
    omega
end
end L2

set_option Elab.async false
set_option linter.all false
set_option maxRecDepth 100000
set_option maxHeartbeats 2000000
namespace L2
open PySem PyProof.Rows QQ
section
variable {prog : Program} {w : World} {A : Around} {E : Value → Shared → Prop} {s : Shared} {a₀ : Array Keyed}
theorem minRun_le : ∀ (f n r : Nat), r ≤ 1 → minRun' f n r ≤ n + r
  | 0, n, r, _ => Nat.le_refl _
  | f + 1, n, r, h => by
    rw [minRun'_succ]
    by_cases c : n < 64
    · rw [if_pos c]; exact Nat.le_refl _
    · rw [if_neg c]
      have := minRun_le f (n / 2) (max r (n % 2)) (by omega)
      omega
theorem minRun_self (n : Nat) : minRun' n n 0 ≤ n := by
  have := minRun_le n n 0 (by decide)
  omega
theorem wpS_countRunS {st : SortSt} {nrem : Nat} {Q : Option Nat → SortSt → Prop} (h0 : IntKeys a₀) (hn : nrem ≤ a₀.size) (h1 : 1 ≤ nrem) (hB : SBase a₀ st) (hs : SortedTo (arrOf st) nrem)
    (h : Q (some nrem) st) : wpS (model prog w) A E s (countRun' 0 nrem) Q st := by
  rw [countRun0_eq]
  refine wpS_bind (wpS_ascLoop h0 hn (Nat.le_refl 1) h1 hB (fun i j hij hj => by have : i = j := by omega
                                                                                 subst this; exact Int.le_refl _) fun n hn1 hn2 hsn hor => ?_)
  dsimp only
  have hnn : n = nrem := by
    rcases hor with e | e
    · exact e
    · by_cases c : n = nrem
      · exact c
      · have := hs (n - 1) n (by omega) (by omega)
        omega
  rw [if_pos (by simpa using hnn), hnn]
  exact wpS_pure h
theorem wpS_sortRunsS {st : SortSt} {Q : Unit → SortSt → Prop} (h0 : IntKeys a₀) (hB : SBase a₀ st) (h2 : 2 ≤ a₀.size) (hsrt : SortedTo (arrOf st) a₀.size)
    (h : ∀ st', (arrOf st').Perm a₀ → failedOf st' = none → SortedTo (arrOf st') a₀.size → Q () st') : wpS (model prog w) A E s sortRuns' Q st := by
  rw [sortRuns'_eq]
  refine wpS_bind (wpS_get ?_)
  dsimp only
  have hmr := minRun_self a₀.size
  simp only [hB.size]
  refine wpS_bind (wpS_mono (wpS_forRange
    (I := fun x c st' => (x = 0 ∧ c = (none, 0) ∧ st' = st) ∨ (1 ≤ x ∧ c = (none, a₀.size) ∧ SDone a₀ st'))
    (Q := fun c st' => c = (none, a₀.size) ∧ SDone a₀ st') ?step ?fin (.inl ⟨rfl, rfl, rfl⟩)) ?post)
  case fin =>
    rintro c st' (⟨hx, _, _⟩ | ⟨_, hc, hD⟩)
    · omega
    · exact ⟨hc, hD⟩
  case step =>
    rintro x c st' _ hx (⟨rfl, rfl, rfl⟩ | ⟨hx1, rfl, hD⟩)
    · dsimp only
      rw [if_neg (by omega)]
      simp only [Nat.sub_zero, Nat.zero_add]
      refine wpS_bind (wpS_countRunS h0 (Nat.le_refl _) (by omega) hB hsrt ?_)
      dsimp only
      rw [if_neg (by omega)]
      refine wpS_bind (wpS_get ?_)
      have hb : (pendingOf st').back? = none := by rw [hB.pend]; rfl
      rw [hb]
      dsimp only
      exact wpS_bind (wpS_modify (wpS_pure (.inr ⟨by omega, rfl, hB.done hsrt⟩)))
    · dsimp only
      rw [if_pos (Nat.le_refl _)]
      exact wpS_pure ⟨rfl, hD⟩
  case post =>
    rintro c st' ⟨rfl, hD⟩
    dsimp only
    refine wpS_bind (wpS_mono (wpS_forRange (I := fun _ c st'' => st'' = st' ∧ c = (none, ())) (Q := fun c st'' => st'' = st' ∧ c = (none, ())) ?_ (fun _ _ hh => hh) ⟨rfl, rfl⟩) ?_)
    · rintro x c st'' _ _ ⟨rfl, rfl⟩
      refine wpS_bind (wpS_get ?_)
      rw [if_pos (by rw [hD.2.2.1]; exact Nat.le_refl 1)]
      exact wpS_pure ⟨rfl, rfl⟩
    · rintro c st'' ⟨rfl, rfl⟩
      exact wpS_pure (h _ hD.1 hD.2.1 hD.2.2.2)
end
end L2

set_option Elab.async false
set_option linter.all false
set_option maxRecDepth 100000
set_option maxHeartbeats 2000000
namespace L2
open PySem PyProof.Rows QQ
theorem zip_sorted {kv its : List Value} {ks : List Int} (h : IntsAre kv ks) (hl : kv.length = its.length) (hp : ks.Pairwise (· ≤ ·)) : SortedTo (kv.toArray.zip its.toArray) its.length := by
  have hk : ∀ i (hi : i < ks.length), PyProof.Rows.K (kv.toArray.zip its.toArray) i = ks[i] := by
    intro i hi
    have h1 := h.length
    obtain ⟨t, e⟩ : ∃ t, kv[i]? = some (.int ks[i] t) := by
      clear hp hl h1
      induction h generalizing i with
      | nil => simp at hi
      | cons n t _ ih =>
        cases i with
        | zero => exact ⟨t, rfl⟩
        | succ i => exact ih i (by simpa using hi)
    have hi2 : i < its.length := by omega
    have e' : (kv.toArray.zip its.toArray)[i]? = some (.int ks[i] t, its[i]) := by
      rw [← Array.getElem?_toList, Array.toList_zip, List.getElem?_zip_eq_some]
      exact ⟨e, List.getElem?_eq_getElem hi2⟩
    unfold PyProof.Rows.K
    rw [e']
    rfl
  intro i j hij hj
  have h1 := h.length
  rw [hk i (by omega), hk j (by omega)]
  by_cases e : i = j
  · subst e; exact Int.le_refl _
  · exact List.pairwise_iff_getElem.mp hp i j (by omega) (by omega) (by omega)
theorem sort_keyS {X : Cx} {pins : List (Addr × Obj)} {σ : St} {H : Hp} {s : Shared} {A : Around} {E : Value → Shared → Prop} {a f : Addr} {its : List Value} {ks : List Int} {n : Nat} {P : Fin → Shared → Prop}
    (I : Inv X pins σ H s) (ho : s.heap.get? a = some (seqObj "list" its.toArray n)) (fa : FpOk X pins H a) (hl : its.length = ks.length) (h64 : its.length ≤ 1000) (hor : its.length < 64 ∨ ks.Pairwise (· ≤ ·))
    (hcall : ∀ (pins' : List (Addr × Obj)) (s' : Shared) (E' : Value → Shared → Prop) (i : Nat) (x : Value) (k : Int), its[i]? = some x → ks[i]? = some k → Inv X pins' σ H s' → wpAny (model X.prog X.w) A (call (.ref f) [x]) (fun r s'' => (∃ t, r = .int k t) ∧ Inv X pins' σ H s'') E' s')
    (h : ∀ (s' : Shared) (out : Array Keyed) (kv : List Value), Inv X pins σ H s' → (∃ e, s'.heap.get? a = some (seqObj "list" (out.map (·.2)) e)) → IntsAre kv ks → out.Perm (kv.toArray.zip its.toArray) → SortedTo out its.length → P (.done (.ret .none)) s') :
    wpAny (model X.prog X.w) A (Builtin.«list.sort» ⟨[.ref a], [(Str.ofString "key", .ref f)]⟩) P E s := by
  rw [list_sort_key]
  have ha : a < s.heap.objs.size := Heap.lt_size ho
  refine wpAny_bind (listItems_at ho rfl ?_)
  refine wpAny_bind (listUpdate_at ho rfl ?_)
  obtain ⟨e1, ho1⟩ : ∃ e1, (s.heap.update a (Obj.mapSeq fun _ => #[])).get? a = some (seqObj "list" #[] e1) := ⟨_, get?_update_seq ho (fun _ => #[])⟩
  have I1 : Inv X pins σ H { s with heap := s.heap.update a (Obj.mapSeq fun _ => #[]) } := I.turn fa
  have hs1 : (s.heap.update a (Obj.mapSeq fun _ => #[])).objs.size = s.heap.objs.size := Heap.size_update ..
  generalize s.heap.update a (Obj.mapSeq fun _ => #[]) = h1 at *
  refine wpAny_bind (seqEpoch_at ho1 rfl ?_)
  refine wpAny_bind (wpAny_newTuple ?_)
  refine wpAny_bind (wpAny_newList ?_)
  refine wpAny_holding ?_
  have ho3 : ((h1.push (seqObj "tuple" its.toArray 0)).push (seqObj "list" #[] 0)).get? a = some (seqObj "list" #[] e1) := Heap.get?_push_of_some _ (Heap.get?_push_of_some _ ho1)
  have I3 : Inv X pins σ H { s with heap := (h1.push (seqObj "tuple" its.toArray 0)).push (seqObj "list" #[] 0) } := I1.kept (t' := s.toks) fun b o e => Heap.get?_push_of_some _ (Heap.get?_push_of_some _ e)
  have hc3 : ((h1.push (seqObj "tuple" its.toArray 0)).push (seqObj "list" #[] 0)).get? (h1.push (seqObj "tuple" its.toArray 0)).objs.size = some (seqObj "list" ([] : List Value).toArray 0) := Heap.get?_push_size _ rfl
  have hcs : s.heap.objs.size ≤ (h1.push (seqObj "tuple" its.toArray 0)).objs.size := by rw [size_push', hs1]; omega
  have fc : FpOk X pins H (h1.push (seqObj "tuple" its.toArray 0)).objs.size := I.fpOk hcs (I.hok.fresh hcs)
  have nac : a ≠ (h1.push (seqObj "tuple" its.toArray 0)).objs.size := Nat.ne_of_lt (Nat.lt_of_lt_of_le ha hcs)
  show wpAny (model X.prog X.w) A _ P E { s with heap := (h1.push (seqObj "tuple" its.toArray 0)).push (seqObj "list" #[] 0) }
  generalize (h1.push (seqObj "tuple" its.toArray 0)).objs.size = c at *
  generalize (h1.push (seqObj "tuple" its.toArray 0)).push (seqObj "list" #[] 0) = h3 at *
  dsimp only
  refine wpAny_bind (wpAny_rule ?_)
  refine wpAny_bind (wpAny_forIn_array' _ (fun rest _ s' => ∃ (i : Nat) (kv : List Value), rest = its.drop i ∧ i ≤ its.length ∧ IntsAre kv (ks.take i) ∧ Inv X pins σ H s' ∧ s'.heap.get? a = some (seqObj "list" #[] e1) ∧ ∃ e2, s'.heap.get? c = some (seqObj "list" kv.toArray e2)) _ ?_ ?_ _ _ ⟨0, [], rfl, Nat.zero_le _, .nil, I3, ho3, 0, hc3⟩)
  · rintro x rest _ s' ⟨i, kv, hr, hi, hkv, I', hoa, e2, hoc⟩
    have hx : its[i]? = some x := by
      have : (its.drop i)[0]? = some x := by rw [← hr]; rfl
      rw [List.getElem?_drop] at this
      simpa using this
    have hil : i < its.length := (List.getElem?_eq_some_iff.mp hx).1
    have hk : ks[i]? = some ks[i] := List.getElem?_eq_getElem (by omega)
    have hrest : rest = its.drop (i + 1) := by
      rw [List.drop_eq_getElem_cons hil] at hr
      exact (List.cons.inj hr).2
    have Ip := I'.pinned (fp := [a, c]) (fun b hb => by
      rcases List.mem_cons.mp hb with rfl | hb
      · exact fa
      · rw [List.mem_singleton.mp hb]; exact fc) (fun b hb => by
      rcases List.mem_cons.mp hb with rfl | hb
      · exact ⟨_, hoa, seq_nocell⟩
      · rw [List.mem_singleton.mp hb]; exact ⟨_, hoc, seq_nocell⟩)
    refine wpAny_bind (wpAny_attempt (wpAny_mono (hcall _ s' _ i x ks[i] hx hk Ip) (fun r s'' ⟨⟨t, hrv⟩, I''⟩ => ?_) fun _ _ e => e))
    subst hrv
    have hoa' : s''.heap.get? a = some (seqObj "list" #[] e1) := (I''.pin _ (List.mem_append_right _ (List.mem_append_right _ (mem_pinsAt (by simp) hoa)))).1
    have hoc' : s''.heap.get? c = some (seqObj "list" kv.toArray e2) := (I''.pin _ (List.mem_append_right _ (List.mem_append_right _ (mem_pinsAt (by simp) hoc)))).1
    have I2 := I''.unpinned
    have hlk : kv.length = i := by rw [hkv.length, List.length_take]; omega
    dsimp only
    refine wpAny_bind (listUpdate_at hoc' rfl (wpAny_pure ?_) (hsz := by rw [List.size_toArray, hlk, sizeLine_eq]; omega) (hsz2 := by rw [Array.size_push, List.size_toArray, hlk, sizeLine_eq]; omega))
    refine ⟨i + 1, kv ++ [.int ks[i] t], hrest, hil, ?_, I2.turn fc, ?_, ?_⟩
    · rw [List.take_add_one, hk]; exact ints_snoc hkv
    · show (s''.heap.update c _).get? a = _
      rw [Heap.get?_update_ne _ _ _ _ nac]; exact hoa'
    · have e := get?_update_seq hoc' (fun x => x.push (Value.int ks[i] t))
      rw [List.push_toArray] at e
      exact ⟨_, e⟩
  · rintro _ s' ⟨i, kv, hr, hi, hkv, I', hoa, e2, hoc⟩
    have hie : i = its.length := by
      have := congrArg List.length hr
      rw [List.length_drop] at this
      simp at this
      omega
    rw [hie, hl, List.take_length] at hkv
    have hlk : kv.length = its.length := by rw [hkv.length, hl]
    have hz : (kv.toArray.zip its.toArray).size = its.length := by rw [Array.size_zip]; simp; omega
    -- what is left to do
    have I4 : Inv X pins σ H { s' with heap := s'.heap.update c (Obj.mapSeq fun _ => #[]) } := I'.turn fc
    have hoa4 : (s'.heap.update c (Obj.mapSeq fun _ => #[])).get? a = some (seqObj "list" #[] e1) := by rw [Heap.get?_update_ne _ _ _ _ nac]; exact hoa
    have fin : ∀ out : Array Keyed, out.Perm (kv.toArray.zip its.toArray) → SortedTo out its.length → P (.done (.ret .none)) { s' with heap := (s'.heap.update c (Obj.mapSeq fun _ => #[])).update a (Obj.mapSeq fun _ => out.map (·.2)) } := by
      intro out hp hs
      have e5 := get?_update_seq hoa4 (fun _ => out.map (·.2))
      generalize s'.heap.update c (Obj.mapSeq fun _ => #[]) = h4 at *
      have I5 : Inv X pins σ H { s' with heap := h4.update a (Obj.mapSeq fun _ => out.map (·.2)) } := Inv.turn (s := { s' with heap := h4 }) I4 fa
      generalize h4.update a (Obj.mapSeq fun _ => out.map (·.2)) = h5 at *
      exact h _ out kv I5 ⟨_, e5⟩ hkv hp hs
    refine wpAny_bind (listItems_at hoc rfl ?_)
    by_cases h2 : its.toArray.size < 2
    · rw [if_pos h2, if_pos h2]
      refine wpAny_bind (wpAny_pure ?_)
      rw [StateT.run_pure]
      refine wpAny_bind (wpAny_pure ?_)
      dsimp only
      refine wpAny_bind (listUpdate_at hoc rfl ?_ (hsz := by rw [List.size_toArray, hlk, sizeLine_eq]; omega))
      refine wpAny_bind (wpAny_letGo ?_)
      refine wpAny_bind (seqEpoch_at hoa4 rfl ?_)
      refine wpAny_bind (listUpdate_at hoa4 rfl ?_ (hsz2 := by rw [Array.size_map]; show (kv.toArray.zip its.toArray).size ≤ _; rw [hz, sizeLine_eq]; omega))
      simp only [bne_self_eq_false, Bool.false_eq_true, if_false]
      refine wpAny_pure (fin _ (Array.Perm.refl _) ?_)
      intro i j hij hj
      have : i = j := by rw [List.size_toArray] at h2; omega
      subst this; exact Int.le_refl _
    · rw [if_neg h2, if_neg h2]
      rw [List.size_toArray] at h2
      have hkk : keyKind' kv.toArray = pure oneType' := by
        match kv, hkv, hlk with
        | [], _, hlk => simp at hlk; omega
        | [_], _, hlk => simp at hlk; omega
        | v₁ :: v₂ :: vs, hkv, _ => exact keyKind_ints hkv
      rw [hkk]
      refine wpAny_bind (wpAny_pure ?_)
      have hik : IntKeys (kv.toArray.zip its.toArray) := by
        intro p hp
        have hp' : p.1 ∈ kv := by
          have : p ∈ kv.zip its := by simpa using hp
          exact (List.of_mem_zip this).1
        obtain ⟨n, t, e⟩ := hkv.all _ hp'
        exact ⟨n, t, e⟩
      have run : wpS (model X.prog X.w) A E s' sortRuns' (fun _ st' => (arrOf st').Perm (kv.toArray.zip its.toArray) ∧ failedOf st' = none ∧ SortedTo (arrOf st') its.length) (SortSt.mk' oneType' (kv.toArray.zip its.toArray) #[] 7 none) := by
        rcases hor with hor | hor
        · exact wpS_sortRuns (a₀ := kv.toArray.zip its.toArray) hik ⟨Array.Perm.refl _, rfl, rfl, rfl⟩ (by rw [hz]; omega) (by rw [hz]; exact hor) fun st' a1 a2 a3 => ⟨a1, a2, by rw [hz] at a3; exact a3⟩
        · refine wpS_sortRunsS (a₀ := kv.toArray.zip its.toArray) hik ⟨Array.Perm.refl _, rfl, rfl, rfl⟩ (by rw [hz]; omega) ?_ fun st' a1 a2 a3 => ⟨a1, a2, by rw [hz] at a3; exact a3⟩
          rw [hz]
          exact zip_sorted hkv (by omega) hor
      refine wpAny_bind (wpAny_mono run ?_ fun _ _ e => e)
      rintro ⟨⟨⟩, st'⟩ s'' ⟨rfl, hp, hf, hs⟩
      dsimp only
      refine wpAny_bind (listUpdate_at hoc rfl ?_ (hsz := by rw [List.size_toArray, hlk, sizeLine_eq]; omega))
      refine wpAny_bind (wpAny_letGo ?_)
      refine wpAny_bind (seqEpoch_at hoa4 rfl ?_)
      refine wpAny_bind (listUpdate_at hoa4 rfl ?_ (hsz2 := by rw [Array.size_map, hp.size_eq, hz, sizeLine_eq]; omega))
      rw [hf]
      simp only [bne_self_eq_false, Bool.false_eq_true, if_false]
      exact wpAny_pure (fin _ hp hs)
theorem sorted_keyS {X : Cx} {pins : List (Addr × Obj)} {σ : St} {H : Hp} {s : Shared} {E : Value → Shared → Prop} {p f : Addr} {its : List Value} {ks : List Int} {Q : Value → Shared → Prop}
    (I : Inv X pins σ H s) (hp : s.heap.IsList p its.toArray) (hl : its.length = ks.length) (h64 : its.length ≤ 1000) (hor : its.length < 64 ∨ ks.Pairwise (· ≤ ·))
    (hcall : ∀ (pins' : List (Addr × Obj)) (s' : Shared) (E' : Value → Shared → Prop) (i : Nat) (x : Value) (k : Int), its[i]? = some x → ks[i]? = some k → Inv X pins' σ H s' → wpAny (model X.prog X.w) X.A.in1.in1 (call (.ref f) [x]) (fun r s'' => (∃ t, r = .int k t) ∧ Inv X pins' σ H s'') E' s')
    (h : ∀ (s' : Shared) (l : Addr) (out : Array Keyed) (kv : List Value), Inv X pins σ H s' → FpOk X pins H l → (∃ e, s'.heap.get? l = some (seqObj "list" (out.map (·.2)) e)) → IntsAre kv ks → out.Perm (kv.toArray.zip its.toArray) → SortedTo out its.length → Q (.ref l) s') :
    wpAny (model X.prog X.w) X.A (call (.builtin "sorted") [.ref p] [(Str.ofString "key", .ref f)]) Q E s := by
  refine call_function_entry_kw kind_sorted plain_sorted entry_sorted (args_sorted_key _ _) ?_
  unfold Builtin.«sorted»
  refine wpAny_bind (m := checkCount "sorted" 1 1 _) (wpAny_pure ?_)
  refine wpAny_bind (collect_list hp ?_)
  refine wpAny_bind (wpAny_newList ?_)
  have hsz : ((s.heap.push (seqObj "list" #[] 0)).update s.heap.objs.size (Obj.mapSeq (· ++ its.toArray))).objs.size = s.heap.objs.size + 1 := by
    rw [Heap.size_update, size_push']
  have hoL : (((s.heap.push (seqObj "list" #[] 0)).update s.heap.objs.size (Obj.mapSeq (· ++ its.toArray))).push (seqObj "list" its.toArray 0)).get? (s.heap.objs.size + 1) = some (seqObj "list" its.toArray 0) := by
    rw [← hsz]; exact Heap.get?_push_size _ rfl
  have I2 : Inv X pins σ H { s with heap := ((s.heap.push (seqObj "list" #[] 0)).update s.heap.objs.size (Obj.mapSeq (· ++ its.toArray))).push (seqObj "list" its.toArray 0) } := I.kept (t' := s.toks) fun b o e =>
    Heap.get?_push_of_some _ (by rw [Heap.get?_update_ne _ _ _ _ (Nat.ne_of_lt (Heap.lt_size e))]; exact Heap.get?_push_of_some _ e)
  show wpAny _ _ _ _ _ { s with heap := ((s.heap.push (seqObj "list" #[] 0)).update s.heap.objs.size (Obj.mapSeq (· ++ its.toArray))).push (seqObj "list" its.toArray 0) }
  rw [hsz]
  have fl : FpOk X pins H (s.heap.objs.size + 1) := I.fpOk (Nat.le_succ _) (I.hok.fresh (Nat.le_succ _))
  refine wpAny_bind (wpAny_holding (wpAny_call_entry_kw slot_list_sort ⟨_, hoL, rfl⟩ entry_list_sort (sort_keyS I2 hoL fl hl h64 hor hcall fun s' out kv a1 a2 a3 a4 a5 => ⟨_, rfl, ?_⟩) (args_list_sort_key _ _)))
  exact wpAny_pure ⟨_, rfl, h s' _ out kv a1 fl a2 a3 a4 a5⟩
def tSortKS (K : PySem.W.Frag) (sp : Sp) (t : TA) : TE := fun σ H Q => t σ H fun zs H1 => ∃ (p : Addr) (xs : List V) (ks : List Int), zs = [.ref p] ∧ SqL K H1 p xs ∧ xs.length = ks.length ∧ xs.length ≤ 1000 ∧ (xs.length < 64 ∨ ks.Pairwise (· ≤ ·)) ∧
  (∀ (i : Nat) (v : V) (k : Int), xs[i]? = some v → ks[i]? = some k → sp [v] H1 (fun r H2 => r = .int k ∧ H2 = H1) E0) ∧
  ∀ (l : Addr) (m : List (Int × V)), H1 l = none → (ks.zip xs).Perm m → (m.map (·.1)).Pairwise (· ≤ ·) → Q (.ref l) (upd H1 l (.lst (m.map (·.2))))
section
variable {X : Cx} {k : Nat} {f : Addr} {fd : FuncData} {x : Str} {sp : Sp} {e : Expr} {te : TE} {fe : Expr} {p kp pos : Pos} {y : Str}
theorem pe_sortKS {t : TA} (F : FnOk X.prog X.w X.K X.mg X.base CX0 k f fd [y] sp) (hr : Room (k + 2) X.A) (hb : Binds X.K fd [y] []) (hg : Gl X "sorted") (hm : X.mg "sorted" = none) (hf : PE X fe (tC (.ref f))) (ha : PA X [e] t)
    (he : backTo pos (starEach (e :: []) X.env) = (false, eval e X.env) :: backTo pos (starEach [] X.env) := by rfl) (hplain : (backTo pos (starEach (e :: []) X.env)).any (·.1) = false := by rfl)
    (hall : (backToKw pos (keywordEach [⟨some "key", fe, kp⟩] X.env)).all (·.1.isSome) = true := by rfl)
    (hkw : (backToKw pos (keywordEach [⟨some "key", fe, kp⟩] X.env)).any (·.1.isNone) = false := by rfl)
    (hfm : (backToKw pos (keywordEach [⟨some "key", fe, kp⟩] X.env)).filterMap (·.1) = [("key" : Str)] := by rfl) :
    PE X (.Call (.Name "sorted" p) [e] [⟨some "key", fe, kp⟩] pos) (tSortKS X.K sp t) := by
  intro pins s σ H Q I h
  refine wpAny_Call_Name_kw (ld_blt I hg hm (show bootBuiltins "sorted" = some (.builtin "sorted") by decide +kernel) ?_)
  refine PyProof.Rows.callWith_kw (e := e) (rest := []) (thn (ha pos pins s σ H _ I h) fun us s1 ⟨vs, H1, I1, r1, q1⟩ => ?_) he hplain hall hkw
  refine kws_cons (thn (hf pins s1 σ H1 (fun v H2 => v = .ref f ∧ H2 = H1) I1 ⟨rfl, rfl⟩) fun fv s2 ⟨v, H2, I2, r2, e1, e2⟩ => kws_nil ?_)
  subst e1 e2
  obtain rfl : fv = Value.ref f := r2
  rw [hfm]
  obtain ⟨p, xs, ks, rfl, hq, hlen, h64, hor, hsp, q⟩ := q1
  obtain ⟨u, rfl, ru⟩ := vals1 r1
  obtain rfl : u = Value.ref p := ru
  obtain ⟨its, rv, pl, hz⟩ := I2.list hq
  have hil := rv.length
  show wpAny _ _ (call (.builtin "sorted") [.ref p] [(Str.ofString "key", .ref f)]) _ _ s2
  refine sorted_keyS (ks := ks) I2 pl.isList (by omega) (by omega) (hor.imp (fun z => by omega) id) (fun pins' s' E' i x k' hx hk I' => ?_) fun s' l out kv I' fl ⟨en, ho⟩ hkv hp hs => ?_
  · obtain ⟨v, hv, rvv⟩ : ∃ v, xs[i]? = some v ∧ RelV v x := by
      have hix : i < xs.length := by have := (List.getElem?_eq_some_iff.mp hx).1; omega
      obtain ⟨u, e3, r3⟩ := rv.get (i := i) (x := xs[i]) (List.getElem?_eq_getElem hix)
      rw [hx] at e3
      cases e3
      exact ⟨_, List.getElem?_eq_getElem hix, r3⟩
    refine wpAny_call (codeAny_mono (F.run X.A.in1.in1 X.stack s' H2 ⟨[x], []⟩ [x] [v] _ E0 hr.in1.in1 I'.env0.in1.in1 (hb s' [x] I'.kIn rfl) (.cons rvv .nil) (hsp i v k' hv hk)) fun r s'' hq => ?_)
    cases r with
    | error e => exact False.elim hq
    | ok fl =>
      cases fl with
      | ret u =>
        obtain ⟨v', H', I'', rr, e1, e2⟩ := I'.after hq
        subst e1 e2
        exact ⟨rr, I''⟩
      | next => exact False.elim hq
      | brk => exact False.elim hq
      | cont => exact False.elim hq
  · have hp' : out.toList.Perm (kv.zip its) := by
      have := Array.perm_iff_toList_perm.mp hp
      simpa using this
    obtain ⟨m, hpm, hpr⟩ := pr_perm hp'.symm (pr_zip hkv rv)
    have hvals := pr_vals hpr
    have hml := pr_len hpr
    have hol : out.toList.length = its.length := by rw [hp'.length_eq, List.length_zip, hkv.length]; omega
    refine ⟨.ref l, _, I'.adopt fl (its := out.toList.map (·.2)) hvals (by rw [List.length_map]; rw [sizeLine_eq]; omega) (n := en) (by rw [ho, ← Array.toList_map]), rfl, q l m fl.1 hpm ?_⟩
    rw [List.pairwise_iff_getElem]
    intro i j hi hj hij
    rw [List.length_map] at hi hj
    have key : ∀ (i : Nat) (h : i < m.length), PyProof.Rows.K out i = m[i].1 := by
      intro i hi
      obtain ⟨t, v, e⟩ := pr_at hpr (List.getElem?_eq_getElem hi)
      have e' : out[i]? = some (.int m[i].1 t, v) := by rw [← Array.getElem?_toList]; exact e
      unfold PyProof.Rows.K
      rw [e']
      rfl
    have := hs i j (Nat.le_of_lt hij) (by omega)
    rw [key i hi, key j hj] at this
    rw [List.getElem_map, List.getElem_map]
    exact this
end
end L2

set_option linter.all false
namespace PM
/-- a bundle: its weight, and the things in it -/
abbrev Bd := Nat × List Nat
def pairs : List Bd → List Bd
  | a :: b :: r => (a.1 + b.1, a.2 ++ b.2) :: pairs r
  | _ => []
def occ (R : List Bd) (p : Nat) : Nat := (R.map fun b => b.2.count p).sum
def Sorted (B : List Bd) : Prop := B.Pairwise fun a b => a.1 ≤ b.1
theorem perm_sum {a b : List Nat} (h : a.Perm b) : a.sum = b.sum := by
  induction h with
  | nil => rfl
  | cons x _ ih => simp [ih]
  | swap x y l => simp; omega
  | trans _ _ h1 h2 => exact h1.trans h2
theorem occ_perm {R S : List Bd} (h : R.Perm S) (p : Nat) : occ R p = occ S p := perm_sum (h.map _)
theorem occ_append (R S : List Bd) (p : Nat) : occ (R ++ S) p = occ R p + occ S p := by simp [occ]
theorem occ_cons (b : Bd) (S : List Bd) (p : Nat) : occ (b :: S) p = b.2.count p + occ S p := by simp [occ]
/-- what is parted one way is parted both ways -/
theorem part {R U X Y : List Bd} (h : (R ++ U).Perm (X ++ Y)) : ∃ RX RY UX UY, R.Perm (RX ++ RY) ∧ U.Perm (UX ++ UY) ∧ X.Perm (RX ++ UX) ∧ Y.Perm (RY ++ UY) := by
  induction R generalizing X Y with
  | nil => exact ⟨[], [], X, Y, .nil, h, .refl _, .refl _⟩
  | cons r R ih =>
    have hr : r ∈ X ++ Y := h.subset List.mem_cons_self
    rcases List.mem_append.mp hr with hX | hY
    · have e := List.perm_cons_erase hX
      have h2 : (R ++ U).Perm (X.erase r ++ Y) := (h.trans (e.append_right Y)).cons_inv
      obtain ⟨RX, RY, UX, UY, h3, h4, h5, h6⟩ := ih h2
      exact ⟨r :: RX, RY, UX, UY, h3.cons r, h4, e.trans (h5.cons r), h6⟩
    · have e := List.perm_cons_erase hY
      have h2 : (R ++ U).Perm (X ++ Y.erase r) := (h.trans ((e.append_left X).trans List.perm_middle)).cons_inv
      obtain ⟨RX, RY, UX, UY, h3, h4, h5, h6⟩ := ih h2
      exact ⟨RX, r :: RY, UX, UY, (h3.cons r).trans List.perm_middle.symm, h4, h5, e.trans (h6.cons r)⟩
/-- the parts of lighter pairs are lighter -/
theorem pair_down : ∀ (n : Nat) {B RP UP : List Bd}, B.length ≤ n → Sorted B → (RP ++ UP).Perm (pairs B) → (∀ r ∈ RP, ∀ u ∈ UP, r.1 ≤ u.1) →
    ∃ R U, (R ++ U).Perm B ∧ (∀ r ∈ R, ∀ u ∈ U, r.1 ≤ u.1) ∧ R.length = 2 * RP.length ∧ (∀ p, occ R p = occ RP p) ∧ ∀ r ∈ R, ∃ q ∈ RP, ∃ x ∈ B, q.1 = r.1 + x.1 := by
  intro n
  induction n with
  | zero =>
    intro B RP UP hB _ h _
    have e : B = [] := List.length_eq_zero_iff.mp (by omega)
    subst e
    have : RP = [] ∧ UP = [] := by
      have := List.perm_nil.mp h
      simpa using this
    obtain ⟨rfl, rfl⟩ := this
    exact ⟨[], [], .nil, fun _ h => (by simp at h), rfl, fun _ => rfl, fun _ h => (by simp at h)⟩
  | succ n ih =>
    intro B RP UP hB hs h hle
    match B, hB, hs, h with
    | [], _, _, h =>
      have : RP = [] ∧ UP = [] := by
        have := List.perm_nil.mp h
        simpa using this
      obtain ⟨rfl, rfl⟩ := this
      exact ⟨[], [], .nil, fun _ h => (by simp at h), rfl, fun _ => rfl, fun _ h => (by simp at h)⟩
    | [x], _, _, h =>
      have : RP = [] ∧ UP = [] := by
        have := List.perm_nil.mp h
        simpa using this
      obtain ⟨rfl, rfl⟩ := this
      exact ⟨[], [x], .refl _, fun _ h => (by simp at h), rfl, fun _ => rfl, fun _ h => (by simp at h)⟩
    | a :: b :: r, hB, hs, h =>
      have hs' : Sorted r := (List.pairwise_cons.mp (List.pairwise_cons.mp hs).2).2
      have ha := (List.pairwise_cons.mp hs).1
      have hb := (List.pairwise_cons.mp (List.pairwise_cons.mp hs).2).1
      have hab : a.1 ≤ b.1 := ha b List.mem_cons_self
      have hm : (a.1 + b.1, a.2 ++ b.2) ∈ RP ++ UP := h.symm.subset List.mem_cons_self
      rcases List.mem_append.mp hm with hR | hU
      · have e := List.perm_cons_erase hR
        have h2 : (RP.erase (a.1 + b.1, a.2 ++ b.2) ++ UP).Perm (pairs r) := ((e.append_right UP).symm.trans h).cons_inv
        obtain ⟨R, U, h3, h4, h5, h6, h7⟩ := ih (by simp at hB; omega) hs' h2 fun x hx u hu => hle x (List.mem_of_mem_erase hx) u hu
        have hl := e.length_eq
        rw [List.length_cons] at hl
        refine ⟨a :: b :: R, U, (h3.cons b).cons a, ?_, ?_, fun p => ?_, ?_⟩
        · intro x hx u hu
          have hur : u ∈ r := h3.subset (List.mem_append_right _ hu)
          rcases List.mem_cons.mp hx with rfl | hx
          · exact ha u (List.mem_cons_of_mem _ hur)
          · rcases List.mem_cons.mp hx with rfl | hx
            · exact hb u hur
            · exact h4 x hx u hu
        · rw [List.length_cons, List.length_cons, h5]; omega
        · rw [occ_perm e p, occ_cons, occ_cons, occ_cons, h6 p]
          show _ = (a.2 ++ b.2).count p + _
          rw [List.count_append]
          omega
        · intro x hx
          rcases List.mem_cons.mp hx with rfl | hx
          · exact ⟨_, hR, b, by simp, rfl⟩
          · rcases List.mem_cons.mp hx with rfl | hx
            · exact ⟨_, hR, a, by simp, Nat.add_comm _ _⟩
            · obtain ⟨q, hq, y, hy, e⟩ := h7 x hx
              exact ⟨q, List.mem_of_mem_erase hq, y, List.mem_cons_of_mem _ (List.mem_cons_of_mem _ hy), e⟩
      · have e := List.perm_cons_erase hU
        have h2 : (RP ++ UP.erase (a.1 + b.1, a.2 ++ b.2)).Perm (pairs r) := (List.perm_middle.symm.trans ((e.append_left RP).symm.trans h)).cons_inv
        obtain ⟨R, U, h3, h4, h5, h6, h7⟩ := ih (by simp at hB; omega) hs' h2 fun x hx u hu => hle x hx u (List.mem_of_mem_erase hu)
        have key : ∀ x ∈ R, x.1 ≤ a.1 ∧ x.1 ≤ b.1 := by
          intro x hx
          obtain ⟨q, hq, y, hy, e⟩ := h7 x hx
          have h8 : q.1 ≤ a.1 + b.1 := hle q hq _ hU
          have h9 := hb y hy
          omega
        refine ⟨R, a :: b :: U, ?_, ?_, h5, h6, fun x hx => ?_⟩
        · exact List.perm_middle.trans ((List.perm_middle.trans (h3.cons b)).cons a)
        · intro x hx u hu
          rcases List.mem_cons.mp hu with rfl | hu
          · exact (key x hx).1
          · rcases List.mem_cons.mp hu with rfl | hu
            · exact (key x hx).2
            · exact h4 x hx u hu
        · obtain ⟨q, hq, y, hy, e⟩ := h7 x hx
          exact ⟨q, hq, y, List.mem_cons_of_mem _ (List.mem_cons_of_mem _ hy), e⟩
/-- so many levels: each has the singles and the pairs of the one ahead, by weight -/
inductive Lev (sg : List Bd) : Nat → List Bd → Prop
  | zero : Lev sg 0 []
  | step {k : Nat} {B B' : List Bd} : Lev sg k B → B'.Perm (sg ++ pairs B) → Sorted B' → Lev sg (k + 1) B'
def sgl (wt : Nat → Nat) (p : Nat) : Bd := (wt p, [p])
theorem sgl_inj {wt : Nat → Nat} {p q : Nat} (h : sgl wt p = sgl wt q) : p = q := by
  have := congrArg Prod.snd h
  simpa [sgl] using this
theorem part_map {wt : Nat → Nat} {L : List Nat} {RX UX : List Bd} (h : (L.map (sgl wt)).Perm (RX ++ UX)) : ∃ RL UL, L.Perm (RL ++ UL) ∧ RX = RL.map (sgl wt) ∧ UX = UL.map (sgl wt) := by
  have g : ∀ b ∈ RX ++ UX, sgl wt (b.2.headD 0) = b := by
    intro b hb
    obtain ⟨p, _, rfl⟩ := List.mem_map.mp (h.symm.subset hb)
    rfl
  refine ⟨RX.map (·.2.headD 0), UX.map (·.2.headD 0), ?_, ?_, ?_⟩
  · have := h.map (·.2.headD 0)
    rw [List.map_map, List.map_append] at this
    have e : ((fun b : Bd => b.2.headD 0) ∘ sgl wt) = id := by funext p; rfl
    rw [e, List.map_id] at this
    exact this
  · rw [List.map_map]
    conv => lhs; rw [← List.map_id RX]
    exact List.map_congr_left fun b hb => (g b (List.mem_append_left _ hb)).symm
  · rw [List.map_map]
    conv => lhs; rw [← List.map_id UX]
    exact List.map_congr_left fun b hb => (g b (List.mem_append_right _ hb)).symm
theorem occ_sgl {wt : Nat → Nat} : ∀ {M : List Nat} {p : Nat}, occ (M.map (sgl wt)) p = M.count p
  | [], p => rfl
  | q :: M, p => by
    rw [List.map_cons, occ_cons, occ_sgl]
    show [q].count p + _ = _
    rw [List.count_cons, List.count_cons]
    simp
    omega
theorem count_one {p : Nat} : ∀ {M : List Nat}, M.Nodup → p ∈ M → M.count p = 1
  | [], _, h => by simp at h
  | a :: M, hn, h => by
    have hn' := List.nodup_cons.mp hn
    rw [List.count_cons]
    by_cases e : a = p
    · subst e
      rw [List.count_eq_zero_of_not_mem hn'.1]
      simp
    · have hm : p ∈ M := by
        rcases List.mem_cons.mp h with h | h
        · exact absurd h.symm e
        · exact h
      rw [count_one hn'.2 hm]
      simp [e]
def kr (R : List Bd) (k : Nat) (S : List Nat) : Nat := (S.map fun p => 2 ^ (k - occ R p)).sum
theorem sum_const {S : List Nat} {f : Nat → Nat} {c : Nat} (h : ∀ p ∈ S, f p = c) : (S.map f).sum = c * S.length := by
  induction S with
  | nil => rfl
  | cons a S ih =>
    rw [List.map_cons, List.sum_cons, h a List.mem_cons_self, ih fun p hp => h p (List.mem_cons_of_mem _ hp), List.length_cons, Nat.mul_succ]
    omega
theorem sum_congr {S : List Nat} {f g : Nat → Nat} (h : ∀ p ∈ S, f p = g p) : (S.map f).sum = (S.map g).sum := by rw [List.map_congr_left h]
/-- the lighter part of a level -/
theorem lev_part {wt : Nat → Nat} {L : List Nat} (hL : L.Nodup) (hw : ∀ p ∈ L, 0 < wt p) {k : Nat} {B : List Bd} (lv : Lev (L.map (sgl wt)) k B) : Sorted B ∧ (∀ b ∈ B, 0 < b.1) ∧
    ∀ R U, (R ++ U).Perm B → (∀ r ∈ R, ∀ u ∈ U, r.1 ≤ u.1) → ∃ S T, L.Perm (S ++ T) ∧ (∀ p ∈ S, 1 ≤ occ R p ∧ occ R p ≤ k ∧ sgl wt p ∈ R) ∧ (∀ p, p ∉ S → occ R p = 0) ∧ 2 * kr R k S + 2 ^ k * R.length = 2 ^ (k + 1) * S.length := by
  induction lv with
  | zero =>
    refine ⟨.nil, fun _ h => (by simp at h), fun R U h _ => ?_⟩
    have : R = [] ∧ U = [] := by
      have := List.perm_nil.mp h
      simpa using this
    obtain ⟨rfl, rfl⟩ := this
    exact ⟨[], L, .refl _, fun _ h => (by simp at h), fun _ _ => rfl, rfl⟩
  | @step k B B' _ hp hs ih =>
    obtain ⟨hsB, hpos, ih⟩ := ih
    have pos_pairs : ∀ (n : Nat) (B : List Bd), B.length ≤ n → (∀ b ∈ B, 0 < b.1) → ∀ b ∈ pairs B, 0 < b.1 := by
      intro n
      induction n with
      | zero => intro B hB _ b hb; have : B = [] := List.length_eq_zero_iff.mp (by omega); subst this; simp [pairs] at hb
      | succ n ih2 =>
        intro B hB h b hb
        match B, hB, h, hb with
        | [], _, _, hb => simp [pairs] at hb
        | [x], _, _, hb => simp [pairs] at hb
        | x :: y :: r, hB, h, hb =>
          rcases List.mem_cons.mp hb with rfl | hb
          · have := h x List.mem_cons_self
            show 0 < x.1 + y.1
            omega
          · exact ih2 r (by simp at hB; omega) (fun b hb => h b (List.mem_cons_of_mem _ (List.mem_cons_of_mem _ hb))) b hb
    refine ⟨hs, fun b hb => ?_, fun R U h hle => ?_⟩
    · rcases List.mem_append.mp (hp.subset hb) with hb | hb
      · obtain ⟨p, hpL, rfl⟩ := List.mem_map.mp hb
        exact hw p hpL
      · exact pos_pairs _ B (Nat.le_refl _) hpos b hb
    · obtain ⟨RX, RP, UX, UP, h1, h2, h3, h4⟩ := part (h.trans hp)
      obtain ⟨RL, UL, h5, rfl, rfl⟩ := part_map h3
      have mR : ∀ b, b ∈ RL.map (sgl wt) ∨ b ∈ RP → b ∈ R := fun b hb => h1.symm.subset (List.mem_append.mpr hb)
      have mU : ∀ b, b ∈ UL.map (sgl wt) ∨ b ∈ UP → b ∈ U := fun b hb => h2.symm.subset (List.mem_append.mpr hb)
      obtain ⟨R', U', h6, h7, h8, h9, h10⟩ := pair_down _ (Nat.le_refl _) hsB h4.symm fun r hr u hu => hle r (mR r (.inr hr)) u (mU u (.inr hu))
      obtain ⟨S, T, h11, h12, h13, h14⟩ := ih R' U' h6 h7
      have hocc : ∀ p, occ R p = RL.count p + occ R' p := fun p => by rw [occ_perm h1 p, occ_append, occ_sgl, h9 p]
      have hndR : RL.Nodup := (List.nodup_append.mp (h5.nodup_iff.mp hL)).1
      have hndS : S.Nodup := (List.nodup_append.mp (h11.nodup_iff.mp hL)).1
      have hsub : ∀ p ∈ S, p ∈ RL := by
        intro p hpS
        have hpL : p ∈ RL ++ UL := h5.subset (h11.symm.subset (List.mem_append_left _ hpS))
        rcases List.mem_append.mp hpL with hh | hh
        · exact hh
        · obtain ⟨q, hq, x, hx, e⟩ := h10 _ (h12 p hpS).2.2
          have := hle q (mR q (.inr hq)) _ (mU _ (.inl (List.mem_map_of_mem hh)))
          have hx0 := hpos x hx
          have e' : q.1 = wt p + x.1 := e
          have : q.1 ≤ wt p := this
          omega
      have hcnt : ∀ p ∈ RL, RL.count p = 1 := fun p hp => count_one hndR hp
      refine ⟨RL, UL, h5, fun p hpR => ⟨?_, ?_, mR _ (.inl (List.mem_map_of_mem hpR))⟩, fun p hpR => ?_, ?_⟩
      · rw [hocc, hcnt p hpR]; omega
      · rw [hocc, hcnt p hpR]
        by_cases hpS : p ∈ S
        · have := (h12 p hpS).2.1; omega
        · rw [h13 p hpS]; omega
      · rw [hocc, List.count_eq_zero_of_not_mem hpR, h13 p fun z => hpR (hsub p z)]
      · -- the room that they take
        have hspl : RL.Perm (S ++ RL.filter (fun p => !decide (p ∈ S))) := by
          have e1 : RL.Perm (RL.filter (fun p => decide (p ∈ S)) ++ RL.filter (fun p => !decide (p ∈ S))) := (List.filter_append_perm _ _).symm
          refine e1.trans (List.Perm.append_right _ ?_)
          rw [List.perm_ext_iff_of_nodup (hndR.filter _) hndS]
          intro p
          simp only [List.mem_filter, decide_eq_true_eq]
          exact ⟨fun h => h.2, fun h => ⟨hsub p h, h⟩⟩
        have hkr : kr R (k + 1) RL = kr R' k S + 2 ^ k * (RL.filter (fun p => !decide (p ∈ S))).length := by
          unfold kr
          have e2 : (RL.map fun p => 2 ^ (k + 1 - occ R p)).sum = (RL.map fun p => 2 ^ (k - occ R' p)).sum := by
            refine sum_congr fun p hp => ?_
            rw [hocc, hcnt p hp, show k + 1 - (1 + occ R' p) = k - occ R' p by omega]
          rw [e2, perm_sum (hspl.map _), List.map_append, List.sum_append]
          congr 1
          refine sum_const fun p hp => ?_
          simp only [List.mem_filter, Bool.not_eq_true', decide_eq_false_iff_not] at hp
          rw [h13 p hp.2, Nat.sub_zero]
        have hlR := h1.length_eq
        have hlS := hspl.length_eq
        rw [List.length_append, List.length_map] at hlR
        rw [List.length_append] at hlS
        rw [hkr, hlR, Nat.pow_succ 2 (k + 1), Nat.pow_succ 2 k]
        rw [h8, Nat.pow_succ 2 k] at h14
        generalize (RL.filter (fun p => !decide (p ∈ S))).length = xl at *
        generalize 2 ^ k = q at *
        rw [hlS]
        have e0 : ∀ z, q * 2 * z = 2 * (q * z) := fun z => by rw [Nat.mul_comm q 2, Nat.mul_assoc]
        have e00 : ∀ z, q * 2 * 2 * z = 4 * (q * z) := fun z => by rw [Nat.mul_assoc (q * 2) 2 z, e0 (2 * z), Nat.mul_left_comm q 2 z]; omega
        have e3 : q * (2 * RP.length) = 2 * (q * RP.length) := by rw [Nat.mul_left_comm]
        have e4 : q * 2 * S.length = 2 * (q * S.length) := e0 _
        have e5 : q * 2 * (S.length + xl + RP.length) = 2 * (q * S.length) + 2 * (q * xl) + 2 * (q * RP.length) := by
          rw [e0, Nat.mul_add q, Nat.mul_add q]; omega
        have e6 : q * 2 * 2 * (S.length + xl) = 4 * (q * S.length) + 4 * (q * xl) := by
          rw [e00, Nat.mul_add q]; omega
        rw [e5, e6]
        rw [e3, e4] at h14
        omega
/-! ### none costs less -/
theorem min_prefix : ∀ {B Z Z' : List Nat}, B.Pairwise (· ≤ ·) → B.Perm (Z ++ Z') → (B.take Z.length).sum ≤ Z.sum := by
  intro B
  induction B with
  | nil => intro Z Z' _ h; simp
  | cons b B ih =>
    intro Z Z' hs h
    have hb := (List.pairwise_cons.mp hs).1
    have hs' := (List.pairwise_cons.mp hs).2
    by_cases hbZ : b ∈ Z
    · have e := List.perm_cons_erase hbZ
      have h2 : B.Perm (Z.erase b ++ Z') := (h.trans (e.append_right Z')).cons_inv
      have := ih hs' h2
      rw [perm_sum e, e.length_eq, List.length_cons, List.take_succ_cons, List.sum_cons, List.sum_cons]
      omega
    · have hbZ' : b ∈ Z' := by
        rcases List.mem_append.mp (h.subset List.mem_cons_self) with h | h
        · exact absurd h hbZ
        · exact h
      have e := List.perm_cons_erase hbZ'
      match Z, h, hbZ with
      | [], _, _ => simp
      | z :: Z1, h, hbZ =>
        have h2 : B.Perm (Z1 ++ (z :: Z'.erase b)) := by
          have h3 : (b :: B).Perm (z :: (Z1 ++ (b :: Z'.erase b))) := h.trans ((e.append_left Z1).cons z)
          have h4 : (z :: (Z1 ++ (b :: Z'.erase b))).Perm (b :: (z :: (Z1 ++ Z'.erase b))) := ((List.perm_middle (a := b)).cons z).trans (.swap _ _ _)
          exact (h3.trans h4).cons_inv.trans List.perm_middle.symm
        have := ih hs' h2
        have hz : b ≤ z := by
          rcases List.mem_cons.mp (h.symm.subset (List.mem_append_left _ List.mem_cons_self)) with h | h
          · omega
          · exact hb z h
        rw [List.length_cons, List.take_succ_cons, List.sum_cons, List.sum_cons]
        omega
def ws (B : List Bd) : List Nat := B.map (·.1)
theorem pairs_take : ∀ (n : Nat) {B : List Bd}, B.length ≤ n → (pairs B).length = B.length / 2 ∧ ∀ j, ((ws (pairs B)).take j).sum ≤ ((ws B).take (2 * j)).sum := by
  intro n
  induction n with
  | zero =>
    intro B hB
    have : B = [] := List.length_eq_zero_iff.mp (by omega)
    subst this
    exact ⟨rfl, fun j => by simp [pairs, ws]⟩
  | succ n ih =>
    intro B hB
    match B, hB with
    | [], _ => exact ⟨rfl, fun j => by simp [pairs, ws]⟩
    | [x], _ => exact ⟨by simp [pairs], fun j => by simp [pairs, ws]⟩
    | a :: b :: r, hB =>
      obtain ⟨h1, h2⟩ := ih (B := r) (by simp at hB; omega)
      refine ⟨by rw [pairs, List.length_cons, h1, List.length_cons, List.length_cons]; omega, fun j => ?_⟩
      cases j with
      | zero => simp
      | succ j =>
        have := h2 j
        rw [show 2 * (j + 1) = 2 * j + 1 + 1 by omega]
        show (((a.1 + b.1) :: ws (pairs r)).take (j + 1)).sum ≤ ((a.1 :: b.1 :: ws r).take (2 * j + 1 + 1)).sum
        rw [List.take_succ_cons, List.take_succ_cons, List.take_succ_cons, List.sum_cons, List.sum_cons, List.sum_cons]
        omega
theorem take_sum_mono (B : List Nat) {i j : Nat} (h : i ≤ j) : (B.take i).sum ≤ (B.take j).sum := by
  have e : B.take i = (B.take j).take i := by rw [List.take_take, Nat.min_eq_left h]
  rw [e]
  conv => rhs; rw [← List.take_append_drop i (B.take j)]
  rw [List.sum_append]
  omega
theorem filt_sum (q : Nat → Bool) (f : Nat → Nat) : ∀ L : List Nat, ((L.filter q).map f).sum = (L.map fun p => if q p = true then f p else 0).sum
  | [] => rfl
  | a :: L => by
    rw [List.filter_cons, List.map_cons, List.sum_cons, ← filt_sum q f L]
    by_cases h : q a = true
    · rw [if_pos h, if_pos h, List.map_cons, List.sum_cons]
    · rw [if_neg h, if_neg h, Nat.zero_add]
theorem filt_len (q : Nat → Bool) : ∀ L : List Nat, (L.filter q).length = (L.map fun p => if q p = true then 1 else 0).sum
  | [] => rfl
  | a :: L => by
    rw [List.filter_cons, List.map_cons, List.sum_cons, ← filt_len q L]
    by_cases h : q a = true
    · rw [if_pos h, if_pos h, List.length_cons]; omega
    · rw [if_neg h, if_neg h, Nat.zero_add]
theorem sum_add (f g : Nat → Nat) : ∀ L : List Nat, (L.map fun p => f p + g p).sum = (L.map f).sum + (L.map g).sum
  | [] => rfl
  | a :: L => by rw [List.map_cons, List.map_cons, List.map_cons, List.sum_cons, List.sum_cons, List.sum_cons, sum_add f g L]; omega
theorem sum_mul (c : Nat) (f : Nat → Nat) : ∀ L : List Nat, (L.map fun p => c * f p).sum = c * (L.map f).sum
  | [] => by simp
  | a :: L => by rw [List.map_cons, List.map_cons, List.sum_cons, List.sum_cons, sum_mul c f L, Nat.mul_add]
section
variable (L : List Nat) (wt ln : Nat → Nat) (m : Nat)
def cK (k : Nat) : Nat := (L.map fun p => if decide (m < ln p + k) = true then 1 else 0).sum
def eK (k : Nat) : Nat := (L.map fun p => if decide (m < ln p + k) = true then 2 ^ (m - ln p) else 0).sum
def wK (k : Nat) : Nat := (L.map fun p => if decide (m < ln p + k) = true then wt p else 0).sum
def sK (k : Nat) : Nat := (L.map fun p => wt p * (ln p - (m - k))).sum
end
theorem lev_low {L : List Nat} {wt ln : Nat → Nat} {m : Nat} (hm : ∀ p ∈ L, ln p ≤ m) {k : Nat} {B : List Bd} (lv : Lev (L.map (sgl wt)) k B) : k ≤ m →
    ∃ T, T ≤ B.length ∧ ((ws B).take T).sum ≤ sK L wt ln m k ∧ ∃ er, er + 1 ≤ 2 ^ k ∧ 2 * eK L ln m k + 2 ^ k * T + er = 2 ^ (k + 1) * cK L ln m k := by
  induction lv with
  | zero =>
    intro _
    refine ⟨0, Nat.le_refl _, Nat.zero_le _, 0, Nat.le_refl _, ?_⟩
    have h1 : eK L ln m 0 = 0 := by
      unfold eK
      rw [sum_const (c := 0) fun p hp => if_neg (by have := hm p hp; simp; omega)]; omega
    have h2 : cK L ln m 0 = 0 := by
      unfold cK
      rw [sum_const (c := 0) fun p hp => if_neg (by have := hm p hp; simp; omega)]; omega
    rw [h1, h2]
  | @step k B B' _ hp hs ih =>
    intro hk
    obtain ⟨T, hT, hsum, er, her, heq⟩ := ih (by omega)
    obtain ⟨hpl, hpt⟩ := pairs_take _ (B := B) (Nat.le_refl _)
    have hq : (L.filter fun p => decide (m < ln p + (k + 1))).length = cK L ln m (k + 1) := filt_len _ L
    have hqw : ((L.filter fun p => decide (m < ln p + (k + 1))).map wt).sum = wK L wt ln m (k + 1) := filt_sum _ wt L
    have hcL : cK L ln m (k + 1) ≤ L.length := by rw [← hq]; exact List.length_filter_le _ _
    have hBl := hp.length_eq
    rw [List.length_append, List.length_map, hpl] at hBl
    refine ⟨cK L ln m (k + 1) + T / 2, by omega, ?_, er + 2 ^ k * (T % 2), ?_, ?_⟩
    · have hperm : (ws B').Perm (((L.filter fun p => decide (m < ln p + (k + 1))).map wt ++ (ws (pairs B)).take (T / 2)) ++ ((L.filter fun p => !decide (m < ln p + (k + 1))).map wt ++ (ws (pairs B)).drop (T / 2))) := by
        have h1 : (ws B').Perm (L.map wt ++ ws (pairs B)) := by
          have := hp.map (·.1)
          rw [List.map_append, List.map_map] at this
          exact this
        have h2 : (L.map wt).Perm ((L.filter fun p => decide (m < ln p + (k + 1))).map wt ++ (L.filter fun p => !decide (m < ln p + (k + 1))).map wt) := by
          rw [← List.map_append]
          exact (List.filter_append_perm _ _).symm.map wt
        have h3 : ws (pairs B) = (ws (pairs B)).take (T / 2) ++ (ws (pairs B)).drop (T / 2) := (List.take_append_drop _ _).symm
        refine h1.trans ((h2.append_right _).trans ?_)
        conv => lhs; rw [h3]
        generalize (L.filter fun p => decide (m < ln p + (k + 1))).map wt = a
        generalize (L.filter fun p => !decide (m < ln p + (k + 1))).map wt = b
        generalize (ws (pairs B)).take (T / 2) = c
        generalize (ws (pairs B)).drop (T / 2) = d
        rw [List.append_assoc, List.append_assoc]
        refine List.Perm.append_left a ?_
        rw [← List.append_assoc, ← List.append_assoc]
        exact List.perm_append_comm.append_right d
      have hsB : (ws B').Pairwise (· ≤ ·) := List.pairwise_map.mpr hs
      have h4 := min_prefix hsB hperm
      have hlen : ((L.filter fun p => decide (m < ln p + (k + 1))).map wt ++ (ws (pairs B)).take (T / 2)).length = cK L ln m (k + 1) + T / 2 := by
        rw [List.length_append, List.length_map, hq, List.length_take]
        have : (ws (pairs B)).length = B.length / 2 := by rw [ws, List.length_map, hpl]
        omega
      rw [hlen, List.sum_append, hqw] at h4
      have h5 := hpt (T / 2)
      have h6 := take_sum_mono (ws B) (show 2 * (T / 2) ≤ T by omega)
      have h7 : sK L wt ln m (k + 1) = sK L wt ln m k + wK L wt ln m (k + 1) := by
        unfold sK wK
        rw [← sum_add]
        refine sum_congr fun p hp => ?_
        have := hm p hp
        by_cases h : m < ln p + (k + 1)
        · rw [if_pos (decide_eq_true h), show ln p - (m - (k + 1)) = ln p - (m - k) + 1 by omega, Nat.mul_succ]
        · rw [if_neg (by simpa using h), show ln p - (m - (k + 1)) = ln p - (m - k) by omega, Nat.add_zero]
      omega
    · have h1 : T % 2 < 2 := Nat.mod_lt _ (by decide)
      have h2 : 2 ^ k * (T % 2) ≤ 2 ^ k * 1 := Nat.mul_le_mul_left _ (by omega)
      rw [Nat.pow_succ]
      omega
    · have h1 : eK L ln m (k + 1) + 2 ^ k * cK L ln m k = eK L ln m k + 2 ^ k * cK L ln m (k + 1) := by
        unfold eK cK
        rw [← sum_mul, ← sum_mul, ← sum_add, ← sum_add]
        refine sum_congr fun p hp => ?_
        have := hm p hp
        by_cases h : m < ln p + k
        · rw [if_pos (decide_eq_true (show m < ln p + (k + 1) by omega)), if_pos (decide_eq_true h), if_pos (decide_eq_true h), if_pos (decide_eq_true (show m < ln p + (k + 1) by omega))]
        · by_cases h' : m < ln p + (k + 1)
          · rw [if_pos (decide_eq_true h'), if_neg (by simpa using h), if_neg (by simpa using h), if_pos (decide_eq_true h'), show m - ln p = k by omega]
            omega
          · rw [if_neg (by simpa using h'), if_neg (by simpa using h), if_neg (by simpa using h), if_neg (by simpa using h')]
      have h2 : T = 2 * (T / 2) + T % 2 := by omega
      rw [Nat.pow_succ 2 (k + 1), Nat.pow_succ 2 k]
      rw [Nat.pow_succ 2 k] at heq
      generalize 2 ^ k = q at *
      generalize T / 2 = t2 at *
      generalize T % 2 = tr at *
      subst h2
      have e0 : ∀ z, q * 2 * z = 2 * (q * z) := fun z => by rw [Nat.mul_comm q 2, Nat.mul_assoc]
      have e00 : ∀ z, q * 2 * 2 * z = 4 * (q * z) := fun z => by rw [Nat.mul_assoc (q * 2) 2 z, e0 (2 * z), Nat.mul_left_comm q 2 z]; omega
      rw [e0, e00, Nat.mul_add q]
      rw [e0, Nat.mul_add q, Nat.mul_left_comm q 2] at heq
      omega
/-! ### what a bundle weighs -/
def Wt (L : List Nat) (wt : Nat → Nat) (b : Bd) : Prop := b.1 = (b.2.map wt).sum ∧ ∀ p ∈ b.2, p ∈ L
theorem wt_pairs {L : List Nat} {wt : Nat → Nat} : ∀ (n : Nat) {B : List Bd}, B.length ≤ n → (∀ b ∈ B, Wt L wt b) → ∀ b ∈ pairs B, Wt L wt b := by
  intro n
  induction n with
  | zero => intro B hB _ b hb; have : B = [] := List.length_eq_zero_iff.mp (by omega); subst this; simp [pairs] at hb
  | succ n ih =>
    intro B hB h b hb
    match B, hB, h, hb with
    | [], _, _, hb => simp [pairs] at hb
    | [x], _, _, hb => simp [pairs] at hb
    | x :: y :: r, hB, h, hb =>
      rcases List.mem_cons.mp hb with rfl | hb
      · obtain ⟨h1, h2⟩ := h x List.mem_cons_self
        obtain ⟨h3, h4⟩ := h y (List.mem_cons_of_mem _ List.mem_cons_self)
        refine ⟨?_, fun p hp => ?_⟩
        · show x.1 + y.1 = ((x.2 ++ y.2).map wt).sum
          rw [List.map_append, List.sum_append, h1, h3]
        · rcases List.mem_append.mp hp with hp | hp
          · exact h2 p hp
          · exact h4 p hp
      · exact ih (by simp at hB; omega) (fun b hb => h b (List.mem_cons_of_mem _ (List.mem_cons_of_mem _ hb))) b hb
theorem wt_lev {L : List Nat} {wt : Nat → Nat} {k : Nat} {B : List Bd} (lv : Lev (L.map (sgl wt)) k B) : ∀ b ∈ B, Wt L wt b := by
  induction lv with
  | zero => intro b hb; simp at hb
  | @step k B B' _ hp hs ih =>
    intro b hb
    rcases List.mem_append.mp (hp.subset hb) with hb | hb
    · obtain ⟨p, hpL, rfl⟩ := List.mem_map.mp hb
      exact ⟨by simp [sgl], fun q hq => by simp [sgl] at hq; subst hq; exact hpL⟩
    · exact wt_pairs _ (Nat.le_refl _) ih b hb
theorem one_sum {wt : Nat → Nat} {q : Nat} : ∀ {L : List Nat}, L.Nodup → q ∈ L → (L.map fun p => wt p * [q].count p).sum = wt q
  | [], _, h => by simp at h
  | a :: L, hn, h => by
    have hn' := List.nodup_cons.mp hn
    rw [List.map_cons, List.sum_cons]
    by_cases e : q = a
    · subst e
      have : (L.map fun p => wt p * [q].count p).sum = 0 * L.length := sum_const fun p hp => by
        have : [q].count p = 0 := List.count_eq_zero_of_not_mem (by simp; rintro rfl; exact hn'.1 hp)
        rw [this, Nat.mul_zero]
      rw [this]
      simp
    · have hm : q ∈ L := by
        rcases List.mem_cons.mp h with h | h
        · exact absurd h e
        · exact h
      rw [one_sum hn'.2 hm]
      have : [q].count a = 0 := List.count_eq_zero_of_not_mem (by simp; exact fun z => e z.symm)
      rw [this]
      simp
theorem wt_sum {L : List Nat} {wt : Nat → Nat} (hL : L.Nodup) : ∀ {M : List Nat}, (∀ p ∈ M, p ∈ L) → (M.map wt).sum = (L.map fun p => wt p * M.count p).sum
  | [], _ => by
    have := sum_const (S := L) (f := fun p => wt p * ([] : List Nat).count p) (c := 0) (fun p _ => by simp)
    rw [this]; simp
  | q :: M, h => by
    rw [List.map_cons, List.sum_cons, wt_sum hL fun p hp => h p (List.mem_cons_of_mem _ hp), ← one_sum (wt := wt) hL (h q List.mem_cons_self), ← sum_add]
    refine sum_congr fun p _ => ?_
    rw [← Nat.mul_add, ← List.count_append]
    rfl
theorem wt_all {L : List Nat} {wt : Nat → Nat} (hL : L.Nodup) : ∀ {R : List Bd}, (∀ b ∈ R, Wt L wt b) → (ws R).sum = (L.map fun p => wt p * occ R p).sum
  | [], _ => by rw [sum_const (c := 0) fun p _ => by simp [occ]]; simp [ws]
  | b :: R, h => by
    have hb := h b List.mem_cons_self
    show b.1 + (ws R).sum = _
    rw [wt_all hL fun b hb => h b (List.mem_cons_of_mem _ hb), hb.1, wt_sum hL hb.2, ← sum_add]
    refine sum_congr fun p _ => ?_
    rw [occ_cons, Nat.mul_add]
theorem lev_len {L : List Nat} {wt : Nat → Nat} {k : Nat} {B : List Bd} (lv : Lev (L.map (sgl wt)) k B) : 2 * L.length * 2 ^ k + 1 ≤ 2 ^ k * B.length + 2 * L.length + 2 ^ k := by
  induction lv with
  | zero => simp
  | @step k B B' _ hp hs ih =>
    have hl := hp.length_eq
    rw [List.length_append, List.length_map, (pairs_take _ (B := B) (Nat.le_refl _)).1] at hl
    rw [hl, Nat.pow_succ]
    have h2 : B.length ≤ 2 * (B.length / 2) + 1 := by omega
    generalize B.length / 2 = h at *
    generalize B.length = b at *
    generalize L.length = n at *
    generalize 2 ^ k = q at *
    have h3 : q * b ≤ q * (2 * h + 1) := Nat.mul_le_mul_left _ h2
    have e1 : q * (2 * h + 1) = 2 * (q * h) + q := by rw [Nat.mul_add, Nat.mul_left_comm]; omega
    have e2 : 2 * n * q = 2 * (q * n) := by rw [Nat.mul_assoc, Nat.mul_comm n]
    have e3 : 2 * n * (q * 2) = 4 * (q * n) := by rw [← Nat.mul_assoc, e2]; omega
    have e4 : q * 2 * (n + h) = 2 * (q * n) + 2 * (q * h) := by rw [Nat.mul_comm q 2, Nat.mul_assoc, Nat.mul_add q]; omega
    rw [e3, e4]
    rw [e2] at ih
    omega
/-- the lightest bundles of the last level: lengths that have room, and none cost less -/
theorem best {L : List Nat} {wt : Nat → Nat} (hL : L.Nodup) (hw : ∀ p ∈ L, 0 < wt p) {m : Nat} {B : List Bd} (lv : Lev (L.map (sgl wt)) m B) (hn : 2 ≤ L.length) (hm : L.length ≤ 2 ^ m) :
    (∀ p ∈ L, 1 ≤ occ (B.take (2 * L.length - 2)) p ∧ occ (B.take (2 * L.length - 2)) p ≤ m) ∧ (∀ p, p ∉ L → occ (B.take (2 * L.length - 2)) p = 0) ∧
    (L.map fun p => 2 ^ (m - occ (B.take (2 * L.length - 2)) p)).sum ≤ 2 ^ m ∧
    ∀ ln : Nat → Nat, (∀ p ∈ L, 1 ≤ ln p ∧ ln p ≤ m) → (L.map fun p => 2 ^ (m - ln p)).sum ≤ 2 ^ m → (L.map fun p => wt p * occ (B.take (2 * L.length - 2)) p).sum ≤ (L.map fun p => wt p * ln p).sum := by
  obtain ⟨hs, hpos, hpart⟩ := lev_part hL hw lv
  have hlen : 2 * L.length - 2 ≤ B.length := by
    have h1 := lev_len lv
    have h0 : 0 < 2 ^ m := Nat.pow_pos (by decide)
    rcases Nat.lt_or_ge B.length (2 * L.length - 2) with h | h
    · exfalso
      have h2 : 2 ^ m * (B.length + 3) ≤ 2 ^ m * (2 * L.length) := Nat.mul_le_mul_left _ (by omega)
      rw [Nat.mul_add] at h2
      rw [Nat.mul_comm (2 * L.length)] at h1
      omega
    · exact h
  have hRl : (B.take (2 * L.length - 2)).length = 2 * L.length - 2 := by rw [List.length_take]; omega
  have hsplit : (B.take (2 * L.length - 2) ++ B.drop (2 * L.length - 2)).Perm B := by rw [List.take_append_drop]
  have hle : ∀ r ∈ B.take (2 * L.length - 2), ∀ u ∈ B.drop (2 * L.length - 2), r.1 ≤ u.1 := by
    have : Sorted (B.take (2 * L.length - 2) ++ B.drop (2 * L.length - 2)) := by rw [List.take_append_drop]; exact hs
    exact (List.pairwise_append.mp this).2.2
  have hcost := wt_all hL (R := B.take (2 * L.length - 2)) fun b hb => wt_lev lv b (List.mem_of_mem_take hb)
  have hws : ws (B.take (2 * L.length - 2)) = (ws B).take (2 * L.length - 2) := by rw [ws, ws, List.map_take]
  obtain ⟨S, T, h1, h2, h3, h4⟩ := hpart _ _ hsplit hle
  rw [hRl] at h4
  generalize B.take (2 * L.length - 2) = R at *
  have hlL := h1.length_eq
  rw [List.length_append] at hlL
  -- all of them are there
  have hT : T = [] := by
    rcases Nat.eq_zero_or_pos T.length with h | h
    · exact List.length_eq_zero_iff.mp h
    · exfalso
      have h0 : 0 < 2 ^ m := Nat.pow_pos (by decide)
      have h5 : 2 ^ (m + 1) * S.length ≤ 2 ^ m * (2 * L.length - 2) := by
        have : 2 * S.length ≤ 2 * L.length - 2 := by omega
        rw [Nat.pow_succ, Nat.mul_assoc]
        exact Nat.mul_le_mul_left _ this
      have hk0 : kr R m S = 0 := by omega
      have hS0 : S = [] := by
        match S, hk0 with
        | [], _ => rfl
        | p :: S', hk0 =>
          exfalso
          unfold kr at hk0
          rw [List.map_cons, List.sum_cons] at hk0
          have : 0 < 2 ^ (m - occ R p) := Nat.pow_pos (by decide)
          omega
      subst hS0
      rw [hk0] at h4
      have h6 : 2 ^ m * (2 * L.length - 2) = 0 := by simpa using h4
      rcases Nat.mul_eq_zero.mp h6 with h | h <;> omega
  subst hT
  rw [List.append_nil] at h1
  rw [List.length_nil, Nat.add_zero] at hlL
  have hkL : kr R m S = (L.map fun p => 2 ^ (m - occ R p)).sum := (perm_sum (h1.map _)).symm
  refine ⟨fun p hp => ?_, fun p hp => h3 p fun z => hp (h1.symm.subset z), ?_, fun ln hln hK => ?_⟩
  · obtain ⟨a, b, _⟩ := h2 p (h1.subset hp)
    exact ⟨a, b⟩
  · rw [← hkL]
    rw [← hlL, Nat.pow_succ] at h4
    have e : 2 ^ m * (2 * L.length - 2) + 2 * 2 ^ m = 2 ^ m * 2 * L.length := by
      rw [Nat.mul_comm 2 (2 ^ m), ← Nat.mul_add, Nat.mul_assoc]
      congr 1
      omega
    omega
  · obtain ⟨T, hT, hsum, er, her, heq⟩ := lev_low (wt := wt) (ln := ln) (fun p hp => (hln p hp).2) lv (Nat.le_refl _)
    have hc : cK L ln m m = L.length := by
      unfold cK
      rw [sum_const (c := 1) fun p hp => if_pos (decide_eq_true (by have := (hln p hp).1; omega)), Nat.one_mul]
    have he : eK L ln m m = (L.map fun p => 2 ^ (m - ln p)).sum := by
      unfold eK
      exact sum_congr fun p hp => if_pos (decide_eq_true (by have := (hln p hp).1; omega))
    have hsk : sK L wt ln m m = (L.map fun p => wt p * ln p).sum := by
      unfold sK
      exact sum_congr fun p hp => by rw [Nat.sub_self, Nat.sub_zero]
    have hTT : 2 * L.length - 2 ≤ T := by
      rw [hc, he, Nat.pow_succ] at heq
      rcases Nat.lt_or_ge T (2 * L.length - 2) with h | h
      · exfalso
        have h5 : 2 ^ m * (T + 3) ≤ 2 ^ m * (2 * L.length) := Nat.mul_le_mul_left _ (by omega)
        rw [Nat.mul_add, ← Nat.mul_assoc] at h5
        omega
      · exact h
    rw [← hcost, hws, ← hsk]
    exact Nat.le_trans (take_sum_mono _ hTT) hsum
/-- one thing alone -/
theorem lev_one {wt : Nat → Nat} {p : Nat} {k : Nat} {B : List Bd} (lv : Lev ([p].map (sgl wt)) k B) : k = 0 ∨ B = [sgl wt p] := by
  induction lv with
  | zero => exact .inl rfl
  | @step k B B' _ hp hs ih =>
    right
    have : pairs B = [] := by
      rcases ih with rfl | rfl
      · rename_i h; cases h; rfl
      · rfl
    rw [this] at hp
    exact List.perm_singleton.mp hp
/-- lengths that are good ones for the things of P, and none of these cost less -/
def Best (P : List Nat) (wt : Nat → Nat) (m : Nat) (ln : Nat → Nat) : Prop :=
  (∀ p ∈ P, 1 ≤ ln p ∧ ln p ≤ m) ∧ (∀ p, p ∉ P → ln p = 0) ∧ (P.map fun p => 2 ^ (m - ln p)).sum ≤ 2 ^ m ∧
  ∀ l' : Nat → Nat, (∀ p ∈ P, 1 ≤ l' p ∧ l' p ≤ m) → (P.map fun p => 2 ^ (m - l' p)).sum ≤ 2 ^ m → (P.map fun p => wt p * ln p).sum ≤ (P.map fun p => wt p * l' p).sum
theorem Best.perm {P L : List Nat} {wt : Nat → Nat} {m : Nat} {ln : Nat → Nat} (h : Best L wt m ln) (hp : L.Perm P) : Best P wt m ln := by
  obtain ⟨h1, h2, h3, h4⟩ := h
  refine ⟨fun p hpP => h1 p (hp.symm.subset hpP), fun p hpP => h2 p fun z => hpP (hp.subset z), by rw [← perm_sum (hp.map _)]; exact h3, fun l' a b => ?_⟩
  rw [← perm_sum (hp.map _), ← perm_sum (hp.map _)]
  exact h4 l' (fun p hpL => a p (hp.subset hpL)) (by rw [perm_sum (hp.map _)]; exact b)
theorem all_best {L : List Nat} {wt : Nat → Nat} (hL : L.Nodup) (hw : ∀ p ∈ L, 0 < wt p) {m : Nat} {B : List Bd} (lv : Lev (L.map (sgl wt)) m B) (h1 : 1 ≤ L.length) (hm1 : 1 ≤ m) (hm : L.length ≤ 2 ^ m) :
    Best L wt m (occ (B.take (max 1 (2 * L.length - 2)))) := by
  by_cases hn : 2 ≤ L.length
  · have e : max 1 (2 * L.length - 2) = 2 * L.length - 2 := by omega
    rw [e]
    exact best hL hw lv hn hm
  · match L, h1, hn, hL, hw, lv with
    | [p], _, _, _, hw, lv =>
      rcases lev_one lv with h | rfl
      · omega
      · have e : ∀ q, occ ([sgl wt p].take (max 1 (2 * [p].length - 2))) q = [p].count q := fun q => by
          show occ [sgl wt p] q = _
          rw [occ_cons]
          show [p].count q + occ [] q = _
          rfl
        have ep : [p].count p = 1 := by simp
        refine ⟨fun q hq => ?_, fun q hq => ?_, ?_, fun l' a b => ?_⟩
        · rw [List.mem_singleton.mp hq, e, ep]; exact ⟨Nat.le_refl _, hm1⟩
        · rw [e]; exact List.count_eq_zero_of_not_mem hq
        · rw [List.map_cons, List.map_nil, List.sum_cons, List.sum_nil, e, ep]
          have : 2 ^ (m - 1) ≤ 2 ^ m := Nat.pow_le_pow_right (by decide) (by omega)
          omega
        · rw [List.map_cons, List.map_nil, List.map_cons, List.map_nil, List.sum_cons, List.sum_cons, e, ep]
          have := Nat.mul_le_mul_left (wt p) (a p List.mem_cons_self).1
          simp only [List.sum_nil]
          omega
    | a :: b :: r, _, hn, _, _, _ => exact absurd (by simp) hn
end PM

set_option Elab.async false
set_option linter.all false
set_option maxRecDepth 100000
set_option maxHeartbeats 4000000
namespace K8
open PySem L2 QQ
seal PE PA PS PSs PT PW PG PI
/-! ### the text by places -/
def top (i : Nat) : Stmt := PySem.Challenge.pw_balepress_k08_shares_refused.main.body.getD i (.Pass ⟨0, 0, 0, 0⟩)
abbrev sIsNumb : Stmt := top 21
abbrev sWhole : Stmt := top 22
abbrev sAreWhole : Stmt := top 23
abbrev sThings : Stmt := top 28
abbrev sNeed : Stmt := top 29
abbrev sWeight : Stmt := top 30
abbrev sPairs : Stmt := top 31
abbrev sLight : Stmt := top 32
abbrev sLengths : Stmt := top 33
abbrev sCellAt : Stmt := top 35
abbrev sMixed : Stmt := top 36
abbrev sIsNum : Stmt := top 37
abbrev sAlone : Stmt := top 38
abbrev sRefused : Stmt := top 39
abbrev sLetBy : Stmt := top 40
abbrev sWrong : Stmt := top 41
abbrev sLaw : Stmt := top 42
abbrev vN (n : Nat) : V := .int ((n : Nat) : Int)
/-- the other error classes, in the order in which they are asked -/
def names : List Str := ["BadBits", "BadBody", "BadCheck", "BadCode", "BadHead", "BadLengths", "BadLetters", "BadMark", "BadPieces", "BadRow", "BadTable", "BadTail", "Behind", "Cut", "NoBits", "NoRange", "Over"]
/-- a def of the top -/
structure Fn (K : PySem.W.Frag) (mg : Str → Option Value) (x : Str) (st : Stmt) (ps : List Str) (f : Addr) (fd : FuncData) : Prop where
  F : Fun K x x st f fd
  m : mg x = some (.ref f)
  b : Binds K fd ps []
/-- what the names of the text's top stand for -/
structure Txt (K : PySem.W.Frag) (mg : Str → Option Value) : Prop where
  isi : mg "isinstance" = none
  bool : mg "bool" = none
  int : mg "int" = none
  list : mg "list" = none
  tuple : mg "tuple" = none
  len : mg "len" = none
  range : mg "range" = none
  max : mg "max" = none
  sort : mg "sorted" = none
  enum : mg "enumerate" = none
  verr : mg "ValueError" = none
  most : ∃ t, mg "MOST_LENGTH" = some (.int 12 t)
  things : ∃ t, mg "MOST_THINGS" = some (.int 300 t)
  count : ∃ t, mg "MOST_COUNT" = some (.int 1000000 t)
  isnumb : ∃ (f : Addr) (fd : FuncData), Fun K "is_number" "is_number" sIsNumb f fd ∧ mg "is_number" = some (.ref f) ∧ Binds K fd ["thing"] []
/-- the error classes: the base one, that of lengths, all others by their names -/
structure Ers (K : PySem.W.Frag) (mg : Str → Option Value) (cP cL : Addr) (cs : List Addr) : Prop where
  mP : mg "PressError" = some (.ref cP)
  xP : ExC K cP
  mL : mg "BadShares" = some (.ref cL)
  xL : ExC K cL
  iL : ExI K cL
  nL : cL ≠ cP
  sL : PySem.W.mroIn K cL (.ref cP) = some true
  vL : PySem.W.kitOne K (.ref cL) (.type "ValueError") = some true
  oL : PySem.W.kitOne K (.ref cL) (.ref cL) = some true
  len : ∃ c0 c1 c2 c3 c4 c5 c6 c7 c8 c9 c10 c11 c12 c13 c14 c15 c16 : Addr, cs = [c0, c1, c2, c3, c4, c5, c6, c7, c8, c9, c10, c11, c12, c13, c14, c15, c16]
  m : ∀ (i : Nat) (x : Str) (c : Addr), names[i]? = some x → cs[i]? = some c → mg x = some (.ref c)
  k : ∀ (i : Nat) (c : Addr), cs[i]? = some c → PySem.W.kitOne K (.ref cL) (.ref c) = some false
/-! ### kinds of things -/
section
variable (K : PySem.W.Frag)
theorem kit_ib : PySem.W.kitOne K (.type "int") (.type "bool") = some false := by
  show (if (Value.type "int" == Value.type "bool") = true then some true else if PySem.W.kitMeta "bool" = true then (fastBuiltinMro "int").map (·.contains (.type "bool")) else none) = some false
  decide +kernel
theorem kit_ii : PySem.W.kitOne K (.type "int") (.type "int") = some true := by
  show (if (Value.type "int" == Value.type "int") = true then some true else if PySem.W.kitMeta "int" = true then (fastBuiltinMro "int").map (·.contains (.type "int")) else none) = some true
  decide +kernel
theorem kit_ll : PySem.W.kitOne K (.type "list") (.type "list") = some true := by
  show (if (Value.type "list" == Value.type "list") = true then some true else if PySem.W.kitMeta "list" = true then (fastBuiltinMro "list").map (·.contains (.type "list")) else none) = some true
  decide +kernel
theorem kit_bb : PySem.W.kitOne K (.type "bool") (.type "bool") = some true := by
  show (if (Value.type "bool" == Value.type "bool") = true then some true else if PySem.W.kitMeta "bool" = true then (fastBuiltinMro "bool").map (·.contains (.type "bool")) else none) = some true
  decide +kernel
theorem kit_no {t c : String} (h : (["NoneType", "str", "list", "tuple", "dict"].contains t && ["int", "bool"].contains c) = true) : PySem.W.kitOne K (.type t) (.type c) = some false := by
  show (if (Value.type t == Value.type c) = true then some true else if PySem.W.kitMeta c = true then (fastBuiltinMro t).map (·.contains (.type c)) else none) = some false
  have ht : t = "NoneType" ∨ t = "str" ∨ t = "list" ∨ t = "tuple" ∨ t = "dict" := by
    have := (Bool.and_eq_true_iff.mp h).1
    simpa using this
  have hc : c = "int" ∨ c = "bool" := by
    have := (Bool.and_eq_true_iff.mp h).2
    simpa using this
  rcases ht with rfl | rfl | rfl | rfl | rfl <;> rcases hc with rfl | rfl <;> decide +kernel
theorem kit_nl {t : String} (h : ["NoneType", "str", "int", "bool", "tuple", "dict"].contains t = true) : PySem.W.kitOne K (.type t) (.type "list") = some false := by
  show (if (Value.type t == Value.type "list") = true then some true else if PySem.W.kitMeta "list" = true then (fastBuiltinMro t).map (·.contains (.type "list")) else none) = some false
  have ht : t = "NoneType" ∨ t = "str" ∨ t = "int" ∨ t = "bool" ∨ t = "tuple" ∨ t = "dict" := by simpa using h
  rcases ht with rfl | rfl | rfl | rfl | rfl | rfl <;> decide +kernel
theorem kit_bi : PySem.W.kitOne K (.type "bool") (.type "int") = some true := by
  show (if (Value.type "bool" == Value.type "int") = true then some true else if PySem.W.kitMeta "int" = true then (fastBuiltinMro "bool").map (·.contains (.type "int")) else none) = some true
  decide +kernel
def NoInt (H : Hp) (x : V) : Prop := ∃ t b c, TyOf K H x t ∧ PySem.W.kitOne K t (.type "int") = some c ∧ PySem.W.kitOne K t (.type "bool") = some b ∧ (c = false ∨ b = true)
/-- what is_whole tells -/
def WhV (H : Hp) (x : V) (lo hi : Int) (b : Bool) : Prop := (∃ i, x = .int i ∧ b = (decide (lo ≤ i) && decide (i ≤ hi))) ∨ (NoInt K H x ∧ b = false)
variable {K}
theorem NoInt.bl {H : Hp} (b : Bool) : NoInt K H (.bl b) := ⟨_, true, true, .bl b, kit_bi K, kit_bb K, .inr rfl⟩
theorem NoInt.of {H : Hp} {x : V} {t : String} (ty : TyOf K H x (.type t)) (h : ["NoneType", "str", "list", "tuple", "dict"].contains t = true) : NoInt K H x :=
  ⟨_, false, false, ty, kit_no K (by rw [h]; rfl), kit_no K (by rw [h]; rfl), .inl rfl⟩
theorem NoInt.non {H : Hp} : NoInt K H .non := .of .non (by decide)
theorem NoInt.str {H : Hp} (x : Str) : NoInt K H (.str x) := .of (.str x) (by decide)
/-- no list of lengths by its things: no list, or one with something that is no length behind good ones -/
def NoLen (K : PySem.W.Frag) (H : Hp) (x : V) : Prop := (∃ t, TyOf K H x t ∧ PySem.W.kitOne K t (.type "list") = some false) ∨
  ∃ (a : Addr) (xs : List V) (j : Nat) (y : V), x = .ref a ∧ H a = some (.lst xs) ∧ (∀ i : Nat, i < j → ∃ n : Nat, n ≤ 1000000 ∧ xs[i]? = some (vN n)) ∧ xs[j]? = some y ∧ WhV K H y 0 1000000 false
/-- a list of numbers from 0 to 1000000 -/
def IsL (H : Hp) (x : V) (L : List Nat) : Prop := ∃ a, x = .ref a ∧ H a = some (.lst (L.map vN)) ∧ ∀ l ∈ L, l ≤ 1000000
end
theorem vN_inj {x y : Nat} : vN x = vN y ↔ x = y := by
  constructor
  · intro h
    injection h with h
    omega
  · rintro rfl; rfl
theorem get_vN {S : List Nat} {i : Nat} (h : i < S.length) : (S.map vN)[i]? = some (vN S[i]) := by simp [h]
theorem map_get {B : List Nat} {i : Nat} {y : V} (h : (B.map vN)[i]? = some y) : ∃ b, B[i]? = some b ∧ y = vN b := by
  rw [List.getElem?_map] at h
  cases e : B[i]? with
  | none => rw [e] at h; cases h
  | some z => rw [e] at h; exact ⟨z, rfl, (Option.some.inj h).symm⟩
theorem take_snoc {B : List Nat} {i b : Nat} (h : B[i]? = some b) : B.take (i + 1) = B.take i ++ [b] := by rw [List.take_add_one, h]; rfl
theorem sl2000 {n : Nat} (h : n ≤ 2000) : n ≤ sizeLine := Nat.le_trans h (by decide)
theorem sl2000' {n : Nat} (h : n ≤ 2000) : n < sizeLine := Nat.lt_of_le_of_lt h (by decide)
theorem mapI (R : List Nat) : R.map vN = (R.map fun b => ((b : Nat) : Int)).map V.int := by rw [List.map_map]; rfl
section
variable {P : Program} {w : World} {K : PySem.W.Frag} {mg : Str → Option Value} {base : Heap}
/-! ### is_whole -/
def spWhole (K : PySem.W.Frag) : Sp := fun vs H Q _ => ∃ (x : V) (lo hi : Int) (b : Bool), vs = [x, .int lo, .int hi] ∧ WhV K H x lo hi b ∧ Q (.bl b) H
theorem scWhole : FnScope ["thing", "least", "most"] ["thing", "least", "most"] (defScope sWhole) := ⟨rfl, rfl, rfl, by decide +kernel, rfl, by decide +kernel, by decide +kernel⟩
def spNumb (K : PySem.W.Frag) : Sp := fun vs H Q _ => ∃ (x : V) (b : Bool), vs = [x] ∧ ((∃ i, x = .int i ∧ b = true) ∨ (NoInt K H x ∧ b = false)) ∧ Q (.bl b) H
theorem scNumb : FnScope ["thing"] ["thing"] (defScope sIsNumb) := ⟨rfl, rfl, rfl, by decide +kernel, rfl, by decide +kernel, by decide +kernel⟩
theorem ok_numb {f : Addr} {fd : FuncData} (F : Fun K "is_number" "is_number" sIsNumb f fd) (T : Txt K mg) : FnOk P w K mg base CX0 0 f fd ["thing"] (spNumb K) := by
  refine F.ok0 scNumb (fun vs H Q E h => ?_) (fun cdv A outer s H vs Q E h => ?_)
  · obtain ⟨x, b, rfl, _⟩ := h
    rfl
  · obtain ⟨x, b, rfl, hw, k⟩ := h
    refine ⟨_, pss_one (ps_ret (pe_and (pe_callB call_isi (by rfl) T.isi PyProof.Rows.boot_isinstance (pa_cons (pv 0) (pa_cons (pe_bltn (v := .ty "int") (by rfl) T.int PyProof.Rows.boot_int rfl) pa_nil))) (pe_one (pe_not (pe_callB call_isi (by rfl) T.isi PyProof.Rows.boot_isinstance (pa_cons (pv 0) (pa_cons (pe_bltn (v := .ty "bool") (by rfl) T.bool PyProof.Rows.boot_bool rfl) pa_nil))))))), ?_⟩
    rcases hw with ⟨i, rfl, rfl⟩ | ⟨⟨t, b', c, ty, k1, k2, k3⟩, rfl⟩
    · refine ⟨_, rfl, _, _, _, _, rfl, .int _, kit_ii K, _, rfl, iteT ?_⟩
      exact ⟨_, rfl, _, _, _, _, rfl, .int _, kit_ib K, _, rfl, k⟩
    · refine ⟨_, rfl, _, _, _, _, rfl, ty, k1, _, rfl, ?_⟩
      cases c with
      | false => exact iteF k
      | true =>
        rcases k3 with k3 | k3
        · cases k3
        · subst k3
          exact iteT ⟨_, rfl, _, _, _, _, rfl, ty, k2, _, rfl, k⟩
theorem ok_whole {f : Addr} {fd : FuncData} (F : Fn K mg "is_whole" sWhole ["thing", "least", "most"] f fd) (T : Txt K mg) : FnOk P w K mg base CX0 1 f fd ["thing", "least", "most"] (spWhole K) := by
  obtain ⟨fN, fdN, NF, Nm, Nb⟩ := T.isnumb
  have GN := ok_numb (P := P) (w := w) (base := base) NF T
  refine F.F.ok scWhole (fun vs H Q E h => ?_) (fun cdv A outer s H vs Q E hr h => ?_)
  · obtain ⟨x, lo, hi, b, rfl, _⟩ := h
    rfl
  · obtain ⟨x, lo, hi, b, rfl, hw, k⟩ := h
    refine ⟨_, pss_one (ps_ret (pe_and (pe_call GN hr (by rfl) Nm NF.kp Nb .nil pass0 (pa_cons (pv 0) pa_nil)) (pe_one (pe_chain op_le op_le (pv 1) (pv 0) (pv 2))))), ?_⟩
    rcases hw with ⟨i, rfl, rfl⟩ | ⟨hN, rfl⟩
    · refine ⟨_, rfl, _, true, rfl, .inl ⟨i, rfl, rfl⟩, _, rfl, iteT ?_⟩
      refine ⟨_, rfl, _, rfl, _, _, rfl, rfl, _, rfl, ?_⟩
      refine ite2 (fun h1 => ?_) (fun h1 => ?_)
      · refine ⟨_, rfl, _, _, rfl, rfl, ?_⟩
        rw [h1, Bool.true_and] at k
        exact k
      · have h2 : decide (lo ≤ i) = false := by simpa using h1
        rw [h2, Bool.false_and] at k
        exact k
    · exact ⟨_, rfl, _, false, rfl, .inr ⟨hN, rfl⟩, _, rfl, iteF k⟩
/-! ### are_whole -/
def spAreWhole (K : PySem.W.Frag) : Sp := fun vs H Q _ => ∃ x : V, vs = [x, .int 0, .int 1000000] ∧ ((∃ B, IsL H x B ∧ Q (.bl true) H) ∨ (NoLen K H x ∧ Q (.bl false) H))
theorem scAreWhole : FnScope ["thing", "least", "most", "number"] ["thing", "least", "most"] (defScope sAreWhole) := ⟨rfl, rfl, rfl, by decide +kernel, rfl, by decide +kernel, by decide +kernel⟩
theorem byte_ok (b : Nat) (h : b ≤ 1000000) : (decide ((0 : Int) ≤ (b : Int)) && decide ((b : Int) ≤ 1000000)) = true := by
  rw [decide_eq_true (by omega), decide_eq_true (by omega)]; rfl
theorem ok_arewhole {f fW : Addr} {fd fdW : FuncData} (F : Fn K mg "are_whole" sAreWhole ["thing", "least", "most"] f fd) (W : Fn K mg "is_whole" sWhole ["thing", "least", "most"] fW fdW) (T : Txt K mg) : FnOk P w K mg base CX0 2 f fd ["thing", "least", "most"] (spAreWhole K) := by
  have GW : FnOk P w K mg base CX0 1 fW fdW ["thing", "least", "most"] (spWhole K) := ok_whole W T
  refine F.F.ok scAreWhole (fun vs H Q E h => ?_) (fun cdv A outer s H vs Q E hr h => ?_)
  · obtain ⟨x, rfl, _⟩ := h
    rfl
  · obtain ⟨x, rfl, h⟩ := h
    refine ⟨_, pss_cons (ps_if (pt_not (pt_val (pe_callB call_isi (by rfl) T.isi PyProof.Rows.boot_isinstance (pa_cons (pv 0) (pa_cons (pe_bltn (v := .ty "list") (by rfl) T.list PyProof.Rows.boot_list rfl) pa_nil))))) (pss_one (ps_ret pe_bl)) pss_nil)
      (pss_cons (ps_for PassesOwn.never rfl (pi_list (pv 0)) (pg_name (i := 3) scAreWhole.nd rfl (Or.inl rfl))
        (pss_one (ps_if (pt_not (pt_val (pe_call GW hr (by rfl) W.m W.F.kp W.b .nil pass0 (pa_cons (pv 3) (pa_cons (pv 1) (pa_cons (pv 2) pa_nil)))))) (pss_one (ps_ret pe_bl)) pss_nil)))
      (pss_one (ps_ret pe_bl))), ?_⟩
    rcases h with ⟨B, ⟨a, rfl, hB, hb⟩, k⟩ | ⟨⟨t, ty, kl⟩ | ⟨a, xs, j, y, rfl, hL, hg1, hj, hy⟩, k⟩
    · refine ⟨_, rfl, _, _, _, _, rfl, .lst hB, kit_ll K, _, rfl, iteF ?_⟩
      refine ⟨_, rfl, a, rfl, ⟨_, SqL.of hB⟩, for_list (K := K) (a := a) (xs := B.map vN) (fun i σ H2 => ∃ v : Option V, σ = [some (.ref a), some (.int 0), some (.int 1000000), v] ∧ H2 = H)
        ⟨none, rfl, rfl⟩ (fun i σ H2 _ ⟨_, _, e⟩ => by rw [e]; exact SqL.of hB) ?_ ?_⟩
      · rintro i y σ H2 hi ⟨v, rfl, rfl⟩
        obtain ⟨b, hb1, rfl⟩ : ∃ b, b ∈ B ∧ y = vN b := by
          rw [List.getElem?_map] at hi
          cases e : B[i]? with
          | none => rw [e] at hi; cases hi
          | some z => rw [e] at hi; exact ⟨z, List.mem_of_getElem? e, (Option.some.inj hi).symm⟩
        refine ⟨_, rfl, _, rfl, _, rfl, _, _, _, _, rfl, .inl ⟨_, rfl, rfl⟩, _, rfl, ?_⟩
        rw [byte_ok b (hb b hb1)]
        exact iteF ⟨_, rfl, rfl⟩
      · rintro σ H2 ⟨v, rfl, rfl⟩
        exact k
    · exact ⟨_, rfl, _, _, _, _, rfl, ty, kl, _, rfl, iteT k⟩
    · refine ⟨_, rfl, _, _, _, _, rfl, .lst hL, kit_ll K, _, rfl, iteF ?_⟩
      refine ⟨_, rfl, a, rfl, ⟨_, SqL.of hL⟩, for_list (K := K) (a := a) (xs := xs) (fun i σ H2 => i ≤ j ∧ ∃ v : Option V, σ = [some (.ref a), some (.int 0), some (.int 1000000), v] ∧ H2 = H)
        ⟨Nat.zero_le _, none, rfl, rfl⟩ (fun i σ H2 _ ⟨_, _, _, e⟩ => by rw [e]; exact SqL.of hL) ?_ ?_⟩
      · rintro i z σ H2 hi ⟨hij, v, rfl, rfl⟩
        by_cases e : i = j
        · subst e
          rw [hj] at hi
          cases hi
          exact ⟨_, rfl, _, rfl, _, rfl, _, _, _, _, rfl, hy, _, rfl, iteT k⟩
        · obtain ⟨n, hn, e2⟩ := hg1 i (by omega)
          rw [e2] at hi
          cases hi
          refine ⟨_, rfl, _, rfl, _, rfl, _, _, _, _, rfl, .inl ⟨_, rfl, rfl⟩, _, rfl, ?_⟩
          rw [byte_ok n hn]
          exact iteF ⟨by omega, _, rfl, rfl⟩
      · rintro σ H2 ⟨hij, v, rfl, rfl⟩
        have := (List.getElem?_eq_some_iff.mp hj).1
        omega
/-! ### are_of_things -/
def aot (L : List Nat) : Bool := decide (1 ≤ L.length) && decide (L.length ≤ 300) && L.any (fun l => decide (0 < l))
def spThings (K : PySem.W.Frag) : Sp := fun vs H Q _ => ∃ x : V, vs = [x, .int 1000000] ∧ ((∃ L, IsL H x L ∧ Q (.bl (aot L)) H) ∨ (NoLen K H x ∧ Q (.bl false) H))
theorem scThings : FnScope ["thing", "most"] ["thing", "most"] (defScope sThings) := ⟨rfl, rfl, rfl, by decide +kernel, rfl, by decide +kernel, by decide +kernel⟩
theorem ok_things {f fA fW : Addr} {fd fdA fdW : FuncData} (F : Fn K mg "are_of_things" sThings ["thing", "most"] f fd) (AW : Fn K mg "are_whole" sAreWhole ["thing", "least", "most"] fA fdA) (W : Fn K mg "is_whole" sWhole ["thing", "least", "most"] fW fdW) (T : Txt K mg) : FnOk P w K mg base CX0 31 f fd ["thing", "most"] (spThings K) := by
  have GA := ok_arewhole (P := P) (w := w) (base := base) AW W T
  obtain ⟨tt, ht⟩ := T.things
  refine F.F.ok scThings (fun vs H Q E h => ?_) (fun cdv A outer s H vs Q E hr h => ?_)
  · obtain ⟨x, rfl, _⟩ := h
    rfl
  · obtain ⟨x, rfl, h⟩ := h
    have hr2 : Room 2 _ := hr.mono (by decide)
    have hn := hr.hd (by decide)
    refine ⟨_, pss_cons (ps_if (pt_not (pt_val (pe_call GA hr2 (by rfl) AW.m AW.F.kp AW.b .nil pass0 (pa_cons (pv 0) (pa_cons pe_int (pa_cons (pv 1) pa_nil)))))) (pss_one (ps_ret pe_bl)) pss_nil)
      (pss_one (ps_ret (pe_and (pe_chain op_le op_le pe_int (pe_callB call_len_seq (by rfl) T.len PySem.boot_len (pa_cons (pv 0) pa_nil)) (pe_glob (v := .int 300) (by rfl) ht ⟨tt, rfl⟩))
        (pe_one (pe_cmpR op_gt (pe_callB (call_maxL hn) (by rfl) T.max PyProof.Rows.boot_max (pa_cons (pv 0) pa_nil)) pe_int (nomark _)))))), ?_⟩
    rcases h with ⟨L, ⟨a, rfl, hB, hb⟩, k⟩ | ⟨hN, k⟩
    · refine ⟨_, rfl, _, rfl, _, rfl, .inl ⟨L, ⟨a, rfl, hB, hb⟩, _, rfl, iteF ?_⟩⟩
      refine ⟨_, rfl, a, _, rfl, .inl (SqL.of hB), _, _, rfl, rfl, ?_⟩
      try dsimp only
      rw [List.length_map]
      refine ⟨_, rfl, ite2 (fun h1 => ?_) (fun h1 => ?_)⟩
      · have g1 : 1 ≤ L.length := by have := of_decide_eq_true h1; omega
        refine ⟨_, _, rfl, rfl, ?_⟩
        by_cases g2 : L.length ≤ 300
        · try dsimp only
          rw [decide_eq_true (show ((L.length : Nat) : Int) ≤ 300 by omega)]
          refine ⟨_, rfl, iteT ?_⟩
          refine ⟨_, rfl, a, L.map (fun b => ((b : Nat) : Int)), rfl, by rw [← mapI]; exact SqL.of hB, by rw [List.length_map]; omega, fun n hn hmax => ?_⟩
          refine ⟨_, _, rfl, rfl, ?_⟩
          have e : decide (0 < n) = aot L := by
            unfold aot
            rw [decide_eq_true g1, decide_eq_true g2, Bool.true_and, Bool.true_and]
            obtain ⟨b, hb1, rfl⟩ := List.mem_map.mp hn
            by_cases c : 0 < b
            · rw [decide_eq_true (by omega)]
              exact (List.any_eq_true.mpr ⟨b, hb1, decide_eq_true c⟩).symm
            · rw [decide_eq_false (by omega)]
              symm
              rw [List.any_eq_false]
              intro l hl z
              have := hmax _ (List.mem_map_of_mem (f := fun b => ((b : Nat) : Int)) hl)
              have := of_decide_eq_true z
              omega
          try dsimp only
          rw [e]
          exact k
        · try dsimp only
          rw [decide_eq_false (show ¬ ((L.length : Nat) : Int) ≤ 300 by omega)]
          refine ⟨_, rfl, iteF ?_⟩
          rw [show aot L = false by unfold aot; rw [decide_eq_false g2, Bool.and_false, Bool.false_and]] at k
          exact k
      · have g1 : ¬ 1 ≤ L.length := fun z => h1 (decide_eq_true (by omega))
        rw [show aot L = false by unfold aot; rw [decide_eq_false g1, Bool.false_and, Bool.false_and]] at k
        exact ⟨_, rfl, iteF k⟩
    · exact ⟨_, rfl, _, rfl, _, rfl, .inr ⟨hN, _, rfl, iteT k⟩⟩
end
end K8

set_option Elab.async false
set_option linter.all false
set_option maxRecDepth 100000
set_option maxHeartbeats 4000000
namespace K8
open PySem L2 QQ PM
seal PE PA PS PSs PT PW PG PI
/-- those that come -/
def cm (C : List Nat) : Nat := (C.filter (fun b => decide (0 < b))).length
/-- what need_shares lets by -/
def GoodS (C : List Nat) (m : Nat) : Prop := aot C = true ∧ 1 ≤ m ∧ m ≤ 12 ∧ cm C ≤ 2 ^ m
/-- what it refuses -/
def BadS (K : PySem.W.Frag) (H : Hp) (x y : V) : Prop := NoLen K H x ∨ ∃ C, IsL H x C ∧ (aot C = false ∨ (aot C = true ∧ (WhV K H y 1 12 false ∨ ∃ m : Nat, y = vN m ∧ 1 ≤ m ∧ m ≤ 12 ∧ 2 ^ m < cm C)))
theorem aot_le {C : List Nat} (h : aot C = true) : 1 ≤ C.length ∧ C.length ≤ 300 ∧ ∃ b ∈ C, 0 < b := by
  unfold aot at h
  rw [Bool.and_eq_true, Bool.and_eq_true] at h
  obtain ⟨⟨h1, h2⟩, h3⟩ := h
  obtain ⟨b, hb, hp⟩ := List.any_eq_true.mp h3
  exact ⟨of_decide_eq_true h1, of_decide_eq_true h2, b, hb, of_decide_eq_true hp⟩
section
variable {P : Program} {w : World} {K : PySem.W.Frag} {mg : Str → Option Value} {base : Heap} {cP cL : Addr} {cs : List Addr}
/-! ### need_shares -/
structure Shs (K : PySem.W.Frag) (mg : Str → Option Value) (cP cL : Addr) (cs : List Addr) : Prop where
  X : Txt K mg
  Z : Ers K mg cP cL cs
  whole : ∃ f fd, Fn K mg "is_whole" sWhole ["thing", "least", "most"] f fd
  arewhole : ∃ f fd, Fn K mg "are_whole" sAreWhole ["thing", "least", "most"] f fd
  things : ∃ f fd, Fn K mg "are_of_things" sThings ["thing", "most"] f fd
def spNeed (K : PySem.W.Frag) (cL : Addr) : Sp := fun vs H Q E => ∃ x y : V, vs = [x, y] ∧ ((∃ C m, IsL H x C ∧ y = vN m ∧ GoodS C m ∧ ∀ H', Same H H' → Q .non H') ∨ (BadS K H x y ∧ ∀ H', Same H H' → E (.ref cL) none H'))
theorem scNeed : FnScope ["counts", "most"] ["counts", "most"] (defScope sNeed) := ⟨rfl, rfl, rfl, by decide +kernel, rfl, by decide +kernel, by decide +kernel⟩
theorem ndC : (["count"] : List Str).Nodup := by decide +kernel
def ttC : TT := tTest (tOp (rI0 fun i j => .bl (decide (j < i))) (tVar 0) (tC (.int 0)))
theorem ok_need {f : Addr} {fd : FuncData} (F : Fn K mg "need_shares" sNeed ["counts", "most"] f fd) (Y : Shs K mg cP cL cs) : FnOk P w K mg base (CXE P w) 32 f fd ["counts", "most"] (spNeed K cL) := by
  obtain ⟨T, Z, ⟨_, _, W⟩, ⟨_, _, AW⟩, ⟨_, _, Th⟩⟩ := Y
  have GT := ok_things (P := P) (w := w) (base := base) Th AW W T
  have GW := ok_whole (P := P) (w := w) (base := base) W T
  obtain ⟨tc, hc⟩ := T.count
  obtain ⟨tm, hm⟩ := T.most
  refine F.F.okE scNeed (fun vs H Q E h => ?_) (fun cdv A outer s H vs Q E hr h => ?_)
  · obtain ⟨x, y, rfl, _⟩ := h
    rfl
  · obtain ⟨x, y, rfl, h⟩ := h
    have hr1 : Room 1 _ := hr.mono (by decide)
    refine ⟨_, pss_cons (ps_if (pt_not (pt_val (pe_call GT hr (by rfl) Th.m Th.F.kp Th.b .nil pass0 (pa_cons (pv 0) (pa_cons (pe_glob (v := .int 1000000) (by rfl) hc ⟨tc, rfl⟩) pa_nil))))) (pss_one (ps_raise passE (hr.hd (by decide)) (by rfl) Z.mL Z.xL pe_str)) pss_nil)
      (pss_cons (ps_if (pt_not (pt_val (pe_call GW hr1 (by rfl) W.m W.F.kp W.b .nil pass0 (pa_cons (pv 1) (pa_cons pe_int (pa_cons (pe_glob (v := .int 12) (by rfl) hm ⟨tm, rfl⟩) pa_nil)))))) (pss_one (ps_raise passE (hr.hd (by decide)) (by rfl) Z.mL Z.xL pe_str)) pss_nil)
      (pss_one (ps_if (pt_cmpR op_gt (pe_callB call_len_seq (by rfl) T.len PySem.boot_len (pa_cons (pe_compI (N := ["count"]) (g := gName 0) (tt := ttC) (te := tVar 0) rfl rfl (by decide +kernel) (by decide +kernel) (by decide +kernel) (pi_list (pv 0))
        (fun fp s H => pg_name (i := 0) ndC rfl (Or.inl rfl)) (fun fp s H => pt_cmpR op_gt (pv 0) pe_int (nomark _)) (fun fp s H => pv 0)) pa_nil)) (pe_op op_shl pe_int (pv 1)) (nomark _)) (pss_one (ps_raise passE (hr.hd (by decide)) (by rfl) Z.mL Z.xL pe_str)) pss_nil))), ?_⟩
    refine seq_g fun R1 g1 => ?_
    -- the kinds of what is refused first
    have ways : (∃ C, IsL H x C ∧ aot C = true ∧ ((∃ m : Nat, y = vN m ∧ 1 ≤ m ∧ m ≤ 12 ∧ ((cm C ≤ 2 ^ m ∧ ∀ H', Same H H' → Q .non H') ∨ (2 ^ m < cm C ∧ ∀ H', Same H H' → E (.ref cL) none H'))) ∨ (WhV K H y 1 12 false ∧ ∀ H', Same H H' → E (.ref cL) none H'))) ∨
        (((∃ C, IsL H x C ∧ aot C = false) ∨ NoLen K H x) ∧ ∀ H', Same H H' → E (.ref cL) none H') := by
      rcases h with ⟨C, m, hx, rfl, ⟨ha, m1, m2, hc⟩, k⟩ | ⟨hN | ⟨C, hx, ha | ⟨ha, hw | ⟨m, rfl, m1, m2, hc⟩⟩⟩, k⟩
      · exact .inl ⟨C, hx, ha, .inl ⟨m, rfl, m1, m2, .inl ⟨hc, k⟩⟩⟩
      · exact .inr ⟨.inr hN, k⟩
      · exact .inr ⟨.inl ⟨C, hx, ha⟩, k⟩
      · exact .inl ⟨C, hx, ha, .inr ⟨hw, k⟩⟩
      · exact .inl ⟨C, hx, ha, .inl ⟨m, rfl, m1, m2, .inr ⟨hc, k⟩⟩⟩
    clear h
    rcases ways with ⟨B, hx, ha, h⟩ | ⟨⟨C, hx, ha⟩ | hN, k⟩
    rotate_left
    · refine ⟨_, rfl, _, rfl, .inl ⟨C, hx, _, rfl, ?_⟩⟩
      rw [ha]
      exact iteT (k _ (Same.refl H))
    · exact ⟨_, rfl, _, rfl, .inr ⟨hN, _, rfl, iteT (k _ (Same.refl H))⟩⟩
    refine ⟨_, rfl, _, rfl, .inl ⟨B, hx, _, rfl, ?_⟩⟩
    rw [ha]
    refine iteF (g1 _ _ ?_)
    clear g1
    obtain ⟨h1, h3, _⟩ := aot_le ha
    refine seq_g fun R1 g1 => ?_
    rcases h with ⟨m, rfl, m1, m2, h⟩ | ⟨hw, k⟩
    rotate_left
    · exact ⟨_, rfl, y, 1, 12, false, rfl, hw, _, rfl, iteT (k _ (Same.refl H))⟩
    have e1 : (decide ((1 : Int) ≤ ((m : Nat) : Int)) && decide (((m : Nat) : Int) ≤ 12)) = true := by
      rw [decide_eq_true (show (1 : Int) ≤ ((m : Nat) : Int) by omega), decide_eq_true (show ((m : Nat) : Int) ≤ 12 by omega)]; rfl
    refine ⟨_, rfl, vN m, 1, 12, true, rfl, .inl ⟨_, rfl, e1.symm⟩, _, rfl, iteF (g1 _ _ ?_)⟩
    clear g1
    obtain ⟨a, rfl, hB, hb⟩ := hx
    refine ⟨_, rfl, a, rfl, ⟨_, SqL.of hB⟩, fun l nl => ?_⟩
    refine compI_li (K := K) (a := a) (l := l) (xs := B.map vN) (n := 1) (g := gName 0) (tt := ttC) (te := tVar 0)
      (fun i ys H' => ys = ((B.take i).filter (fun b => decide (0 < b))).map vN ∧ H' l = some (.lst ys) ∧ Same H H') ⟨rfl, upd_same, same_new nl⟩ (fun i ys H' _ ⟨_, _, sm⟩ => SqL.of (sm _ _ hB)) ?_ ?_ ?_ ?_ ?_
    · rintro i x ys σ H' hx ⟨rfl, hl, sm⟩ hσ
      obtain ⟨b, hb1, rfl⟩ := map_get hx
      have hil : i < B.length := (List.getElem?_eq_some_iff.mp hb1).1
      obtain ⟨u0, rfl⟩ : ∃ u0, σ = [u0] := match σ, hσ with | [u0], _ => ⟨u0, rfl⟩
      have hlen : ((B.take i).filter (fun b => decide (0 < b))).length ≤ 300 := Nat.le_trans (List.length_filter_le _ _) (by rw [List.length_take]; omega)
      refine ⟨_, rfl, _, _, rfl, rfl, _, rfl, ?_⟩
      rw [take_snoc hb1, List.filter_append]
      dsimp only
      by_cases h0 : 0 < b
      · rw [if_pos (decide_eq_true (show (0 : Int) < ((b : Nat) : Int) by omega))]
        refine ⟨_, rfl, hl, sl2000' (by rw [List.length_map]; omega), rfl, ?_, upd_same, fun c o e => ?_⟩
        · rw [List.filter_cons_of_pos (by simpa using h0), List.map_append]; rfl
        · rw [upd_ne (ne_of_none e nl)]; exact sm _ _ e
      · rw [if_neg (fun z => absurd (of_decide_eq_true z) (by omega))]
        refine ⟨rfl, ?_, ?_, sm⟩
        · rw [List.filter_cons_of_neg (by simpa using h0)]; simp
        · exact hl
    · rintro ys H' ⟨rfl, hl, sm⟩
      rw [List.length_map, List.take_length] at hl
      have e2 : (1 : Int) * 2 ^ (((m : Nat) : Int)).toNat = ((2 ^ m : Nat) : Int) := by rw [Int.one_mul, Int.toNat_natCast]; simp
      refine ⟨l, _, rfl, .inl (SqL.of hl), _, rfl, _, _, rfl, rfl, ⟨by omega, by omega, by decide⟩, _, _, rfl, rfl, _, rfl, ?_⟩
      dsimp only
      rw [List.length_map, e2]
      rcases h with ⟨hc, k⟩ | ⟨hc, k⟩
      · exact ite2 (fun h => by exfalso; have := of_decide_eq_true h; unfold cm at hc; omega) (fun _ => k _ sm)
      · exact ite2 (fun _ => k _ sm) (fun h => absurd (decide_eq_true (by unfold cm at hc; omega)) h)
    · exact fun x σ H A B h z => h _ _ z
    · exact fun σ H A B h ⟨v, e1, i, j, e2, e3, c, e4, z⟩ => ⟨v, e1, i, j, e2, e3, c, e4, h _ _ z⟩
    · exact fun σ H A B h ⟨v, e1, z⟩ => ⟨v, e1, h _ _ z⟩
/-! ### weight_of -/
/-- a bundle: a tuple of its weight and of the list of its things, none of them in A -/
def Bun (H : Hp) (A : List Addr) (t : Addr) (b : Bd) : Prop := ∃ l, t ∉ A ∧ l ∉ A ∧ H t = some (.tup [vN b.1, .ref l]) ∧ H l = some (.lst (b.2.map vN))
def spWeight : Sp := fun vs H Q _ => ∃ (t l : Addr) (n : Nat), vs = [.ref t] ∧ H t = some (.tup [vN n, .ref l]) ∧ Q (vN n) H
theorem scWeight : FnScope ["bundle"] ["bundle"] (defScope sWeight) := ⟨rfl, rfl, rfl, by decide +kernel, rfl, by decide +kernel, by decide +kernel⟩
theorem ok_weight {f : Addr} {fd : FuncData} (F : Fn K mg "weight_of" sWeight ["bundle"] f fd) : FnOk P w K mg base CX0 1 f fd ["bundle"] spWeight := by
  refine F.F.ok scWeight (fun vs H Q E h => ?_) (fun cdv A outer s H vs Q E hr h => ?_)
  · obtain ⟨t, l, n, rfl, _⟩ := h
    rfl
  · obtain ⟨t, l, n, rfl, ht, k⟩ := h
    refine ⟨_, pss_one (ps_ret (pe_ix ix_tup (pv 0) pe_int (fun _ _ => rfl))), ?_⟩
    exact ⟨_, rfl, t, _, _, _, rfl, rfl, SqT.of ht, atI_nat (j := 0) rfl, k⟩
end
end K8

set_option Elab.async false
set_option linter.all false
set_option maxRecDepth 100000
set_option maxHeartbeats 4000000
namespace K8
open PySem L2 QQ PM
seal PE PA PS PSs PT PW PG PI
inductive Buns (H : Hp) (A : List Addr) : List Addr → List Bd → Prop
  | nil : Buns H A [] []
  | cons {t : Addr} {b : Bd} {ts : List Addr} {bs : List Bd} : Bun H A t b → Buns H A ts bs → Buns H A (t :: ts) (b :: bs)
theorem Buns.keepA {H H' : Hp} {A : List Addr} {ts : List Addr} {bs : List Bd} (h : Buns H A ts bs) (s : ∀ c o, c ∉ A → H c = some o → H' c = some o) : Buns H' A ts bs := by
  induction h with
  | nil => exact .nil
  | cons a _ ih =>
    obtain ⟨l, n1, n2, h1, h2⟩ := a
    exact .cons ⟨l, n1, n2, s _ _ n1 h1, s _ _ n2 h2⟩ ih
theorem Buns.keep {H H' : Hp} {A : List Addr} {ts : List Addr} {bs : List Bd} (h : Buns H A ts bs) (s : Same H H') : Buns H' A ts bs := h.keepA fun c o _ e => s c o e
theorem Buns.sub {H : Hp} {A A' : List Addr} {ts : List Addr} {bs : List Bd} (h : Buns H A ts bs) (s : ∀ a ∈ A', a ∈ A) : Buns H A' ts bs := by
  induction h with
  | nil => exact .nil
  | cons a _ ih =>
    obtain ⟨l, n1, n2, h1, h2⟩ := a
    exact .cons ⟨l, fun z => n1 (s _ z), fun z => n2 (s _ z), h1, h2⟩ ih
theorem Buns.app {H : Hp} {A : List Addr} {ts us : List Addr} {bs cs : List Bd} (h : Buns H A ts bs) (g : Buns H A us cs) : Buns H A (ts ++ us) (bs ++ cs) := by
  induction h with
  | nil => exact g
  | cons a _ ih => exact .cons a ih
theorem Buns.len {H : Hp} {A : List Addr} {ts : List Addr} {bs : List Bd} (h : Buns H A ts bs) : ts.length = bs.length := by
  induction h with
  | nil => rfl
  | cons a _ ih => rw [List.length_cons, List.length_cons, ih]
theorem Buns.at {H : Hp} {A : List Addr} {ts : List Addr} {bs : List Bd} (h : Buns H A ts bs) : ∀ {i : Nat} {b : Bd}, bs[i]? = some b → ∃ t, ts[i]? = some t ∧ Bun H A t b := by
  induction h with
  | nil => intro i b h; simp at h
  | cons a _ ih =>
    intro i b h
    cases i with
    | zero => simp at h; subst h; exact ⟨_, rfl, a⟩
    | succ i => simp at h; simpa using ih h
theorem pairs_at : ∀ (n : Nat) {B : List Bd} {i : Nat} {a b : Bd}, B.length ≤ n → B[2 * i]? = some a → B[2 * i + 1]? = some b → (pairs B)[i]? = some (a.1 + b.1, a.2 ++ b.2) := by
  intro n
  induction n with
  | zero => intro B i a b hB h1 _; have : B = [] := List.length_eq_zero_iff.mp (by omega); subst this; simp at h1
  | succ n ih =>
    intro B i a b hB h1 h2
    match B, hB, h1, h2 with
    | [], _, h1, _ => simp at h1
    | [x], _, h1, h2 => simp at h2
    | x :: y :: r, hB, h1, h2 =>
      cases i with
      | zero => simp at h1 h2; subst h1 h2; rfl
      | succ i =>
        rw [show 2 * (i + 1) = 2 * i + 1 + 1 by omega] at h1 h2
        simp at h1 h2
        show (pairs r)[i]? = _
        exact ih (by simp at hB; omega) h1 h2
theorem get_ref {ts : List Addr} {i : Nat} {t : Addr} (h : ts[i]? = some t) : (ts.map V.ref)[i]? = some (.ref t) := by rw [List.getElem?_map, h]; rfl
section
variable {P : Program} {w : World} {K : PySem.W.Frag} {mg : Str → Option Value} {base : Heap}
theorem small2 (m : Nat) (h : m ≤ 2000) : Builtin.Range.small 1 ((m : Nat) : Int) 2 = true ∧ Builtin.Range.rangeSize 1 ((m : Nat) : Int) 2 = ((m / 2 : Nat) : Int) := by
  have e : Builtin.Range.rangeSize 1 ((m : Nat) : Int) 2 = ((m / 2 : Nat) : Int) := by
    unfold Builtin.Range.rangeSize
    rw [if_pos (by decide)]
    split <;> omega
  refine ⟨?_, e⟩
  have f : ∀ i : Int, 0 ≤ i → i < 100000 → Builtin.Range.rangeFitsLong i = true := fun i h0 h1 => by
    unfold Builtin.Range.rangeFitsLong
    rw [decide_eq_true (by omega), decide_eq_true (by omega)]
    rfl
  unfold Builtin.Range.small
  rw [e]
  try dsimp only
  rw [f 1 (by decide) (by decide), f ((m : Nat) : Int) (by omega) (by omega), f 2 (by decide) (by decide), f ((m / 2 : Nat) : Int) (by omega) (by omega), if_pos (by decide), f (((m : Nat) : Int) + (2 - 1)) (by omega) (by omega)]
  simp
/-! ### in_pairs -/
def spPairs : Sp := fun vs H Q _ => ∃ (p av : Addr) (ts : List Addr) (B : List Bd), vs = [.ref p] ∧ H p = some (.lst (ts.map V.ref)) ∧ (∃ o, H av = some o) ∧ Buns H [av] ts B ∧ B.length ≤ 1000 ∧ (∀ b ∈ B, b.2.length ≤ 8000000) ∧
  ∀ (l : Addr) (us : List Addr) (H' : Hp), Same H H' → H l = none → H' l = some (.lst (us.map V.ref)) → Buns H' [av] us (pairs B) → Q (.ref l) H'
abbrev nPairs : List Str := ["bundles", "pairs", "place", "first", "second"]
theorem scPairs : FnScope nPairs ["bundles"] (defScope sPairs) := ⟨rfl, rfl, rfl, by decide +kernel, rfl, by decide +kernel, by decide +kernel⟩
theorem ok_pairs {f : Addr} {fd : FuncData} (F : Fn K mg "in_pairs" sPairs ["bundles"] f fd) (T : Txt K mg) : FnOk P w K mg base CX0 1 f fd ["bundles"] spPairs := by
  refine F.F.ok scPairs (fun vs H Q E h => ?_) (fun cdv A outer s H vs Q E hr h => ?_)
  · obtain ⟨p, av, ts, B, rfl, _⟩ := h
    rfl
  · obtain ⟨p, av, ts, B, rfl, hp, ⟨oav, hav⟩, hB, hBl, hsm, k⟩ := h
    refine ⟨_, pss_cons (ps_set (i := 1) scPairs.nd rfl (Or.inl rfl) (pe_lst pa_nil))
      (pss_cons (ps_for PassesOwn.never rfl (pi_range3 (by rfl) T.range (pa_cons pe_int (pa_cons (pe_callB call_len_seq (by rfl) T.len PySem.boot_len (pa_cons (pv 0) pa_nil)) (pa_cons pe_int pa_nil)))) (pg_name (i := 2) scPairs.nd rfl (Or.inl rfl))
        (pss_cons (ps_set (i := 3) scPairs.nd rfl (Or.inl rfl) (pe_ix ix_list (pv 0) (pe_op op_sub (pv 2) pe_int) (fun _ _ => rfl)))
        (pss_cons (ps_set (i := 4) scPairs.nd rfl (Or.inl rfl) (pe_ix ix_list (pv 0) (pv 2) (fun _ _ => rfl)))
        (pss_one (ps_expr (pe_bm PySem.F.plainAttrs_list PySem.F.slot_list_append PySem.F.type_list_append mt_append (pv 1) (pa_cons (pe_tup (pa_cons (pe_op op_add (pe_ix ix_tup (pv 3) pe_int (fun _ _ => rfl)) (pe_ix ix_tup (pv 4) pe_int (fun _ _ => rfl)))
          (pa_cons (pe_op op_cat (pe_ix ix_tup (pv 3) pe_int (fun _ _ => rfl)) (pe_ix ix_tup (pv 4) pe_int (fun _ _ => rfl))) pa_nil))) pa_nil)))))))
      (pss_one (ps_ret (pv 1)))), ?_⟩
    have htl := hB.len
    refine seq_g fun R1 g1 => ?_
    refine ⟨by decide, fun l nl => g1 _ _ ?_⟩
    clear g1
    have s0 := same_new (o := .lst []) nl
    have hs2 := small2 ts.length (by omega)
    refine seq_g fun R1 g1 => ?_
    refine ⟨_, rfl, p, _, rfl, .inl (SqL.of (s0 _ _ hp)), 1, _, 2, ts.length / 2, rfl, by decide, by rw [List.length_map]; exact hs2.1, by rw [List.length_map]; exact hs2.2, PyProof.noPylong_small (by decide), for_range3 (D := ⟨_, _, fun _ _ => False, fun _ _ => False⟩) (lo := 1) (c := 2) (n := ts.length / 2)
      (fun i σ H2 => ∃ (v2 v3 v4 : Option V) (us : List Addr), σ = [some (.ref p), some (.ref l), v2, v3, v4] ∧ H2 l = some (.lst (us.map V.ref)) ∧ Buns H2 [l, av] us ((pairs B).take i) ∧ Same H H2) ⟨none, none, none, [], rfl, upd_same, .nil, s0⟩ ?_ ?_⟩
    · clear g1
      rintro i σ H2 hi ⟨v2, v3, v4, us, rfl, h2l, hus, sm⟩
      have l0 : 2 * i < B.length := by omega
      have l1 : 2 * i + 1 < B.length := by omega
      have g0 : B[2 * i]? = some B[2 * i] := List.getElem?_eq_getElem l0
      have g1 : B[2 * i + 1]? = some B[2 * i + 1] := List.getElem?_eq_getElem l1
      have z0 := hsm _ (List.getElem_mem l0)
      have z1 := hsm _ (List.getElem_mem l1)
      have hpa := pairs_at _ (Nat.le_refl _) g0 g1
      obtain ⟨t0, ht0, la, _, _, ha1, ha2⟩ := (hB.keep sm).at g0
      obtain ⟨t1, ht1, lb, _, _, hb1, hb2⟩ := (hB.keep sm).at g1
      generalize B[2 * i] = ba at *
      generalize B[2 * i + 1] = bb at *
      have e1 : (1 : Int) + ((i : Nat) : Int) * 2 = ((2 * i + 1 : Nat) : Int) := by omega
      have e2 : ((2 * i + 1 : Nat) : Int) - 1 = ((2 * i : Nat) : Int) := by omega
      have hp2 := sm _ _ hp
      rw [e1]
      refine seq_g fun R2 g2 => ?_
      refine ⟨_, rfl, _, rfl, _, _, rfl, rfl, ?_⟩
      try dsimp only
      rw [e2]
      refine ⟨p, _, _, _, rfl, rfl, SqL.of hp2, atI_nat (get_ref ht0), g2 _ _ ?_⟩
      clear g2
      refine seq_g fun R2 g2 => ?_
      refine ⟨_, rfl, _, rfl, p, _, _, _, rfl, rfl, SqL.of hp2, atI_nat (get_ref ht1), g2 _ _ ?_⟩
      clear g2
      have hul := hus.len
      rw [List.length_take] at hul
      refine ⟨_, rfl, .inl ⟨rfl, _, SqL.of h2l⟩, _, rfl, t0, _, _, _, rfl, rfl, SqT.of ha1, atI_nat (j := 0) rfl, _, rfl, t1, _, _, _, rfl, rfl, SqT.of hb1, atI_nat (j := 0) rfl, _, _, rfl, rfl,
        _, rfl, t0, _, _, _, rfl, rfl, SqT.of ha1, atI_nat (j := 1) rfl, _, rfl, t1, _, _, _, rfl, rfl, SqT.of hb1, atI_nat (j := 1) rfl, la, lb, _, _, rfl, rfl, ha2, hb2, (by rw [List.length_map, List.length_map, sizeLine_eq]; omega), fun q nq => ?_⟩
      have e3 : V.int (((ba.1 : Nat) : Int) + ((bb.1 : Nat) : Int)) = vN (ba.1 + bb.1) := congrArg V.int (by omega)
      have s3 := same_new (o := .lst (ba.2.map vN ++ bb.2.map vN)) nq
      have h3q : (upd H2 q (.lst (ba.2.map vN ++ bb.2.map vN))) q = some (.lst ((ba.2 ++ bb.2).map vN)) := by rw [upd_same, List.map_append]
      have h3l := s3 _ _ h2l
      generalize upd H2 q (.lst (ba.2.map vN ++ bb.2.map vN)) = H3 at *
      refine ⟨(by show 2 ≤ sizeLine; decide), fun t nt => ?_⟩
      try dsimp only
      rw [e3]
      have s4 := same_new (o := .tup [vN (ba.1 + bb.1), V.ref q]) nt
      have h4t : (upd H3 t (.tup [vN (ba.1 + bb.1), V.ref q])) t = some (.tup [vN (ba.1 + bb.1), V.ref q]) := upd_same
      have h4l := s4 _ _ h3l
      have h4q := s4 _ _ h3q
      have nql : q ≠ l := fun z => by rw [z, h2l] at nq; cases nq
      generalize upd H3 t (.tup [vN (ba.1 + bb.1), V.ref q]) = H4 at *
      have sm4 : Same H2 H4 := s3.trans s4
      refine ⟨l, _, _, rfl, rfl, h4l, sl2000' (by rw [List.length_map]; omega), some (vN (2 * i + 1)), some (.ref t0), some (.ref t1), us ++ [t], rfl, ?_, ?_, fun c o e => ?_⟩
      · rw [upd_same, List.map_append]; rfl
      · rw [List.take_add_one, hpa]
        have kk : ∀ c o, c ∉ [l, av] → H4 c = some o → (upd H4 l (.lst (us.map V.ref ++ [V.ref t]))) c = some o := fun c o n e => by rw [upd_ne (fun z => n (by simp [z]))]; exact e
        have h2av := sm _ _ hav
        have ntl : t ∉ [l, av] := fun z => by
          simp only [List.mem_cons, List.not_mem_nil, or_false] at z
          rcases z with rfl | rfl
          · rw [h3l] at nt; cases nt
          · rw [s3 _ _ h2av] at nt; cases nt
        have nqa : q ∉ [l, av] := fun z => by
          simp only [List.mem_cons, List.not_mem_nil, or_false] at z
          rcases z with rfl | rfl
          · exact nql rfl
          · rw [h2av] at nq; cases nq
        exact (hus.keepA fun c o n e => kk _ _ n (sm4 _ _ e)).app (.cons ⟨q, ntl, nqa, kk _ _ ntl h4t, kk _ _ nqa h4q⟩ .nil)
      · rw [upd_ne (ne_of_none e nl)]; exact sm4 _ _ (sm _ _ e)
    · rintro σ H2 ⟨v2, v3, v4, us, rfl, h2l, hus, sm⟩
      rw [List.take_of_length_le (by rw [(pairs_take _ (B := B) (Nat.le_refl _)).1]; omega)] at hus
      exact g1 _ _ ⟨_, rfl, k l us H2 sm nl h2l (hus.sub fun a h => by simp at h; simp [h])⟩
end
end K8

set_option Elab.async false
set_option linter.all false
set_option maxRecDepth 100000
set_option maxHeartbeats 4000000
namespace K8
open PySem L2 QQ PM
seal PE PA PS PSs PT PW PG PI
theorem perm_map {α β : Type} (φ : α → β) {l m : List β} (h : l.Perm m) : ∀ {Z : List α}, l = Z.map φ → ∃ Z', Z.Perm Z' ∧ m = Z'.map φ := by
  induction h with
  | nil => intro Z e; exact ⟨Z, .refl _, e⟩
  | cons x _ ih =>
    intro Z e
    cases Z with
    | nil => cases e
    | cons z Z =>
      obtain ⟨e1, e2⟩ := List.cons.inj e
      obtain ⟨Z', p, q⟩ := ih e2
      exact ⟨z :: Z', p.cons z, by rw [List.map_cons, ← q, e1]⟩
  | swap x y l =>
    intro Z e
    match Z, e with
    | a :: b :: Z, e =>
      obtain ⟨e1, e2⟩ := List.cons.inj e
      obtain ⟨e3, e4⟩ := List.cons.inj e2
      exact ⟨b :: a :: Z, .swap _ _ _, by rw [List.map_cons, List.map_cons, e1, e3, e4]⟩
  | trans _ _ h1 h2 =>
    intro Z e
    obtain ⟨Z1, p1, q1⟩ := h1 e
    obtain ⟨Z2, p2, q2⟩ := h2 q1
    exact ⟨Z2, p1.trans p2, q2⟩
theorem Buns.zip {H : Hp} {A : List Addr} {ts : List Addr} {bs : List Bd} (h : Buns H A ts bs) : ∀ z ∈ ts.zip bs, Bun H A z.1 z.2 := by
  induction h with
  | nil => intro z hz; simp at hz
  | cons a _ ih =>
    intro z hz
    rw [List.zip_cons_cons] at hz
    rcases List.mem_cons.mp hz with rfl | hz
    · exact a
    · exact ih z hz
theorem zip_key : ∀ (as : List Addr) (bs : List Bd), (bs.map (fun b => ((b.1 : Nat) : Int))).zip (as.map V.ref) = (as.zip bs).map (fun z : Addr × Bd => (((z.2.1 : Nat) : Int), V.ref z.1))
  | [], bs => by simp
  | a :: as, [] => by simp
  | a :: as, b :: bs => by
    have := zip_key as bs
    simp only [List.map_cons, List.zip_cons_cons, this]
theorem Buns.take {H : Hp} {A : List Addr} {ts : List Addr} {bs : List Bd} (h : Buns H A ts bs) : ∀ n, Buns H A (ts.take n) (bs.take n) := by
  induction h with
  | nil => intro n; rw [List.take_nil, List.take_nil]; exact .nil
  | cons a _ ih =>
    intro n
    cases n with
    | zero => exact .nil
    | succ n => exact .cons a (ih n)
theorem buns_of {H : Hp} {A : List Addr} : ∀ {Z : List (Addr × Bd)}, (∀ z ∈ Z, Bun H A z.1 z.2) → Buns H A (Z.map (·.1)) (Z.map (·.2))
  | [], _ => .nil
  | z :: Z, h => .cons (h z List.mem_cons_self) (buns_of fun y hy => h y (List.mem_cons_of_mem _ hy))
theorem lev_sz {L : List Nat} {wt : Nat → Nat} {k : Nat} {B : List Bd} (lv : Lev (L.map (sgl wt)) k B) : (∀ b ∈ B, b.2.length ≤ 2 ^ k) ∧ B.length ≤ 2 * L.length := by
  have ps : ∀ (n : Nat) (q : Nat) (B : List Bd), B.length ≤ n → (∀ b ∈ B, b.2.length ≤ q) → ∀ b ∈ pairs B, b.2.length ≤ 2 * q := by
    intro n
    induction n with
    | zero => intro q B hB _ b hb; have : B = [] := List.length_eq_zero_iff.mp (by omega); subst this; simp [pairs] at hb
    | succ n ih =>
      intro q B hB h b hb
      match B, hB, h, hb with
      | [], _, _, hb => simp [pairs] at hb
      | [x], _, _, hb => simp [pairs] at hb
      | x :: y :: r, hB, h, hb =>
        rcases List.mem_cons.mp hb with rfl | hb
        · have h1 := h x List.mem_cons_self
          have h2 := h y (List.mem_cons_of_mem _ List.mem_cons_self)
          show (x.2 ++ y.2).length ≤ _
          rw [List.length_append]; omega
        · exact ih q r (by simp at hB; omega) (fun b hb => h b (List.mem_cons_of_mem _ (List.mem_cons_of_mem _ hb))) b hb
  induction lv with
  | zero => exact ⟨fun b hb => by simp at hb, Nat.zero_le _⟩
  | @step k B B' _ hp hs ih =>
    have hpl := (pairs_take _ (B := B) (Nat.le_refl _)).1
    have hl := hp.length_eq
    rw [List.length_append, List.length_map, hpl] at hl
    refine ⟨fun b hb => ?_, by have := ih.2; omega⟩
    have h1 : 1 ≤ 2 ^ (k + 1) := Nat.one_le_two_pow
    rcases List.mem_append.mp (hp.subset hb) with hb | hb
    · obtain ⟨p, _, rfl⟩ := List.mem_map.mp hb
      exact h1
    · have := ps _ _ B (Nat.le_refl _) ih.1 b hb
      rw [Nat.pow_succ]; omega
/-! ### alike ones are in order already -/
theorem pairs_mem : ∀ {n : Nat} {B : List Bd}, B.length ≤ n → ∀ p ∈ pairs B, ∃ u ∈ B, ∃ v ∈ B, p.1 = u.1 + v.1
  | 0, B, h, p, hp => by
    have : B = [] := List.length_eq_zero_iff.mp (by omega)
    subst this
    simp [pairs] at hp
  | n + 1, [], h, p, hp => by simp [pairs] at hp
  | n + 1, [x], h, p, hp => by simp [pairs] at hp
  | n + 1, x :: y :: r, h, p, hp => by
    rcases List.mem_cons.mp hp with rfl | hp
    · exact ⟨x, List.mem_cons_self, y, List.mem_cons_of_mem _ List.mem_cons_self, rfl⟩
    · obtain ⟨u, hu, v, hv, e⟩ := pairs_mem (n := n) (B := r) (by simp at h; omega) p hp
      exact ⟨u, List.mem_cons_of_mem _ (List.mem_cons_of_mem _ hu), v, List.mem_cons_of_mem _ (List.mem_cons_of_mem _ hv), e⟩
theorem pairs_sorted : ∀ {n : Nat} {B : List Bd}, B.length ≤ n → Sorted B → Sorted (pairs B)
  | 0, B, h, _ => by
    have : B = [] := List.length_eq_zero_iff.mp (by omega)
    subst this
    exact List.Pairwise.nil
  | n + 1, [], h, _ => List.Pairwise.nil
  | n + 1, [x], h, _ => List.Pairwise.nil
  | n + 1, x :: y :: r, h, hs => by
    have h1 := List.pairwise_cons.mp hs
    have h2 := List.pairwise_cons.mp h1.2
    refine List.pairwise_cons.mpr ⟨fun p hp => ?_, pairs_sorted (n := n) (by simp at h; omega) h2.2⟩
    obtain ⟨u, hu, v, hv, e⟩ := pairs_mem (Nat.le_refl _) p hp
    have a1 := h1.1 u (List.mem_cons_of_mem _ hu)
    have a2 := h2.1 v hv
    show x.1 + y.1 ≤ p.1
    rw [e]
    omega
theorem lev_ge {S : List Bd} {w0 : Nat} (hS : ∀ s ∈ S, s.1 = w0) : ∀ {k : Nat} {B : List Bd}, Lev S k B → ∀ b ∈ B, w0 ≤ b.1 := by
  intro k B lv
  induction lv with
  | zero => intro b hb; cases hb
  | step _ hp _ ih =>
    intro b hb
    rcases List.mem_append.mp (hp.subset hb) with hb | hb
    · rw [hS b hb]; exact Nat.le_refl _
    · obtain ⟨u, hu, v, _, e⟩ := pairs_mem (Nat.le_refl _) b hb
      have := ih u hu
      rw [e]
      omega
theorem uni_sorted {S : List Bd} {w0 : Nat} (hS : ∀ s ∈ S, s.1 = w0) {k : Nat} {B : List Bd} (lv : Lev S (k + 1) B) : (S ++ pairs B).Pairwise (fun a b => a.1 ≤ b.1) := by
  have hB : Sorted B := by cases lv with | step _ _ hs => exact hs
  refine List.pairwise_append.mpr ⟨List.pairwise_of_forall_mem_list fun a ha b hb => by rw [hS a ha, hS b hb]; exact Nat.le_refl _, pairs_sorted (Nat.le_refl _) hB, fun a ha b hb => ?_⟩
  rw [hS a ha]
  obtain ⟨u, hu, v, _, e⟩ := pairs_mem (Nat.le_refl _) b hb
  have := lev_ge hS lv u hu
  rw [e]
  omega
section
variable {P : Program} {w : World} {K : PySem.W.Frag} {mg : Str → Option Value} {base : Heap}
/-! ### lightest_bundles -/
def spLight : Sp := fun vs H Q _ => ∃ (p av : Addr) (ts : List Addr) (L : List Nat) (wt : Nat → Nat) (m : Nat), vs = [.ref p, vN m] ∧ H p = some (.lst (ts.map V.ref)) ∧ (∃ o, H av = some o) ∧ Buns H [av] ts (L.map (sgl wt)) ∧ Sorted (L.map (sgl wt)) ∧ 1 ≤ L.length ∧ (L.length ≤ 30 ∨ L.length ≤ 64 ∧ ∃ w0, ∀ p ∈ L, wt p = w0) ∧ 1 ≤ m ∧ m ≤ 12 ∧
  ∀ (l : Addr) (us : List Addr) (B : List Bd) (H' : Hp), Same H H' → H l = none → H' l = some (.lst (us.map V.ref)) → Buns H' [av] us (B.take (max 1 (2 * L.length - 2))) → Lev (L.map (sgl wt)) m B → Q (.ref l) H'
abbrev nLight : List Str := ["singles", "most", "bundles", "step"]
theorem scLight : FnScope nLight ["singles", "most"] (defScope sLight) := ⟨rfl, rfl, rfl, by decide +kernel, rfl, by decide +kernel, by decide +kernel⟩
theorem ok_light {f fP fW : Addr} {fd fdP fdW : FuncData} (F : Fn K mg "lightest_bundles" sLight ["singles", "most"] f fd) (Pa : Fn K mg "in_pairs" sPairs ["bundles"] fP fdP) (We : Fn K mg "weight_of" sWeight ["bundle"] fW fdW) (T : Txt K mg) : FnOk P w K mg base CX0 31 f fd ["singles", "most"] spLight := by
  have GP := ok_pairs (P := P) (w := w) (base := base) Pa T
  have GW := ok_weight (P := P) (w := w) (base := base) We
  refine F.F.ok scLight (fun vs H Q E h => ?_) (fun cdv A outer s H vs Q E hr h => ?_)
  · obtain ⟨p, av, ts, L, wt, m, rfl, _⟩ := h
    rfl
  · obtain ⟨p, av, ts, L, wt, m, rfl, hp, ⟨oav, hav⟩, hB, hso, n1, n2', m1, m2, k⟩ := h
    have n2 : L.length ≤ 64 := by rcases n2' with z | ⟨z, _⟩ <;> omega
    have hr1 : Room 1 _ := hr.mono (by decide)
    have hr3 : Room 3 _ := hr.mono (by decide)
    have hn := hr.hd (by decide)
    refine ⟨_, pss_cons (ps_set (i := 2) scLight.nd rfl (Or.inl rfl) (pe_callTy call_list_of (by rfl) T.list PyProof.Rows.boot_list (pa_cons (pv 0) pa_nil)))
      (pss_cons (ps_for PassesOwn.never rfl (pi_range1 (by rfl) T.range (pa_cons (pe_op op_sub (pv 1) pe_int) pa_nil)) (pg_name (i := 3) scLight.nd rfl (Or.inl rfl))
        (pss_one (ps_set (i := 2) scLight.nd rfl (Or.inl rfl) (pe_sortKS (sp := spWeight) GW hr3 We.b (by rfl) T.sort (pe_glob (v := .ref fW) (by rfl) We.m rfl) (pa_cons (pe_op op_cat (pv 0) (pe_call GP hr1 (by rfl) Pa.m Pa.F.kp Pa.b .nil pass0 (pa_cons (pv 2) pa_nil))) pa_nil)))))
      (pss_one (ps_ret (pe_slice sl_list (pv 2) po_none (po_some (pe_callB (call_max2 hn) (by rfl) T.max PyProof.Rows.boot_max (pa_cons pe_int (pa_cons (pe_op op_sub (pe_op op_mul pe_int (pe_callB call_len_seq (by rfl) T.len PySem.boot_len (pa_cons (pv 0) pa_nil))) pe_int) pa_nil)))))))), ?_⟩
    have htl := hB.len
    rw [List.length_map] at htl
    refine seq_g fun R1 g1 => ?_
    refine ⟨_, rfl, p, _, rfl, .inl (SqL.of hp), fun l0 nl0 => g1 _ _ ?_⟩
    clear g1
    have s0 := same_new (o := .lst (ts.map V.ref)) nl0
    have lv1 : Lev (L.map (sgl wt)) 1 (L.map (sgl wt)) := .step .zero (by simp [pairs]) hso
    have e1 : ((m : Nat) : Int) - 1 = ((m - 1 : Nat) : Int) := by omega
    refine seq_g fun R1 g1 => ?_
    refine ⟨_, rfl, _, _, rfl, rfl, ?_⟩
    try dsimp only
    rw [e1]
    refine ⟨((m - 1 : Nat) : Int), rfl, by omega, by omega, ?_⟩
    rw [Int.toNat_natCast]
    refine for_range (D := ⟨_, _, fun _ _ => False, fun _ _ => False⟩) (lo := 0) (n := m - 1) (fun i σ H2 => ∃ (lb : Addr) (us : List Addr) (B : List Bd) (v3 : Option V), σ = [some (.ref p), some (vN m), some (.ref lb), v3] ∧ H2 lb = some (.lst (us.map V.ref)) ∧ Buns H2 [av] us B ∧ Lev (L.map (sgl wt)) (i + 1) B ∧ Same H H2)
      ⟨l0, ts, _, none, rfl, upd_same, hB.keep s0, lv1, s0⟩ ?_ ?_
    · clear g1
      rintro i σ H2 hi ⟨lb, us, B, v3, rfl, hlb, hus, lv, sm⟩
      obtain ⟨hsz, hBl⟩ := lev_sz lv
      have hsz2 : ∀ b ∈ B, b.2.length ≤ 8000000 := fun b hb => by
        have h1 := hsz b hb
        have h2 : 2 ^ (i + 1) ≤ 2 ^ 12 := Nat.pow_le_pow_right (by decide) (by omega)
        have h3 : (2 : Nat) ^ 12 = 4096 := by decide
        omega
      have hpl := (pairs_take _ (B := B) (Nat.le_refl _)).1
      refine ⟨_, rfl, _, rfl, lb, av, us, B, rfl, hlb, ⟨_, sm _ _ hav⟩, hus, by omega, hsz2, fun l ps H3 s3 nl hl hps => ?_⟩
      have hpsl := hps.len
      refine ⟨p, l, _, _, rfl, rfl, s3 _ _ (sm _ _ hp), hl, (by rw [List.length_map, List.length_map, sizeLine_eq]; omega), fun q nq => ?_⟩
      have s4 := same_new (o := .lst (ts.map V.ref ++ ps.map V.ref)) nq
      have hall : Buns (upd H3 q (.lst (ts.map V.ref ++ ps.map V.ref))) [av] (ts ++ ps) (L.map (sgl wt) ++ pairs B) := ((hB.keep (sm.trans s3)).app hps).keep s4
      have h4q : (upd H3 q (.lst (ts.map V.ref ++ ps.map V.ref))) q = some (.lst ((ts ++ ps).map V.ref)) := by rw [upd_same, List.map_append]
      have sm4 := (sm.trans s3).trans s4
      generalize upd H3 q (.lst (ts.map V.ref ++ ps.map V.ref)) = H4 at *
      have hal := hall.len
      refine ⟨q, (ts ++ ps).map V.ref, (L.map (sgl wt) ++ pairs B).map (fun b => ((b.1 : Nat) : Int)), rfl, SqL.of h4q, by rw [List.length_map, List.length_map]; exact hal, by rw [List.length_map, List.length_append]; omega, ?_, fun j v kk hv hk => ?_, fun lo mm nlo hperm hpw => ?_⟩
      · rcases n2' with z | ⟨_, w0, hw0⟩
        · exact .inl (by rw [List.length_map, List.length_append]; omega)
        · refine .inr ?_
          rw [List.pairwise_map]
          refine (uni_sorted (w0 := w0) (fun s hs => ?_) lv).imp (fun {a b} h => by omega)
          obtain ⟨p, hp, rfl⟩ := List.mem_map.mp hs
          exact hw0 p hp
      · rw [List.getElem?_map] at hk
        cases e : (L.map (sgl wt) ++ pairs B)[j]? with
        | none => rw [e] at hk; cases hk
        | some b =>
          rw [e] at hk
          obtain ⟨t, ht, lt, _, _, h1, h2⟩ := hall.at e
          rw [get_ref ht] at hv
          cases hv
          cases hk
          exact ⟨t, lt, b.1, rfl, h1, rfl, rfl⟩
      · have hz : ((L.map (sgl wt) ++ pairs B).map (fun b => ((b.1 : Nat) : Int))).zip ((ts ++ ps).map V.ref) = ((ts ++ ps).zip (L.map (sgl wt) ++ pairs B)).map (fun z : Addr × Bd => (((z.2.1 : Nat) : Int), V.ref z.1)) := zip_key _ _
        obtain ⟨Z', hZ, rfl⟩ := perm_map _ hperm hz
        have hZB : (Z'.map (·.2)).Perm (L.map (sgl wt) ++ pairs B) := by
          have := (hZ.symm.map (·.2))
          rw [List.map_snd_zip (by omega)] at this
          exact this
        have hso' : Sorted (Z'.map (·.2)) := by
          rw [List.map_map, List.pairwise_map] at hpw
          unfold Sorted
          rw [List.pairwise_map]
          exact hpw.imp (fun {a b} h => by have h' : ((a.2.1 : Nat) : Int) ≤ ((b.2.1 : Nat) : Int) := h; omega)
        have s5 := same_new (o := .lst ((Z'.map (fun z : Addr × Bd => (((z.2.1 : Nat) : Int), V.ref z.1))).map (·.2))) nlo
        refine ⟨lo, Z'.map (·.1), Z'.map (·.2), some (.int (0 + ((i : Nat) : Int))), rfl, ?_, ?_, .step lv hZB hso', sm4.trans s5⟩
        · rw [upd_same, List.map_map, List.map_map]; rfl
        · exact (buns_of fun z hz => hall.zip z (hZ.symm.subset hz)).keep s5
    · rintro σ H2 ⟨lb, us, B, v3, rfl, hlb, hus, lv, sm⟩
      rw [show m - 1 + 1 = m by omega] at lv
      refine g1 _ _ ?_
      clear g1
      obtain ⟨_, hBl⟩ := lev_sz lv
      have hul := hus.len
      refine ⟨_, rfl, _, rfl, p, _, rfl, .inl (SqL.of (sm _ _ hp)), _, _, rfl, rfl, .inl ⟨by decide, by decide⟩, _, _, rfl, rfl, _, _, rfl, ?_⟩
      have e2 : (if (2 : Int) * (((ts.map V.ref).length : Nat) : Int) - 2 > 1 then (2 : Int) * (((ts.map V.ref).length : Nat) : Int) - 2 else 1) = ((max 1 (2 * L.length - 2) : Nat) : Int) := by
        rw [List.length_map, htl]; split <;> omega
      try dsimp only
      rw [e2]
      refine ⟨_, rfl, lb, _, rfl, SqL.of hlb, fun l5 n5 => ?_⟩
      try dsimp only
      rw [take_cut, ← List.map_take]
      have s5 := same_new (o := .lst ((us.take (max 1 (2 * L.length - 2))).map V.ref)) n5
      exact k l5 _ B _ (sm.trans s5) (none_of sm n5) upd_same ((hus.take _).keep s5) lv
end
end K8

set_option Elab.async false
set_option linter.all false
set_option maxRecDepth 100000
set_option maxHeartbeats 4000000
namespace K8
open PySem L2 QQ PM
seal PE PA PS PSs PT PW PG PI
/-- a def of the top with a default -/
structure FnD (K : PySem.W.Frag) (mg : Str → Option Value) (x : Str) (st : Stmt) (ps : List Str) (f : Addr) (fd : FuncData) : Prop where
  F : ∃ dV, FunD K x x st dV f fd
  m : mg x = some (.ref f)
  b : Binds K fd ps []
  d : ∃ t, Binds K fd ps [.int 6 t]
theorem FnD.kp {K : PySem.W.Frag} {mg : Str → Option Value} {x : Str} {st : Stmt} {ps : List Str} {f : Addr} {fd : FuncData} (F : FnD K mg x st ps f fd) : PySem.W.keepIn K (.ref f) = true := F.F.elim fun _ z => z.kp
/-- the places of those that come -/
def cw (C : List Nat) (p : Nat) : Nat := C.getD p 0
def pos (C : List Nat) : List Nat := (List.range C.length).filter (fun p => decide (0 < cw C p))
theorem Buns.fresh {H : Hp} {A : List Addr} {av : Addr} {ts : List Addr} {bs : List Bd} (h : Buns H A ts bs) (n : H av = none) : Buns H [av] ts bs := by
  induction h with
  | nil => exact .nil
  | cons a _ ih =>
    obtain ⟨l, _, _, h1, h2⟩ := a
    exact .cons ⟨l, fun z => ne_of_none h1 n (List.mem_singleton.mp z), fun z => ne_of_none h2 n (List.mem_singleton.mp z), h1, h2⟩ ih
theorem ixN_nat {n j : Nat} (h : j < n) : ixN n ((j : Nat) : Int) = some j := by
  unfold ixN
  rw [if_pos (by omega), if_pos (by omega)]
  simp
theorem set_range {n q : Nat} {f f' : Nat → Nat} (h : ∀ p, f' p = f p + [q].count p) : ((List.range n).map fun p => vN (f p)).set q (vN (f q + 1)) = (List.range n).map fun p => vN (f' p) := by
  refine List.ext_getElem? fun i => ?_
  rw [List.getElem?_set, List.length_map, List.length_range, List.getElem?_map, List.getElem?_map]
  by_cases hi : i < n
  · rw [List.getElem?_range hi]
    by_cases e : q = i
    · subst e
      rw [if_pos rfl, if_pos hi, Option.map_some, h q]
      simp
    · rw [if_neg e, Option.map_some, Option.map_some, h i]
      have : [q].count i = 0 := List.count_eq_zero_of_not_mem (by simp; exact fun z => e z.symm)
      rw [this, Nat.add_zero]
  · have e2 : (List.range n)[i]? = none := List.getElem?_eq_none (by rw [List.length_range]; omega)
    rw [e2]
    by_cases e : q = i
    · subst e; rw [if_pos rfl, if_neg hi]; rfl
    · rw [if_neg e]; rfl
section
variable {P : Program} {w : World} {K : PySem.W.Frag} {mg : Str → Option Value} {base : Heap} {cP cL : Addr} {cs : List Addr}
theorem pos_len (C : List Nat) : (pos C).length = cm C := by
  have h : ∀ n, n ≤ C.length → ((List.range n).filter (fun p => decide (0 < cw C p))).length = ((C.take n).filter (fun b => decide (0 < b))).length := by
    intro n
    induction n with
    | zero => intro _; rfl
    | succ n ih =>
      intro hn
      have e : C[n]? = some C[n] := List.getElem?_eq_getElem (by omega)
      have ec : cw C n = C[n] := by rw [cw, List.getD_eq_getElem?_getD, e]; rfl
      rw [List.range_succ, List.take_add_one, e, List.filter_append, List.filter_append, List.length_append, List.length_append, ih (by omega)]
      congr 1
      show (List.filter _ [n]).length = (List.filter _ [C[n]]).length
      by_cases c : 0 < C[n]
      · rw [List.filter_cons_of_pos (by rw [ec]; exact decide_eq_true c), List.filter_cons_of_pos (by exact decide_eq_true c)]; rfl
      · rw [List.filter_cons_of_neg (by rw [ec]; simpa using c), List.filter_cons_of_neg (by simpa using c)]; rfl
  have := h C.length (Nat.le_refl _)
  rw [List.take_length] at this
  exact this
def spLengths (K : PySem.W.Frag) (cL : Addr) : Sp := fun vs H Q E => ∃ (x y : V), vs = [x, y] ∧ ((∃ (C : List Nat) (m : Nat), IsL H x C ∧ y = vN m ∧ GoodS C m ∧ ((pos C).length ≤ 30 ∨ (pos C).length ≤ 64 ∧ ∃ w0, ∀ p ∈ pos C, cw C p = w0) ∧
  ∀ (l : Addr) (ln : Nat → Nat) (H' : Hp), Same H H' → H' l = some (.lst ((List.range C.length).map fun p => vN (ln p))) → Q (.ref l) H') ∨ (BadS K H x y ∧ ∀ H', Same H H' → E (.ref cL) none H'))
abbrev nLengths : List Str := ["counts", "most", "singles", "lengths", "bundle", "place"]
theorem scLengths : FnScope nLengths ["counts", "most"] (defScope sLengths) := ⟨rfl, rfl, rfl, by decide +kernel, rfl, by decide +kernel, by decide +kernel⟩
theorem ndPC : (["place", "count"] : List Str).Nodup := by decide +kernel
def teSg : TE := tTup (tCons (tVar 1) (tCons (tLst (tCons (tVar 0) tNil)) tNil))
def ttSg : TT := tTest (tOp (rI0 fun i j => .bl (decide (j < i))) (tVar 1) (tC (.int 0)))
theorem ok_lengths {f fN fL fP fW : Addr} {fd fdN fdL fdP fdW : FuncData} (F : FnD K mg "lengths_of" sLengths ["counts", "most"] f fd) (Ne : Fn K mg "need_shares" sNeed ["counts", "most"] fN fdN)
    (Li : Fn K mg "lightest_bundles" sLight ["singles", "most"] fL fdL) (Pa : Fn K mg "in_pairs" sPairs ["bundles"] fP fdP) (We : Fn K mg "weight_of" sWeight ["bundle"] fW fdW) (Y : Shs K mg cP cL cs) : FnOk P w K mg base (CXE P w) 33 f fd ["counts", "most"] (spLengths K cL) := by
  have GN := ok_need (P := P) (w := w) (base := base) Ne Y
  have T := Y.X
  have GL := ok_light (P := P) (w := w) (base := base) Li Pa We T
  have GW := ok_weight (P := P) (w := w) (base := base) We
  obtain ⟨dV, F0⟩ := F.F
  refine F0.okE scLengths (fun vs H Q E h => ?_) (fun cdv A outer s H vs Q E hr h => ?_)
  · obtain ⟨x, y, rfl, _⟩ := h
    rfl
  · obtain ⟨x, y, rfl, h⟩ := h
    have hr31 : Room 31 _ := hr.mono (by decide)
    have hr3 : Room 3 _ := hr.mono (by decide)
    refine ⟨_, pss_cons (ps_expr (pe_call GN hr (by rfl) Ne.m Ne.F.kp Ne.b .nil passE (pa_cons (pv 0) (pa_cons (pv 1) pa_nil))))
      (pss_cons (ps_set (i := 2) scLengths.nd rfl (Or.inl rfl) (pe_sortKS (sp := spWeight) GW hr3 We.b (by rfl) T.sort (pe_glob (v := .ref fW) (by rfl) We.m rfl) (pa_cons (pe_compI (N := ["place", "count"]) (g := gTup K 2 (gCons (gName 0) (gCons (gName 1) gNil))) (tt := ttSg) (te := teSg) rfl rfl (by decide +kernel) (by decide +kernel) (by decide +kernel)
        (pi_enum (by rfl) T.enum (pa_cons (pv 0) pa_nil)) (fun fp s H => pg_tup rfl (pgs_cons (pg_name (i := 0) ndPC rfl (Or.inl rfl)) (pgs_cons (pg_name (i := 1) ndPC rfl (Or.inl rfl)) pgs_nil)))
        (fun fp s H => pt_cmpR op_gt (pv 1) pe_int (nomark _)) (fun fp s H => pe_tup (pa_cons (pv 1) (pa_cons (pe_lst (pa_cons (pv 0) pa_nil)) pa_nil)))) pa_nil)))
      (pss_cons (ps_set (i := 3) scLengths.nd rfl (Or.inl rfl) (pe_op op_rep (pe_lst (pa_cons pe_int pa_nil)) (pe_callB call_len_seq (by rfl) T.len PySem.boot_len (pa_cons (pv 0) pa_nil))))
      (pss_cons (ps_for PassesOwn.leaving rfl (pi_list (pe_call GL hr31 (by rfl) Li.m Li.F.kp Li.b .nil pass0 (pa_cons (pv 2) (pa_cons (pv 1) pa_nil)))) (pg_name (i := 4) scLengths.nd rfl (Or.inl rfl))
        (pss_one (ps_for PassesOwn.leaving rfl (pi_list (pe_ix ix_tup (pv 4) pe_int (fun _ _ => rfl))) (pg_name (i := 5) scLengths.nd rfl (Or.inl rfl))
          (pss_one (ps_asg (pe_op op_add (pe_ix ix_list (pv 3) (pv 5) (fun _ _ => rfl)) pe_int) (pg_sub (pv 3) (pv 5) set_list))))))
      (pss_one (ps_ret (pv 3)))))), ?_⟩
    -- good counts
    refine seq_g fun R1 g1 => ?_
    rcases h with ⟨C, m, ⟨a, rfl, ha, hC⟩, rfl, hG, p30, k⟩ | ⟨hbad, k⟩
    rotate_left
    · exact ⟨_, rfl, _, rfl, _, _, rfl, .inr ⟨hbad, k⟩⟩
    refine ⟨_, rfl, _, rfl, _, _, rfl, .inl ⟨C, m, ⟨a, rfl, ha, hC⟩, rfl, hG, fun H1 s1 => g1 _ _ ?_⟩⟩
    clear g1
    obtain ⟨haot, m1, m2, hfit⟩ := hG
    obtain ⟨c1, c3, b0, hb0, hp0⟩ := aot_le haot
    have pm : (pos C).length ≤ 2 ^ m := by rw [pos_len]; exact hfit
    have p1 : 1 ≤ (pos C).length := by
      rw [pos_len]
      unfold cm
      exact List.length_pos_of_mem (List.mem_filter.mpr ⟨hb0, decide_eq_true hp0⟩)
    have p64 : (pos C).length ≤ 64 := by rcases p30 with z | ⟨z, _⟩ <;> omega
    have ha1 := s1 _ _ ha
    -- the singles
    refine seq_g fun R1 g1 => ?_
    refine ⟨_, rfl, a, _, rfl, SqL.of ha1, fun l nl => ?_⟩
    refine compI_en (K := K) (a := a) (l := l) (xs := C.map vN) (n := 2) (g := gTup K 2 (gCons (gName 0) (gCons (gName 1) gNil))) (tt := ttSg) (te := teSg)
      (fun i ys H2 => ∃ ts : List Addr, ys = ts.map V.ref ∧ H2 l = some (.lst ys) ∧ Same H1 H2 ∧ Buns H2 [l] ts (((List.range i).filter (fun p => decide (0 < cw C p))).map (sgl (cw C))))
      ⟨[], rfl, upd_same, same_new nl, .nil⟩ (fun i ys H2 _ ⟨_, _, _, sm, _⟩ => SqL.of (sm _ _ ha1)) ?_ ?_ ?_ ?_ ?_
    · clear g1
      rintro i x ys σ H2 p hx ⟨ts, rfl, hl, sm, hb⟩ hσ hp
      obtain ⟨c, hc, rfl⟩ := map_get hx
      have hil : i < C.length := (List.getElem?_eq_some_iff.mp hc).1
      have hcw : cw C i = c := by rw [cw, List.getD_eq_getElem?_getD, hc]; rfl
      obtain ⟨u0, u1, rfl⟩ : ∃ u0 u1, σ = [u0, u1] := match σ, hσ with | [u0, u1], _ => ⟨u0, u1, rfl⟩
      have sp := same_new (o := .tup [.int ((i : Nat) : Int), vN c]) hp
      have hlp := sp _ _ hl
      have hpp : (upd H2 p (.tup [.int ((i : Nat) : Int), vN c])) p = some (.tup [vN i, vN c]) := upd_same
      generalize upd H2 p (.tup [.int ((i : Nat) : Int), vN c]) = H3 at *
      refine ⟨p, _, rfl, SqT.of hpp, rfl, _, _, rfl, _, _, rfl, rfl, ?_⟩
      refine ⟨_, rfl, _, _, rfl, rfl, _, rfl, ?_⟩
      have htl := hb.len
      rw [List.length_map] at htl
      have hfl : ((List.range i).filter (fun p => decide (0 < cw C p))).length ≤ 300 := Nat.le_trans (List.length_filter_le _ _) (by rw [List.length_range]; omega)
      dsimp only
      rw [List.range_succ, List.filter_append]
      by_cases h0 : 0 < c
      · rw [if_pos (decide_eq_true (show (0 : Int) < ((c : Nat) : Int) by omega)), List.filter_cons_of_pos (by rw [hcw]; exact decide_eq_true h0)]
        refine ⟨_, rfl, _, rfl, (by show 1 ≤ sizeLine; decide), fun q nq => ⟨(by show 2 ≤ sizeLine; decide), fun t nt => ?_⟩⟩
        have sq := same_new (o := .lst [vN i]) nq
        have hlq := sq _ _ hlp
        have hqq : (upd H3 q (.lst [vN i])) q = some (.lst [vN i]) := upd_same
        have nql : q ∉ [l] := fun z => by rw [List.mem_singleton.mp z, hlp] at nq; cases nq
        generalize upd H3 q (.lst [vN i]) = H4 at *
        have st := same_new (o := .tup [vN c, V.ref q]) nt
        have hlt := st _ _ hlq
        have hqt := st _ _ hqq
        have htt : (upd H4 t (.tup [vN c, V.ref q])) t = some (.tup [vN c, V.ref q]) := upd_same
        have ntl : t ∉ [l] := fun z => by rw [List.mem_singleton.mp z, hlq] at nt; cases nt
        generalize upd H4 t (.tup [vN c, V.ref q]) = H5 at *
        have s25 : Same H2 H5 := (sp.trans sq).trans st
        have kk : ∀ c' o, c' ∉ [l] → H5 c' = some o → (upd H5 l (.lst (ts.map V.ref ++ [V.ref t]))) c' = some o := fun c' o n e => by rw [upd_ne (fun z => n (by simp [z]))]; exact e
        refine ⟨hlt, sl2000' (by rw [List.length_map]; omega), rfl, ts ++ [t], by rw [List.map_append]; rfl, upd_same, fun c' o e => ?_, ?_⟩
        · rw [upd_ne (ne_of_none e nl)]; exact s25 _ _ (sm _ _ e)
        · rw [List.map_append]
          refine (hb.keepA fun c' o n e => kk _ _ n (s25 _ _ e)).app (.cons ⟨q, ntl, nql, ?_, kk _ _ nql hqt⟩ .nil)
          show _ = some (HO.tup [vN (cw C i), V.ref q])
          rw [hcw]
          exact kk _ _ ntl htt
      · rw [if_neg (fun z => absurd (of_decide_eq_true z) (by omega)), List.filter_cons_of_neg (by rw [hcw]; simpa using h0)]
        refine ⟨rfl, ts, rfl, hlp, sm.trans sp, ?_⟩
        rw [List.filter_nil, List.append_nil]
        exact hb.keep sp
    rotate_left
    · rintro x σ H3 A' B' hAB ⟨a', xs, e, hq, hl', v, r, e2, v2, r2, e3, e4, h⟩
      exact ⟨a', xs, e, hq, hl', v, r, e2, v2, r2, e3, e4, hAB _ _ h⟩
    · exact fun σ H A B h ⟨v, e1, i, j, e2, e3, c, e4, z⟩ => ⟨v, e1, i, j, e2, e3, c, e4, h _ _ z⟩
    · exact fun σ H A B h ⟨v, e1, v2, e2, n1, z⟩ => ⟨v, e1, v2, e2, n1, fun q nq => ⟨(z q nq).1, fun t nt => h _ _ ((z q nq).2 t nt)⟩⟩
    rintro ys H2 ⟨ts, rfl, hl, sm, hb⟩
    rw [List.length_map] at hb
    have hb' : Buns H2 [l] ts ((pos C).map (sgl (cw C))) := hb
    clear hb
    have hal := hb'.len
    rw [List.length_map] at hal
    refine ⟨l, ts.map V.ref, ((pos C).map (sgl (cw C))).map (fun b => ((b.1 : Nat) : Int)), rfl, SqL.of hl, by rw [List.length_map, List.length_map, List.length_map]; exact hal, by rw [List.length_map]; omega, ?_, fun j v kk hv hk => ?_, fun lo mm nlo hperm hpw => g1 _ _ ?_⟩
    · rcases p30 with z | ⟨_, w0, hw⟩
      · exact .inl (by rw [List.length_map]; omega)
      · refine .inr ?_
        rw [List.pairwise_map, List.pairwise_map]
        refine List.pairwise_of_forall_mem_list fun a ha b hb => ?_
        show ((cw C a : Nat) : Int) ≤ ((cw C b : Nat) : Int)
        rw [hw a ha, hw b hb]
        exact Int.le_refl _
    · rw [List.getElem?_map] at hk
      cases e : ((pos C).map (sgl (cw C)))[j]? with
      | none => rw [e] at hk; cases hk
      | some b =>
        rw [e] at hk
        obtain ⟨t, ht, lt, _, _, h1, h2⟩ := hb'.at e
        rw [get_ref ht] at hv
        cases hv
        cases hk
        exact ⟨t, lt, b.1, rfl, h1, rfl, rfl⟩
    clear g1
    obtain ⟨Z', hZ, rfl⟩ := perm_map _ hperm (zip_key _ _)
    have hZB : (Z'.map (·.2)).Perm ((pos C).map (sgl (cw C))) := by
      have := (hZ.symm.map (·.2))
      rw [List.map_snd_zip (by rw [List.length_map]; omega)] at this
      exact this
    have hso' : Sorted (Z'.map (·.2)) := by
      rw [List.map_map, List.pairwise_map] at hpw
      unfold Sorted
      rw [List.pairwise_map]
      exact hpw.imp (fun {a b} h => by have h' : ((a.2.1 : Nat) : Int) ≤ ((b.2.1 : Nat) : Int) := h; omega)
    obtain ⟨L, UL, hLp, eL, eU⟩ := part_map (RX := Z'.map (·.2)) (UX := []) (by rw [List.append_nil]; exact hZB.symm)
    have eU' : UL = [] := by simpa using eU.symm
    subst eU'
    rw [List.append_nil] at hLp
    have s5 := same_new (o := .lst ((Z'.map (fun z : Addr × Bd => (((z.2.1 : Nat) : Int), V.ref z.1))).map (·.2))) nlo
    have hbs := (buns_of fun z hz => hb'.zip z (hZ.symm.subset hz)).keep s5
    have hlo : (upd H2 lo (.lst ((Z'.map (fun z : Addr × Bd => (((z.2.1 : Nat) : Int), V.ref z.1))).map (·.2)))) lo = some (.lst ((Z'.map (·.1)).map V.ref)) := by
      rw [upd_same, List.map_map, List.map_map]; rfl
    have sm3 := sm.trans s5
    generalize upd H2 lo (.lst ((Z'.map (fun z : Addr × Bd => (((z.2.1 : Nat) : Int), V.ref z.1))).map (·.2))) = H3 at *
    rw [eL] at hbs hso'
    generalize Z'.map (·.1) = ss at *
    clear hZ hZB hperm hpw eL eU hl hb' sm s5 hal
    have hLl := hLp.length_eq
    have s03 := s1.trans sm3
    have ha3 := s03 _ _ ha
    -- noughts
    refine seq_g fun R1 g1 => ?_
    refine ⟨(by show 1 ≤ sizeLine; decide), fun l4 n4 => ?_⟩
    have s4 := same_new (o := .lst [V.int 0]) n4
    have h44 : (upd H3 l4 (.lst [V.int 0])) l4 = some (.lst [vN 0]) := upd_same
    generalize upd H3 l4 (.lst [V.int 0]) = H4 at *
    refine ⟨_, rfl, a, _, rfl, .inl (SqL.of (s4 _ _ ha3)), l4, _, _, rfl, rfl, h44, by omega, by rw [List.length_map]; omega, (by rw [List.length_map, Int.toNat_natCast]; exact sl2000 (by show 1 * C.length ≤ 2000; omega)), fun l5 n5 => g1 _ _ ?_⟩
    clear g1
    have ez : (List.replicate (((C.map vN).length : Nat) : Int).toNat [vN 0]).flatten = (List.range C.length).map fun p => vN (occ [] p) := by
      rw [Int.toNat_natCast, List.length_map]
      show (List.replicate C.length [vN 0]).flatten = (List.range C.length).map fun _ => vN 0
      rw [List.map_const', List.length_range]
      generalize C.length = n
      induction n with
      | zero => rfl
      | succ n ih => rw [List.replicate_succ, List.flatten_cons, ih, List.replicate_succ]; rfl
    try dsimp only
    rw [ez]
    have s5 := same_new (o := .lst ((List.range C.length).map fun p => vN (occ [] p))) n5
    have h55 : (upd H4 l5 (.lst ((List.range C.length).map fun p => vN (occ [] p)))) l5 = some (.lst ((List.range C.length).map fun p => vN (occ [] p))) := upd_same
    have hb5 := ((hbs.keep s4).fresh n5).keep s5
    have hlo5 := s5 _ _ (s4 _ _ hlo)
    have s05 := (s03.trans s4).trans s5
    have n05 : H l5 = none := none_of (s03.trans s4) n5
    generalize upd H4 l5 (.lst ((List.range C.length).map fun p => vN (occ [] p))) = H5 at *
    clear s4 s5 h44 n4 n5 ez
    -- the lightest
    refine seq_g fun R1 g1 => ?_
    refine ⟨_, rfl, _, rfl, lo, l5, ss, L, cw C, m, rfl, hlo5, ⟨_, h55⟩, hb5, hso', by omega, (by rcases p30 with z | ⟨z, w0, hw⟩; exact .inl (by omega); exact .inr ⟨by omega, w0, fun p hp => hw p (hLp.symm.subset hp)⟩), m1, m2, fun lb ub B H6 s6 nlb hlb hub lv => ?_⟩
    have h65 := s6 _ _ h55
    have s06 := s05.trans s6
    have hwt : ∀ b ∈ B, Wt L (cw C) b := wt_lev lv
    have hwR : ∀ b ∈ B.take (max 1 (2 * L.length - 2)), ∀ q ∈ b.2, q < C.length := fun b hb q hq => by
      have := (hwt b (List.mem_of_mem_take hb)).2 q hq
      exact List.mem_range.mp (List.mem_filter.mp (hLp.symm.subset this)).1
    generalize B.take (max 1 (2 * L.length - 2)) = R at *
    have hulR := hub.len
    have hlb5 : lb ≠ l5 := (ne_of_none h55 nlb).symm
    clear hb5 hlo5 h55 hso' hbs hlo
    refine ⟨lb, rfl, ⟨_, SqL.of hlb⟩, for_list (D := ⟨_, _, fun _ _ => False, fun _ _ => False⟩) (K := K) (a := lb) (xs := ub.map V.ref) (fun i σ H7 => ∃ v4 v5 : Option V, σ = [some (.ref a), some (vN m), some (.ref lo), some (.ref l5), v4, v5] ∧ H7 l5 = some (.lst ((List.range C.length).map fun p => vN (occ (R.take i) p))) ∧ ∀ c o, c ≠ l5 → H6 c = some o → H7 c = some o)
      ⟨none, none, rfl, h65, fun _ _ _ e => e⟩ (fun i σ H7 _ ⟨_, _, _, _, kp⟩ => SqL.of (kp _ _ hlb5 hlb)) ?_ ?_⟩
    · clear g1
      rintro i y σ H7 hi ⟨v4, v5, rfl, h7, kp⟩
      have hil : i < R.length := by have := (List.getElem?_eq_some_iff.mp hi).1; rw [List.length_map] at this; omega
      have hRi : R[i]? = some R[i] := List.getElem?_eq_getElem hil
      obtain ⟨t, ht, lq, nt, nq, h1, h2⟩ := hub.at hRi
      have hy : y = .ref t := by rw [get_ref ht] at hi; exact (Option.some.inj hi).symm
      subst hy
      have hlt := hwR _ (List.getElem_mem hil)
      have e1 : ∀ p, occ (R.take (i + 1)) p = occ (R.take i) p + R[i].2.count p := fun p => by
        rw [List.take_add_one, hRi]
        show occ (R.take i ++ [R[i]]) p = _
        rw [occ_append, occ_cons]
        rfl
      generalize R[i] = bb at *
      have nq' : lq ≠ l5 := fun z => nq (by simp [z])
      have nt' : t ≠ l5 := fun z => nt (by simp [z])
      refine ⟨_, rfl, t, _, _, _, rfl, rfl, SqT.of (kp _ _ nt' h1), atI_nat (j := 1) rfl, lq, rfl, ⟨_, SqL.of (kp _ _ nq' h2)⟩, for_list (D := ⟨_, _, fun _ _ => False, fun _ _ => False⟩) (K := K) (a := lq) (xs := bb.2.map vN) (fun j σ H8 => ∃ v5 : Option V, σ = [some (.ref a), some (vN m), some (.ref lo), some (.ref l5), some (.ref t), v5] ∧ H8 l5 = some (.lst ((List.range C.length).map fun p => vN (occ (R.take i) p + (bb.2.take j).count p))) ∧ ∀ c o, c ≠ l5 → H6 c = some o → H8 c = some o)
        ⟨v5, rfl, by simpa using h7, kp⟩ (fun j σ H8 _ ⟨_, _, _, kp⟩ => SqL.of (kp _ _ nq' h2)) ?_ ?_⟩
      · rintro j y σ H8 hj ⟨v5, rfl, h8, kp8⟩
        obtain ⟨q, hq, rfl⟩ := map_get hj
        have hqn : q < C.length := hlt q (List.mem_of_getElem? hq)
        have hg : ((List.range C.length).map fun p => vN (occ (R.take i) p + (bb.2.take j).count p))[q]? = some (vN (occ (R.take i) q + (bb.2.take j).count q)) := by
          rw [List.getElem?_map, List.getElem?_range hqn]; rfl
        have e2 : ((occ (R.take i) q + (bb.2.take j).count q : Nat) : Int) + 1 = ((occ (R.take i) q + (bb.2.take j).count q + 1 : Nat) : Int) := by omega
        refine ⟨_, rfl, _, rfl, l5, _, _, _, rfl, rfl, SqL.of h8, atI_nat hg, _, _, rfl, rfl, ?_⟩
        try dsimp only
        rw [e2]
        refine ⟨_, rfl, _, rfl, l5, _, _, q, rfl, rfl, h8, ixN_nat (by rw [List.length_map, List.length_range]; exact hqn), some (vN q), rfl, ?_, fun c o n e => ?_⟩
        · rw [upd_same, set_range (f := fun p => occ (R.take i) p + (bb.2.take j).count p) (f' := fun p => occ (R.take i) p + (bb.2.take (j + 1)).count p) fun p => ?_]
          rw [take_snoc hq, List.count_append, Nat.add_assoc]
        · rw [upd_ne n]; exact kp8 _ _ n e
      · rintro σ H8 ⟨v5, rfl, h8, kp8⟩
        rw [List.length_map, List.take_length] at h8
        refine ⟨_, _, rfl, ?_, kp8⟩
        rw [h8]
        congr 2
        refine List.map_congr_left fun p _ => ?_
        rw [e1 p]
    · rintro σ H7 ⟨v4, v5, rfl, h7, kp⟩
      rw [List.length_map, hulR, List.take_length] at h7
      refine g1 _ _ ⟨_, rfl, k l5 _ H7 (fun c o e => kp _ _ (ne_of_none e n05) (s06 _ _ e)) h7⟩
end
end K8

set_option Elab.async false
set_option linter.all false
set_option maxRecDepth 100000
set_option maxHeartbeats 4000000
namespace K8
open PySem L2 QQ PM
seal PE PA PS PSs PT PW PG PI
section
variable {K : PySem.W.Frag}
theorem TyOf.same {K : PySem.W.Frag} {H H' : Hp} {x : V} {t : Value} (s : Same H H') (h : TyOf K H x t) : TyOf K H' x t := by
  cases h with
  | non => exact .non
  | bl y => exact .bl y
  | int i => exact .int i
  | str y => exact .str y
  | flt y => exact .flt y
  | lst e => exact .lst (s _ _ e)
  | frz e => exact .frz (s _ _ e)
  | tup e => exact .tup (s _ _ e)
  | dK e => exact .dK (s _ _ e)
  | dT e => exact .dT (s _ _ e)
  | ins e cl ha hn htk hm => exact .ins (s _ _ e) cl ha hn htk hm
theorem NoInt.same {H H' : Hp} {x : V} (s : Same H H') (h : NoInt K H x) : NoInt K H' x := by
  obtain ⟨t, b, c, ty, r⟩ := h
  exact ⟨t, b, c, TyOf.same s ty, r⟩
theorem NoLen.same {H H' : Hp} {x : V} (s : Same H H') (h : NoLen K H x) : NoLen K H' x := by
  rcases h with ⟨t, ty, r⟩ | ⟨a, xs, j, y, e, hl, hg, hj, hy⟩
  · exact .inl ⟨t, TyOf.same s ty, r⟩
  · refine .inr ⟨a, xs, j, y, e, s _ _ hl, hg, hj, ?_⟩
    rcases hy with hy | ⟨hy, r⟩
    · exact .inl hy
    · exact .inr ⟨hy.same s, r⟩
theorem IsL.same {H H' : Hp} {x : V} {B : List Nat} (s : Same H H') (h : IsL H x B) : IsL H' x B := by
  obtain ⟨a, e, hl, hb⟩ := h
  exact ⟨a, e, s _ _ hl, hb⟩
end
/-- the error in hand -/
def InH (H : Hp) (a C : Addr) : Prop := ∃ vx, H a = some (.frz (exO (.ref C) vx) (.own a))
/-- plain, or held by itself -/
def FlR (y : V) : Prop := flatV y = true ∨ ∃ b, y = .ref b
/-- things that are the same as themselves -/
def Kp (H : Hp) (x : V) : Prop := (∃ a xs, x = .ref a ∧ H a = some (.lst xs) ∧ ∀ y ∈ xs, FlR y) ∨ x = .non ∨ (∃ a ns, x = .ref a ∧ H a = some (.tup ns) ∧ ns.all flatV = true) ∨ (∃ s, x = .str s) ∨ (∃ a, x = .ref a ∧ H a = some (.dK [])) ∨ ∃ i, x = .int i
theorem vN_fl (L : List Nat) : ∀ y ∈ L.map vN, FlR y := fun y hy => by
  obtain ⟨b, _, rfl⟩ := List.mem_map.mp hy
  exact .inl rfl
theorem am1 {A R : List V} {y : V} {p i : Nat} (hp : p < A.length) (hi : i < p) : ((A.take p ++ [y]) ++ R)[i]? = A[i]? := by
  rw [List.getElem?_append_left (by simp; omega), List.getElem?_append_left (by simp; omega), List.getElem?_take, if_pos hi]
theorem am2 {A R : List V} {y : V} {p : Nat} (hp : p < A.length) : ((A.take p ++ [y]) ++ R)[p]? = some y := by
  rw [List.getElem?_append_left (by simp; omega), List.getElem?_append_right (by simp; omega)]
  have : p - (A.take p).length = 0 := by simp; omega
  rw [this]
  rfl
theorem WhV.same {K : PySem.W.Frag} {H H' : Hp} {x : V} {lo hi : Int} {b : Bool} (s : Same H H') (h : WhV K H x lo hi b) : WhV K H' x lo hi b := by
  rcases h with h | ⟨h, e⟩
  · exact .inl h
  · exact .inr ⟨h.same s, e⟩
section
variable {P : Program} {w : World} {K : PySem.W.Frag} {mg : Str → Option Value} {base : Heap} {cP cL : Addr} {cs : List Addr}
theorem BadS.same {H H' : Hp} {x y : V} (s : Same H H') (h : BadS K H x y) : BadS K H' x y := by
  rcases h with h | ⟨C, hx, h | ⟨h, hw | hm⟩⟩
  · exact .inl (h.same s)
  · exact .inr ⟨C, hx.same s, .inl h⟩
  · exact .inr ⟨C, hx.same s, .inr ⟨h, .inl (hw.same s)⟩⟩
  · exact .inr ⟨C, hx.same s, .inr ⟨h, .inr hm⟩⟩
/-! ### _law_alone -/
def spAlone (cL : Addr) : Sp := fun vs H Q _ => ∃ a, vs = [.ref a] ∧ InH H a cL ∧ ∀ H', Same H H' → Q (.bl true) H'
theorem scAlone : FnScope ["_law_e", "_law_some"] ["_law_e"] (defScope sAlone) := ⟨rfl, rfl, rfl, by decide +kernel, rfl, by decide +kernel, by decide +kernel⟩
theorem ok_alone {f : Addr} {fd : FuncData} (F : Fn K mg "_law_alone" sAlone ["_law_e"] f fd) (T : Txt K mg) (Z : Ers K mg cP cL cs) : FnOk P w K mg base CX0 5 f fd ["_law_e"] (spAlone cL) := by
  obtain ⟨c0, c1, c2, c3, c4, c5, c6, c7, c8, c9, c10, c11, c12, c13, c14, c15, c16, rfl⟩ := Z.len
  refine F.F.ok scAlone (fun vs H Q E h => ?_) (fun cdv A outer st H vs Q E hr h => ?_)
  · obtain ⟨a, rfl, _⟩ := h
    rfl
  · obtain ⟨a, rfl, ⟨vx, hE⟩, k⟩ := h
    have isi : ∀ {x : Str} {c : Addr} {p1 p2 p3 p4 : Pos}, True := trivial
    refine ⟨_, pss_cons (ps_set (i := 1) scAlone.nd rfl (Or.inl rfl) (pe_lst
          (pa_cons (pe_callB call_isiE (by rfl) T.isi PyProof.Rows.boot_isinstance (pa_cons (pv 0) (pa_cons (pe_glob (v := .ref c0) (by rfl) (Z.m 0 _ _ rfl rfl) rfl) pa_nil)))
          (pa_cons (pe_callB call_isiE (by rfl) T.isi PyProof.Rows.boot_isinstance (pa_cons (pv 0) (pa_cons (pe_glob (v := .ref c1) (by rfl) (Z.m 1 _ _ rfl rfl) rfl) pa_nil)))
          (pa_cons (pe_callB call_isiE (by rfl) T.isi PyProof.Rows.boot_isinstance (pa_cons (pv 0) (pa_cons (pe_glob (v := .ref c2) (by rfl) (Z.m 2 _ _ rfl rfl) rfl) pa_nil)))
          (pa_cons (pe_callB call_isiE (by rfl) T.isi PyProof.Rows.boot_isinstance (pa_cons (pv 0) (pa_cons (pe_glob (v := .ref c3) (by rfl) (Z.m 3 _ _ rfl rfl) rfl) pa_nil))) pa_nil))))))
      (pss_cons (ps_set (i := 1) scAlone.nd rfl (Or.inl rfl) (pe_op op_cat (pv 1) (pe_lst
          (pa_cons (pe_callB call_isiE (by rfl) T.isi PyProof.Rows.boot_isinstance (pa_cons (pv 0) (pa_cons (pe_glob (v := .ref c4) (by rfl) (Z.m 4 _ _ rfl rfl) rfl) pa_nil)))
          (pa_cons (pe_callB call_isiE (by rfl) T.isi PyProof.Rows.boot_isinstance (pa_cons (pv 0) (pa_cons (pe_glob (v := .ref c5) (by rfl) (Z.m 5 _ _ rfl rfl) rfl) pa_nil)))
          (pa_cons (pe_callB call_isiE (by rfl) T.isi PyProof.Rows.boot_isinstance (pa_cons (pv 0) (pa_cons (pe_glob (v := .ref c6) (by rfl) (Z.m 6 _ _ rfl rfl) rfl) pa_nil))) pa_nil))))))
      (pss_cons (ps_set (i := 1) scAlone.nd rfl (Or.inl rfl) (pe_op op_cat (pv 1) (pe_lst
          (pa_cons (pe_callB call_isiE (by rfl) T.isi PyProof.Rows.boot_isinstance (pa_cons (pv 0) (pa_cons (pe_glob (v := .ref c7) (by rfl) (Z.m 7 _ _ rfl rfl) rfl) pa_nil)))
          (pa_cons (pe_callB call_isiE (by rfl) T.isi PyProof.Rows.boot_isinstance (pa_cons (pv 0) (pa_cons (pe_glob (v := .ref c8) (by rfl) (Z.m 8 _ _ rfl rfl) rfl) pa_nil)))
          (pa_cons (pe_callB call_isiE (by rfl) T.isi PyProof.Rows.boot_isinstance (pa_cons (pv 0) (pa_cons (pe_glob (v := .ref c9) (by rfl) (Z.m 9 _ _ rfl rfl) rfl) pa_nil)))
          (pa_cons (pe_callB call_isiE (by rfl) T.isi PyProof.Rows.boot_isinstance (pa_cons (pv 0) (pa_cons (pe_glob (v := .ref c10) (by rfl) (Z.m 10 _ _ rfl rfl) rfl) pa_nil))) pa_nil)))))))
      (pss_cons (ps_set (i := 1) scAlone.nd rfl (Or.inl rfl) (pe_op op_cat (pv 1) (pe_lst
          (pa_cons (pe_callB call_isiE (by rfl) T.isi PyProof.Rows.boot_isinstance (pa_cons (pv 0) (pa_cons (pe_glob (v := .ref c11) (by rfl) (Z.m 11 _ _ rfl rfl) rfl) pa_nil)))
          (pa_cons (pe_callB call_isiE (by rfl) T.isi PyProof.Rows.boot_isinstance (pa_cons (pv 0) (pa_cons (pe_glob (v := .ref c12) (by rfl) (Z.m 12 _ _ rfl rfl) rfl) pa_nil)))
          (pa_cons (pe_callB call_isiE (by rfl) T.isi PyProof.Rows.boot_isinstance (pa_cons (pv 0) (pa_cons (pe_glob (v := .ref c13) (by rfl) (Z.m 13 _ _ rfl rfl) rfl) pa_nil)))
          (pa_cons (pe_callB call_isiE (by rfl) T.isi PyProof.Rows.boot_isinstance (pa_cons (pv 0) (pa_cons (pe_glob (v := .ref c14) (by rfl) (Z.m 14 _ _ rfl rfl) rfl) pa_nil))) pa_nil)))))))
      (pss_cons (ps_set (i := 1) scAlone.nd rfl (Or.inl rfl) (pe_op op_cat (pv 1) (pe_lst
          (pa_cons (pe_callB call_isiE (by rfl) T.isi PyProof.Rows.boot_isinstance (pa_cons (pv 0) (pa_cons (pe_glob (v := .ref c15) (by rfl) (Z.m 15 _ _ rfl rfl) rfl) pa_nil)))
          (pa_cons (pe_callB call_isiE (by rfl) T.isi PyProof.Rows.boot_isinstance (pa_cons (pv 0) (pa_cons (pe_glob (v := .ref c16) (by rfl) (Z.m 16 _ _ rfl rfl) rfl) pa_nil))) pa_nil)))))
      (pss_one (ps_ret (pe_and (pe_callB call_isiE (by rfl) T.isi PyProof.Rows.boot_isinstance (pa_cons (pv 0) (pa_cons (pe_glob (v := .ref cL) (by rfl) Z.mL rfl) pa_nil)))
        (pe_and (pe_callB call_isiE (by rfl) T.isi PyProof.Rows.boot_isinstance (pa_cons (pv 0) (pa_cons (pe_bltn (v := .ty "ValueError") (by rfl) T.verr PyProof.Rows.Boot.«ValueError» rfl) pa_nil)))
        (pe_one (pe_cmpR op_notIn_seq pe_bl (pv 1) (by rfl))))))))))), ?_⟩
    have q1 : ∀ (i : Nat) (c : Addr), [c0, c1, c2, c3, c4, c5, c6, c7, c8, c9, c10, c11, c12, c13, c14, c15, c16][i]? = some c → PySem.W.kitOne K (.ref cL) (.ref c) = some false := Z.k
    refine seq_g fun R1 g1 => ?_
    refine ⟨_, rfl, a, cL, vx, _, _, rfl, ⟨c0, .inl rfl⟩, hE, Z.iL, q1 0 _ rfl, _, rfl, a, cL, vx, _, _, rfl, ⟨c1, .inl rfl⟩, hE, Z.iL, q1 1 _ rfl, _, rfl, a, cL, vx, _, _, rfl, ⟨c2, .inl rfl⟩, hE, Z.iL, q1 2 _ rfl, _, rfl, a, cL, vx, _, _, rfl, ⟨c3, .inl rfl⟩, hE, Z.iL, q1 3 _ rfl, (by show 4 ≤ sizeLine; decide), fun l1 n1 => g1 _ _ ?_⟩
    clear g1
    have s1 := same_new (o := .lst [.bl false, .bl false, .bl false, .bl false]) n1
    have h1 : (upd H l1 (.lst [.bl false, .bl false, .bl false, .bl false])) l1 = some (.lst (List.replicate 4 (V.bl false))) := upd_same
    have hE1 := s1 _ _ hE
    generalize upd H l1 (.lst [.bl false, .bl false, .bl false, .bl false]) = H1 at *
    refine seq_g fun R1 g1 => ?_
    refine ⟨_, rfl, _, rfl, a, cL, vx, _, _, rfl, ⟨c4, .inl rfl⟩, hE1, Z.iL, q1 4 _ rfl, _, rfl, a, cL, vx, _, _, rfl, ⟨c5, .inl rfl⟩, hE1, Z.iL, q1 5 _ rfl, _, rfl, a, cL, vx, _, _, rfl, ⟨c6, .inl rfl⟩, hE1, Z.iL, q1 6 _ rfl, (by show 3 ≤ sizeLine; decide), fun l2 nl2 => ?_⟩
    have sl2 := same_new (o := .lst [.bl false, .bl false, .bl false]) nl2
    refine ⟨l1, l2, _, _, rfl, rfl, sl2 _ _ h1, upd_same, (by show 7 ≤ sizeLine; decide), fun l3 nl3 => g1 _ _ ?_⟩
    clear g1
    have e7 : List.replicate 4 (V.bl false) ++ [V.bl false, V.bl false, V.bl false] = List.replicate 7 (V.bl false) := rfl
    try dsimp only
    rw [e7]
    have sl3 := same_new (o := .lst (List.replicate 7 (V.bl false))) nl3
    have hl3 : (upd (upd H1 l2 (.lst [.bl false, .bl false, .bl false])) l3 (.lst (List.replicate 7 (V.bl false)))) l3 = some (.lst (List.replicate 7 (V.bl false))) := upd_same
    have Sl3 := (s1).trans (sl2.trans sl3)
    have El3 := Sl3 _ _ hE
    clear sl2 sl3
    generalize upd (upd H1 l2 (.lst [.bl false, .bl false, .bl false])) l3 (.lst (List.replicate 7 (V.bl false))) = H3 at *
    refine seq_g fun R1 g1 => ?_
    refine ⟨_, rfl, _, rfl, a, cL, vx, _, _, rfl, ⟨c7, .inl rfl⟩, El3, Z.iL, q1 7 _ rfl, _, rfl, a, cL, vx, _, _, rfl, ⟨c8, .inl rfl⟩, El3, Z.iL, q1 8 _ rfl, _, rfl, a, cL, vx, _, _, rfl, ⟨c9, .inl rfl⟩, El3, Z.iL, q1 9 _ rfl, _, rfl, a, cL, vx, _, _, rfl, ⟨c10, .inl rfl⟩, El3, Z.iL, q1 10 _ rfl, (by show 4 ≤ sizeLine; decide), fun l4 nl4 => ?_⟩
    have sl4 := same_new (o := .lst [.bl false, .bl false, .bl false, .bl false]) nl4
    refine ⟨l3, l4, _, _, rfl, rfl, sl4 _ _ hl3, upd_same, (by show 11 ≤ sizeLine; decide), fun l5 nl5 => g1 _ _ ?_⟩
    clear g1
    have e11 : List.replicate 7 (V.bl false) ++ [V.bl false, V.bl false, V.bl false, V.bl false] = List.replicate 11 (V.bl false) := rfl
    try dsimp only
    rw [e11]
    have sl5 := same_new (o := .lst (List.replicate 11 (V.bl false))) nl5
    have hl5 : (upd (upd H3 l4 (.lst [.bl false, .bl false, .bl false, .bl false])) l5 (.lst (List.replicate 11 (V.bl false)))) l5 = some (.lst (List.replicate 11 (V.bl false))) := upd_same
    have Sl5 := (Sl3).trans (sl4.trans sl5)
    have El5 := Sl5 _ _ hE
    clear sl4 sl5
    generalize upd (upd H3 l4 (.lst [.bl false, .bl false, .bl false, .bl false])) l5 (.lst (List.replicate 11 (V.bl false))) = H5 at *
    refine seq_g fun R1 g1 => ?_
    refine ⟨_, rfl, _, rfl, a, cL, vx, _, _, rfl, ⟨c11, .inl rfl⟩, El5, Z.iL, q1 11 _ rfl, _, rfl, a, cL, vx, _, _, rfl, ⟨c12, .inl rfl⟩, El5, Z.iL, q1 12 _ rfl, _, rfl, a, cL, vx, _, _, rfl, ⟨c13, .inl rfl⟩, El5, Z.iL, q1 13 _ rfl, _, rfl, a, cL, vx, _, _, rfl, ⟨c14, .inl rfl⟩, El5, Z.iL, q1 14 _ rfl, (by show 4 ≤ sizeLine; decide), fun l6 nl6 => ?_⟩
    have sl6 := same_new (o := .lst [.bl false, .bl false, .bl false, .bl false]) nl6
    refine ⟨l5, l6, _, _, rfl, rfl, sl6 _ _ hl5, upd_same, (by show 15 ≤ sizeLine; decide), fun l7 nl7 => g1 _ _ ?_⟩
    clear g1
    have e15 : List.replicate 11 (V.bl false) ++ [V.bl false, V.bl false, V.bl false, V.bl false] = List.replicate 15 (V.bl false) := rfl
    try dsimp only
    rw [e15]
    have sl7 := same_new (o := .lst (List.replicate 15 (V.bl false))) nl7
    have hl7 : (upd (upd H5 l6 (.lst [.bl false, .bl false, .bl false, .bl false])) l7 (.lst (List.replicate 15 (V.bl false)))) l7 = some (.lst (List.replicate 15 (V.bl false))) := upd_same
    have Sl7 := (Sl5).trans (sl6.trans sl7)
    have El7 := Sl7 _ _ hE
    clear sl6 sl7
    generalize upd (upd H5 l6 (.lst [.bl false, .bl false, .bl false, .bl false])) l7 (.lst (List.replicate 15 (V.bl false))) = H7 at *
    refine seq_g fun R1 g1 => ?_
    refine ⟨_, rfl, _, rfl, a, cL, vx, _, _, rfl, ⟨c15, .inl rfl⟩, El7, Z.iL, q1 15 _ rfl, _, rfl, a, cL, vx, _, _, rfl, ⟨c16, .inl rfl⟩, El7, Z.iL, q1 16 _ rfl, (by show 2 ≤ sizeLine; decide), fun l8 nl8 => ?_⟩
    have sl8 := same_new (o := .lst [.bl false, .bl false]) nl8
    refine ⟨l7, l8, _, _, rfl, rfl, sl8 _ _ hl7, upd_same, (by show 17 ≤ sizeLine; decide), fun l9 nl9 => g1 _ _ ?_⟩
    clear g1
    have e17 : List.replicate 15 (V.bl false) ++ [V.bl false, V.bl false] = List.replicate 17 (V.bl false) := rfl
    try dsimp only
    rw [e17]
    have sl9 := same_new (o := .lst (List.replicate 17 (V.bl false))) nl9
    have hl9 : (upd (upd H7 l8 (.lst [.bl false, .bl false])) l9 (.lst (List.replicate 17 (V.bl false)))) l9 = some (.lst (List.replicate 17 (V.bl false))) := upd_same
    have Sl9 := (Sl7).trans (sl8.trans sl9)
    have El9 := Sl9 _ _ hE
    clear sl8 sl9
    generalize upd (upd H7 l8 (.lst [.bl false, .bl false])) l9 (.lst (List.replicate 17 (V.bl false))) = H9 at *
    refine ⟨_, rfl, a, cL, vx, _, _, rfl, ⟨cL, .inl rfl⟩, El9, Z.iL, Z.oL, _, rfl, iteT ?_⟩
    refine ⟨_, rfl, a, cL, vx, .type "ValueError", _, rfl, ⟨cL, .inr ⟨_, rfl⟩⟩, El9, Z.iL, Z.vL, _, rfl, iteT ?_⟩
    refine ⟨_, rfl, l9, _, rfl, .inl (SqL.of hl9), rfl, rfl, ?_⟩
    exact k _ Sl9
/-! ### _law_cell_at, _law_mixed -/
def spCell (K : PySem.W.Frag) : Sp := fun vs H Q _ => ∃ (a : Addr) (ns : List Int) (k : Nat), vs = [.ref a, vN k] ∧ SqL K H a (ns.map V.int) ∧ Q (.int (ns.getD k 0)) H
theorem scCell : FnScope ["_law_script", "_law_k"] ["_law_script", "_law_k"] (defScope sCellAt) := ⟨rfl, rfl, rfl, by decide +kernel, rfl, by decide +kernel, by decide +kernel⟩
theorem ok_cell {f : Addr} {fd : FuncData} (F : Fn K mg "_law_cell_at" sCellAt ["_law_script", "_law_k"] f fd) (X : Txt K mg) : FnOk P w K mg base CX0 1 f fd ["_law_script", "_law_k"] (spCell K) := by
  refine F.F.ok scCell (fun vs H Q E h => ?_) (fun cdv A outer st H vs Q E hr h => ?_)
  · obtain ⟨a, ns, k, rfl, _⟩ := h
    rfl
  · obtain ⟨a, ns, k, rfl, hS, q⟩ := h
    refine ⟨_, pss_cons (ps_if (pt_cmpR op_lt (pv 1) (pe_callB call_len_seq (by rfl) X.len PySem.boot_len (pa_cons (pv 0) pa_nil)) (nomark _)) (pss_one (ps_ret (pe_ix ix_list (pv 0) (pv 1) (fun _ _ => rfl)))) pss_nil)
      (pss_one (ps_ret pe_int)), ?_⟩
    refine ⟨_, rfl, _, rfl, a, _, rfl, .inl hS, _, _, rfl, rfl, _, rfl, ?_⟩
    refine ite2 (fun h1 => ?_) (fun h1 => ?_)
    · have h2 : k < ns.length := by have := of_decide_eq_true h1; rw [List.length_map] at this; omega
      refine ⟨_, rfl, _, rfl, a, _, _, V.int (ns.getD k 0), rfl, rfl, hS, atI_nat ?_, q⟩
      rw [List.getElem?_map, List.getElem?_eq_getElem h2, List.getD_eq_getElem?_getD, List.getElem?_eq_getElem h2]
      rfl
    · have h1' : decide ((k : Int) < ((ns.map V.int).length : Int)) ≠ true := h1
      have h2 : ns.length ≤ k := by
        rw [List.length_map] at h1'
        by_cases h : (k : Int) < (ns.length : Int)
        · exact absurd (decide_eq_true h) h1'
        · omega
      try dsimp only
      rw [List.getD_eq_getElem?_getD, List.getElem?_eq_none h2] at q
      exact q
def spMixed : Sp := fun vs H Q _ => ∃ (c k : Int), vs = [.int c, .int k] ∧ 0 ≤ k ∧ k ≤ 1000 ∧ ∀ n : Nat, Q (vN n) H
theorem scMixed : FnScope ["_law_cell", "_law_k"] ["_law_cell", "_law_k"] (defScope sMixed) := ⟨rfl, rfl, rfl, by decide +kernel, rfl, by decide +kernel, by decide +kernel⟩
theorem ok_mixed {f : Addr} {fd : FuncData} (F : Fn K mg "_law_mixed" sMixed ["_law_cell", "_law_k"] f fd) : FnOk P w K mg base CX0 1 f fd ["_law_cell", "_law_k"] spMixed := by
  refine F.F.ok scMixed (fun vs H Q E h => ?_) (fun cdv A outer st H vs Q E hr h => ?_)
  · obtain ⟨c, k, rfl, _⟩ := h
    rfl
  · obtain ⟨c, k, rfl, h0, h1, q⟩ := h
    refine ⟨_, pss_one (ps_ret (pe_op op_mod (pe_op op_mul (pe_op op_mod (pe_op op_mul (pe_op op_add (pe_op op_add (pv 0) (pe_op op_mul (pe_op op_mul pe_int (pv 1)) (pv 1))) (pe_op op_mul pe_int (pv 1))) pe_int) pe_int) pe_int) pe_int)), ?_⟩
    refine ⟨_, rfl, _, rfl, _, _, rfl, rfl, .inl ⟨by decide, by decide⟩, _, rfl, _, _, rfl, rfl, .inr ⟨by omega, by omega⟩, _, _, rfl, rfl, _, rfl, _, _, rfl, rfl, .inl ⟨by decide, by decide⟩, _, _, rfl, rfl, ?_⟩
    refine ⟨_, _, rfl, rfl, .inr ⟨by decide, by decide⟩, _, _, rfl, rfl, (by show (0 : Int) < 2147483647; decide), _, _, rfl, rfl, .inr ⟨by decide, by decide⟩, _, _, rfl, rfl, (by show (0 : Int) < 2147483629; decide), ?_⟩
    try dsimp only
    generalize (c + 7919 * k * k + 104729 * k) * 48271 % 2147483647 * 69621 = z
    have e : z % 2147483629 = (((z % 2147483629).toNat : Nat) : Int) := (Int.toNat_of_nonneg (Int.emod_nonneg _ (by decide))).symm
    rw [e]
    exact q _
/-! ### a list against a text -/
def rEqLs (K : PySem.W.Frag) : R2 := fun x y H Q => ∃ (p : Addr) (xs : List V) (z : Str), x = .ref p ∧ y = .str z ∧ SqL K H p xs ∧ Q (.bl false) H
theorem op_eqLs {X : Cx} {K : PySem.W.Frag} (hK : X.K = K) (hu : X.A.units + 64 < cLine) : OpR X (compareOp .Eq) (rEqLs K) := by
  subst hK
  intro pins s σ H x y v u Q I rx ry h
  obtain ⟨p, xs, z, rfl, rfl, h1, k⟩ := h
  cases rx
  obtain ⟨t, rfl⟩ := ry
  obtain ⟨its, rv, pl, hz⟩ := I.list h1
  exact SeqAt.RcAt.list_str z t pl.isList (by omega) _ _ _ _ ⟨.bl false, H, I, rfl, k⟩
/-! ### _law_refused, _law_let_by -/
structure Lgs (K : PySem.W.Frag) (mg : Str → Option Value) (cP cL : Addr) (cs : List Addr) : Prop where
  Y : Shs K mg cP cL cs
  need : ∃ f fd, Fn K mg "need_shares" sNeed ["counts", "most"] f fd
  light : ∃ f fd, Fn K mg "lightest_bundles" sLight ["singles", "most"] f fd
  pairs : ∃ f fd, Fn K mg "in_pairs" sPairs ["bundles"] f fd
  weight : ∃ f fd, Fn K mg "weight_of" sWeight ["bundle"] f fd
  lengths : ∃ f fd, FnD K mg "lengths_of" sLengths ["counts", "most"] f fd
  alone : ∃ f fd, Fn K mg "_law_alone" sAlone ["_law_e"] f fd
abbrev sNT : Str := Str.ofString "none told"
/-- a greatest length that is handed in -/
def OddY (H : Hp) (y : V) : Prop := (scal y (.str sNT) = true ∧ y ≠ .str sNT) ∨ ∃ p xs, y = .ref p ∧ H p = some (.lst xs)
def RefOk (K : PySem.W.Frag) (H : Hp) (x y : V) : Prop := (y = .str sNT ∧ BadS K H x (vN 6)) ∨ (OddY H y ∧ BadS K H x y)
theorem RefOk.same {H H' : Hp} {x y : V} (s : Same H H') (h : RefOk K H x y) : RefOk K H' x y := by
  rcases h with ⟨e, h⟩ | ⟨h1 | ⟨p, xs, e, hp⟩, h⟩
  · exact .inl ⟨e, h.same s⟩
  · exact .inr ⟨.inl h1, h.same s⟩
  · exact .inr ⟨.inr ⟨p, xs, e, s _ _ hp⟩, h.same s⟩
def spRefused (K : PySem.W.Frag) : Sp := fun vs H Q _ => ∃ (x y : V), vs = [x, y] ∧ RefOk K H x y ∧ ∀ H', Same H H' → Q (.bl true) H'
theorem scRefused : FnScope ["_law_counts", "_law_most", "_law_e"] ["_law_counts", "_law_most"] (defScope sRefused) := ⟨rfl, rfl, rfl, by decide +kernel, rfl, by decide +kernel, by decide +kernel⟩
theorem ok_refused {f : Addr} {fd : FuncData} (F : Fn K mg "_law_refused" sRefused ["_law_counts", "_law_most"] f fd) (D : Lgs K mg cP cL cs) : FnOk P w K mg base CX0 36 f fd ["_law_counts", "_law_most"] (spRefused K) := by
  obtain ⟨Y, ⟨_, _, N⟩, ⟨_, _, Li⟩, ⟨_, _, Pa⟩, ⟨_, _, We⟩, ⟨_, _, Le⟩, ⟨_, _, Al⟩⟩ := D
  have GL := ok_lengths (P := P) (w := w) (base := base) Le N Li Pa We Y
  have GA := ok_alone (P := P) (w := w) (base := base) Al Y.X Y.Z
  have Z := Y.Z
  obtain ⟨t6, B6⟩ := Le.d
  refine F.F.ok scRefused (fun vs H Q E h => ?_) (fun cdv A outer st H vs Q E hr h => ?_)
  · obtain ⟨x, y, rfl, _⟩ := h
    rfl
  · obtain ⟨x, y, rfl, hN, k⟩ := h
    have hr33 : Room 33 _ := hr.mono (by decide)
    have hu := hr.units
    refine ⟨_, pss_cons (ps_try (i := 2) scRefused.nd rfl rfl (by rfl) Z.mP Z.xP rfl rfl rfl
        (fun pn σ0 E => pss_one (ps_if (pt_cmpR (OpR.either op_eq (op_eqLs (K := K) rfl hu)) (pv 1) pe_str (nomark _)) (pss_one (ps_expr (pe_callX GL hr33 (by rfl) Le.m Le.kp B6 (dvs := [.int 6]) (.cons ⟨t6, rfl⟩ .nil) (passT rfl) (pa_cons (pv 0) pa_nil))))
          (pss_one (ps_expr (pe_callX GL hr33 (by rfl) Le.m Le.kp Le.b .nil (passT rfl) (pa_cons (pv 0) (pa_cons (pv 1) pa_nil)))))))
        (fun e o => pss_one (ps_ret (pe_call GA (hr.hand (by decide) (by decide)) (by rfl) Al.m Al.F.kp Al.b .nil pass0 (pa_cons (pv 2) pa_nil)))))
      (pss_one (ps_ret pe_bl)), ?_⟩
    rcases hN with ⟨rfl, hb⟩ | ⟨hy, hb⟩
    · refine ⟨_, rfl, .inl ⟨rfl, true, by rw [decide_eq_true rfl], iteT ?_⟩⟩
      refine ⟨rfl, _, rfl, x, vN 6, rfl, .inr ⟨hb, fun H' s' => ⟨cL, rfl, Z.xL, Z.nL, Z.sL, fun e vs he => ?_⟩⟩⟩
      exact ⟨_, rfl, e, rfl, ⟨vs, upd_same⟩, fun H1 s1 => k _ ((s'.trans (same_new he)).trans s1)⟩
    · rcases hy with ⟨hy, hne⟩ | ⟨p, xs, rfl, hp⟩
      · refine ⟨_, rfl, .inl ⟨hy, false, by rw [decide_eq_false hne], iteF ?_⟩⟩
        refine ⟨rfl, _, rfl, _, rfl, x, y, rfl, .inr ⟨hb, fun H' s' => ⟨cL, rfl, Z.xL, Z.nL, Z.sL, fun e vs he => ?_⟩⟩⟩
        exact ⟨_, rfl, e, rfl, ⟨vs, upd_same⟩, fun H1 s1 => k _ ((s'.trans (same_new he)).trans s1)⟩
      · refine ⟨_, rfl, .inr ⟨p, xs, sNT, rfl, rfl, SqL.of hp, false, rfl, iteF ?_⟩⟩
        refine ⟨rfl, _, rfl, _, rfl, x, _, rfl, .inr ⟨hb, fun H' s' => ⟨cL, rfl, Z.xL, Z.nL, Z.sL, fun e vs he => ?_⟩⟩⟩
        exact ⟨_, rfl, e, rfl, ⟨vs, upd_same⟩, fun H1 s1 => k _ ((s'.trans (same_new he)).trans s1)⟩
def spLetBy : Sp := fun vs H Q _ => ∃ (a : Addr) (C : List Nat) (m : Nat), vs = [.ref a, vN m] ∧ H a = some (.lst (C.map vN)) ∧ (∀ b ∈ C, b ≤ 1000000) ∧ GoodS C m ∧ ((pos C).length ≤ 30 ∨ (pos C).length ≤ 64 ∧ ∃ w0, ∀ p ∈ pos C, cw C p = w0) ∧ ∀ H', Same H H' → Q (.bl true) H'
theorem scLetBy : FnScope ["_law_counts", "_law_most", "_law_told"] ["_law_counts", "_law_most"] (defScope sLetBy) := ⟨rfl, rfl, rfl, by decide +kernel, rfl, by decide +kernel, by decide +kernel⟩
theorem ok_letby {f : Addr} {fd : FuncData} (F : Fn K mg "_law_let_by" sLetBy ["_law_counts", "_law_most"] f fd) (D : Lgs K mg cP cL cs) : FnOk P w K mg base CX0 36 f fd ["_law_counts", "_law_most"] spLetBy := by
  obtain ⟨Y, ⟨_, _, N⟩, ⟨_, _, Li⟩, ⟨_, _, Pa⟩, ⟨_, _, We⟩, ⟨_, _, Le⟩, _⟩ := D
  have GL := ok_lengths (P := P) (w := w) (base := base) Le N Li Pa We Y
  have T := Y.X
  refine F.F.ok scLetBy (fun vs H Q E h => ?_) (fun cdv A outer st H vs Q E hr h => ?_)
  · obtain ⟨a, C, m, rfl, _⟩ := h
    rfl
  · obtain ⟨a, C, m, rfl, ha, hC, hG, hp, k⟩ := h
    have hr33 : Room 33 _ := hr.mono (by decide)
    refine ⟨_, pss_cons (ps_tryN (pss_one (ps_set (i := 2) scLetBy.nd rfl (Or.inl rfl) (pe_call GL hr33 (by rfl) Le.m Le.kp Le.b .nil passF (pa_cons (pv 0) (pa_cons (pv 1) pa_nil))))))
      (pss_one (ps_ret (pe_and (pe_callB call_isi (by rfl) T.isi PyProof.Rows.boot_isinstance (pa_cons (pv 2) (pa_cons (pe_bltn (v := .ty "list") (by rfl) T.list PyProof.Rows.boot_list rfl) pa_nil)))
        (pe_one (pe_cmpR op_eq (pe_callB call_len_seq (by rfl) T.len PySem.boot_len (pa_cons (pv 2) pa_nil)) (pe_callB call_len_seq (by rfl) T.len PySem.boot_len (pa_cons (pv 0) pa_nil)) (nomark _)))))), ?_⟩
    refine seq_g fun R1 g1 => ⟨_, rfl, _, rfl, _, _, rfl, .inl ⟨C, m, ⟨a, rfl, ha, hC⟩, rfl, hG, hp, fun l ln H1 s1 hl => g1 _ _ ?_⟩⟩
    clear g1
    refine ⟨_, rfl, _, _, _, _, rfl, .lst hl, kit_ll K, _, rfl, iteT ?_⟩
    refine ⟨_, rfl, l, _, rfl, .inl (SqL.of hl), _, rfl, a, _, rfl, .inl (SqL.of (s1 _ _ ha)), rfl, ?_⟩
    dsimp only
    rw [List.length_map, List.length_map, List.length_range, decide_eq_true rfl]
    exact k _ s1
end
end K8

set_option Elab.async false
set_option linter.all false
set_option maxRecDepth 100000
set_option maxHeartbeats 8000000
namespace K8
open PySem L2 QQ PM
seal PE PA PS PSs PT PW PG PI
theorem rep_nat (k : Int) (n b : Nat) (h : k = ((n : Nat) : Int)) : (List.replicate k.toNat [V.int ((b : Nat) : Int)]).flatten = (List.replicate n b).map vN := by
  subst h
  rw [Int.toNat_natCast]
  induction n with
  | zero => rfl
  | succ n ih => rw [List.replicate_succ, List.replicate_succ, List.flatten_cons, ih]; rfl
theorem rep_int (k z : Int) (n b : Nat) (hz : z = ((b : Nat) : Int)) (h : k = ((n : Nat) : Int)) : (List.replicate k.toNat [V.int z]).flatten = (List.replicate n b).map vN := by
  rw [hz]
  exact rep_nat k n b h
theorem aot_rep0 (n : Nat) : aot (List.replicate n 0) = false := by
  unfold aot
  rw [show (List.replicate n 0).any (fun l => decide (0 < l)) = false from List.any_eq_false.mpr fun l hl => by rw [(List.mem_replicate.mp hl).2]; decide, Bool.and_false]
theorem aot_rep (n b : Nat) (h1 : 1 ≤ n) (h3 : n ≤ 300) (hb : 0 < b) : aot (List.replicate n b) = true := by
  unfold aot
  rw [List.length_replicate, decide_eq_true h1, decide_eq_true h3, Bool.true_and, Bool.true_and]
  exact List.any_eq_true.mpr ⟨b, List.mem_replicate.mpr ⟨by omega, rfl⟩, decide_eq_true hb⟩
theorem cm_rep (n b : Nat) (hb : 0 < b) : cm (List.replicate n b) = n := by
  unfold cm
  rw [List.filter_eq_self.mpr (fun x hx => by rw [(List.mem_replicate.mp hx).2]; exact decide_eq_true hb), List.length_replicate]
theorem cm_app (A B : List Nat) : cm (A ++ B) = cm A + cm B := by
  unfold cm
  rw [List.filter_append, List.length_append]
theorem cm_le (A : List Nat) : cm A ≤ A.length := List.length_filter_le _ _
theorem aot_app {A B : List Nat} (h : aot A = true) (hl : (A ++ B).length ≤ 300) : aot (A ++ B) = true := by
  obtain ⟨h1, h3, b, hb, hp⟩ := aot_le h
  unfold aot
  rw [decide_eq_true (show 1 ≤ (A ++ B).length by rw [List.length_append]; omega), decide_eq_true hl, Bool.true_and, Bool.true_and]
  exact List.any_eq_true.mpr ⟨b, List.mem_append_left _ hb, decide_eq_true hp⟩
theorem Kp.same {H H' : Hp} {x : V} (s : Same H H') (h : Kp H x) : Kp H' x := by
  rcases h with ⟨a, xs, e, h, r⟩ | h | ⟨a, ns, e, h, r⟩ | h | ⟨a, e, h⟩ | h
  · exact .inl ⟨a, xs, e, s _ _ h, r⟩
  · exact .inr (.inl h)
  · exact .inr (.inr (.inl ⟨a, ns, e, s _ _ h, r⟩))
  · exact .inr (.inr (.inr (.inl h)))
  · exact .inr (.inr (.inr (.inr (.inl ⟨a, e, s _ _ h⟩))))
  · exact .inr (.inr (.inr (.inr (.inr h))))
section
variable {P : Program} {w : World} {K : PySem.W.Frag} {mg : Str → Option Value} {base : Heap}
def spWrong (K : PySem.W.Frag) : Sp := fun vs H Q _ => ∃ (a : Addr) (C : List Nat) (m : Nat) (c : Int), vs = [.ref a, vN m, .int c] ∧ H a = some (.lst (C.map vN)) ∧ (∀ b ∈ C, b ≤ 1000000) ∧ GoodS C m ∧ C.length ≤ 8 ∧ 3 ≤ m ∧ m ≤ 6 ∧
  ∀ (t : Addr) (x y : V) (H' : Hp), Same H H' → H' t = some (.tup [x, y]) → RefOk K H' x y → Kp H' x → Q (.ref t) H'
abbrev nWrong : List Str := ["_law_counts", "_law_most", "_law_cell", "_law_at", "_law_odd", "_law_kind"]
theorem scWrong : FnScope nWrong ["_law_counts", "_law_most", "_law_cell"] (defScope sWrong) := ⟨rfl, rfl, rfl, by decide +kernel, rfl, by decide +kernel, by decide +kernel⟩
theorem ndW : (["_law_one"] : List Str).Nodup := by decide +kernel
theorem amid {H : Hp} {l : Addr} {C : List Nat} {p : Nat} {y : V} (hp : p < C.length) (hC : ∀ b ∈ C, b ≤ 1000000) (h : H l = some (.lst (((C.map vN).take p ++ [y]) ++ (C.map vN).drop (p + 1)))) (hw : WhV K H y 0 1000000 false) (hf : FlR y) : NoLen K H (.ref l) ∧ Kp H (.ref l) := by
  have hp' : p < (C.map vN).length := by rw [List.length_map]; exact hp
  refine ⟨.inr ⟨l, _, p, y, rfl, h, fun i hi => ⟨C[i]'(by omega), hC _ (List.getElem_mem _), ?_⟩, am2 hp', hw⟩, .inl ⟨l, _, rfl, h, fun z hz => ?_⟩⟩
  · rw [am1 hp' hi, List.getElem?_map, List.getElem?_eq_getElem (by omega)]; rfl
  · rcases List.mem_append.mp hz with hz | hz
    · rcases List.mem_append.mp hz with hz | hz
      · exact vN_fl C z (List.mem_of_mem_take hz)
      · have e : z = y := by simpa using hz
        rw [e]; exact hf
    · exact vN_fl C z (List.mem_of_mem_drop hz)
theorem oddN {H : Hp} (n : Int) : OddY H (.int n) := .inl ⟨rfl, fun z => nomatch z⟩
theorem ok_wrong {f : Addr} {fd : FuncData} (F : Fn K mg "_law_wrong" sWrong ["_law_counts", "_law_most", "_law_cell"] f fd) (T : Txt K mg) : FnOk P w K mg base CX0 31 f fd ["_law_counts", "_law_most", "_law_cell"] (spWrong K) := by
  refine F.F.ok scWrong (fun vs H Q E h => ?_) (fun cdv A outer st H vs Q E hr h => ?_)
  · obtain ⟨a, C, m, c, rfl, _⟩ := h
    rfl
  · obtain ⟨a, C, m, c, rfl, hL, hC, G, hC8, m3, m6, k⟩ := h
    refine ⟨_, pss_cons (ps_set (i := 3) scWrong.nd rfl (Or.inl rfl) (pe_op op_mod (pe_op op_fdiv (pv 2) pe_int) (pe_callB call_len_seq (by rfl) T.len PySem.boot_len (pa_cons (pv 0) pa_nil))))
      (pss_cons (ps_set (i := 4) scWrong.nd rfl (Or.inl rfl) (pe_ix ix_list (pe_lst (pa_cons (pe_un un_neg pe_int) (pa_cons pe_int (pa_cons pe_bl (pa_cons pe_bl (pa_cons pe_non (pa_cons pe_str (pa_cons (pe_lst (pa_cons pe_int pa_nil)) (pa_cons (pe_op op_pow pe_int pe_int) (pa_cons (pe_un un_neg (pe_op op_pow pe_int pe_int)) (pa_cons (pe_tup (pa_cons pe_int pa_nil)) pa_nil))))))))))) (pe_op op_mod (pe_op op_fdiv (pv 2) pe_int) pe_int) (fun _ _ => rfl)))
      (pss_cons (ps_set (i := 5) scWrong.nd rfl (Or.inl rfl) (pe_op op_mod (pv 2) pe_int))
      (pss_cons (ps_if (pt_cmpR op_lt (pv 5) pe_int (nomark _)) (pss_one (ps_ret (pe_tup (pa_cons (pe_op op_cat (pe_op op_cat (pe_slice sl_list (pv 0) po_none (po_some (pv 3))) (pe_lst (pa_cons (pv 4) pa_nil))) (pe_slice sl_list (pv 0) (po_some (pe_op op_add (pv 3) pe_int)) po_none)) (pa_cons (pv 1) pa_nil))))) pss_nil)
      (pss_cons (ps_if (pt_cmpR op_eq (pv 5) pe_int (nomark _)) (pss_one (ps_ret (pe_tup (pa_cons (pe_op op_rep (pe_lst (pa_cons pe_int pa_nil)) (pe_callB call_len_seq (by rfl) T.len PySem.boot_len (pa_cons (pv 0) pa_nil))) (pa_cons (pv 1) pa_nil))))) pss_nil)
      (pss_cons (ps_if (pt_cmpR op_eq (pv 5) pe_int (nomark _)) (pss_one (ps_ret (pe_tup (pa_cons (pe_ix ix_list (pe_lst (pa_cons (pe_lst pa_nil) (pa_cons pe_non (pa_cons (pe_callTy call_tuple_of (by rfl) T.tuple PyProof.Rows.boot_tuple (pa_cons (pv 0) pa_nil)) (pa_cons pe_str (pa_cons pe_dnew0 (pa_cons pe_int pa_nil))))))) (pe_op op_mod (pe_op op_fdiv (pv 2) pe_int) pe_int) (fun _ _ => rfl)) (pa_cons (pv 1) pa_nil))))) pss_nil)
      (pss_cons (ps_if (pt_cmpR op_eq (pv 5) pe_int (nomark _)) (pss_one (ps_ret (pe_tup (pa_cons (pe_op op_rep (pe_lst (pa_cons pe_int pa_nil)) pe_int) (pa_cons pe_int pa_nil))))) pss_nil)
      (pss_cons (ps_if (pt_cmpR op_eq (pv 5) pe_int (nomark _)) (pss_one (ps_ret (pe_tup (pa_cons (pe_op op_rep (pe_lst (pa_cons pe_int pa_nil)) pe_int) (pa_cons pe_str pa_nil))))) pss_nil)
      (pss_cons (ps_if (pt_cmpR op_lt (pv 5) pe_int (nomark _)) (pss_one (ps_ret (pe_tup (pa_cons (pv 0) (pa_cons (pe_ix ix_list (pe_lst (pa_cons pe_int (pa_cons pe_int (pa_cons pe_bl (pa_cons pe_non (pa_cons pe_str (pa_cons (pe_lst (pa_cons pe_int pa_nil)) (pa_cons (pe_un un_neg pe_int) (pa_cons (pe_op op_pow pe_int pe_int) pa_nil))))))))) (pe_op op_mod (pe_op op_fdiv (pv 2) pe_int) pe_int) (fun _ _ => rfl)) pa_nil))))) pss_nil)
      (pss_cons (ps_if (pt_cmpR op_eq (pv 5) pe_int (nomark _)) (pss_one (ps_ret (pe_tup (pa_cons (pe_op op_cat (pv 0) (pe_op op_rep (pe_lst (pa_cons pe_int pa_nil)) (pe_op op_add (pe_op op_sub (pe_op op_add (pe_op op_shl pe_int (pv 1)) pe_int)
          (pe_callB call_len_seq (by rfl) T.len PySem.boot_len (pa_cons (pe_compI (N := ["_law_one"]) (g := gName 0) (tt := ttC) (te := tVar 0) rfl rfl (by decide +kernel) (by decide +kernel) (by decide +kernel) (pi_list (pv 0)) (fun fp s H => pg_name (i := 0) ndW rfl (Or.inl rfl)) (fun fp s H => pt_cmpR op_gt (pv 0) pe_int (nomark _)) (fun fp s H => pv 0)) pa_nil))) (pe_op op_mod (pe_op op_fdiv (pv 2) pe_int) pe_int)))) (pa_cons (pv 1) pa_nil))))) pss_nil)
      (pss_one (ps_ret (pe_tup (pa_cons (pe_op op_cat (pe_op op_cat (pe_slice sl_list (pv 0) po_none (po_some (pv 3))) (pe_lst (pa_cons (pv 4) pa_nil))) (pe_slice sl_list (pv 0) (po_some (pe_op op_add (pv 3) pe_int)) po_none)) (pa_cons (pe_ix ix_list (pe_lst (pa_cons pe_int (pa_cons pe_int (pa_cons pe_non pa_nil)))) (pe_op op_mod (pe_op op_fdiv (pv 2) pe_int) pe_int) (fun _ _ => rfl)) pa_nil)))))))))))))), ?_⟩
    obtain ⟨haot, m1, m12, hcm⟩ := id G
    obtain ⟨c1, c300, _⟩ := aot_le haot
    obtain ⟨p, ep⟩ : ∃ p : Nat, c / 12 % ((C.length : Nat) : Int) = ((p : Nat) : Int) := ⟨(c / 12 % ((C.length : Nat) : Int)).toNat, (Int.toNat_of_nonneg (Int.emod_nonneg _ (by omega))).symm⟩
    have hpl : p < C.length := by have := Int.emod_lt_of_pos (c / 12) (show (0 : Int) < ((C.length : Nat) : Int) by omega); omega
    refine seq_g fun R1 g1 => ?_
    refine ⟨_, rfl, _, _, rfl, rfl, ⟨by decide, by decide⟩, _, rfl, a, _, rfl, .inl (SqL.of hL), _, _, rfl, rfl, (by rw [List.length_map]; omega), ?_⟩
    dsimp only
    rw [List.length_map, ep]
    refine g1 _ _ ?_
    clear g1
    -- an odd thing
    refine seq_g fun R1 g1 => ?_
    refine ⟨_, rfl, (by show 1 ≤ sizeLine; decide), fun l1 n1 => ⟨_, _, rfl, rfl, ⟨by decide, by decide, by decide⟩, _, _, rfl, rfl, ⟨by decide, by decide, by decide⟩, _, rfl, (by show 1 ≤ sizeLine; decide), fun t1 q1 => ⟨(by show 10 ≤ sizeLine; decide), fun l2 n2 => ?_⟩⟩⟩
    have s1 := same_new (o := .lst [.int 1]) n1
    have s2 := same_new (o := .tup [.int 1]) q1
    have s3 := same_new (o := .lst [.int (-1), .int 1000001, .bl true, .bl false, .non, .str (Str.ofString "1"), .ref l1, .int (10 ^ (20 : Int).toNat), .int (-(10 ^ (20 : Int).toNat)), .ref t1]) n2
    have hl1 := s3 _ _ (s2 _ _ (upd_same (H := H) (a := l1) (o := .lst [.int 1])))
    have ht1 := s3 _ _ (upd_same (H := upd H l1 (.lst [.int 1])) (a := t1) (o := .tup [.int 1]))
    have sA := (s1.trans s2).trans s3
    suffices J : ∀ (H1 : Hp) (yy : V), Same H H1 → WhV K H1 yy 0 1000000 false → FlR yy → R1 [some (.ref a), some (vN m), some (.int c), some (vN p), some yy, none] H1 by
      obtain ⟨z, hz, ez⟩ : ∃ z : Nat, z < 10 ∧ c / 96 % 10 = ((z : Nat) : Int) := ⟨(c / 96 % 10).toNat, by omega, by omega⟩
      have key : ∀ H', H' l1 = some (.lst [.int 1]) → H' t1 = some (.tup [.int 1]) → ∃ v, atI ([.int (-1), .int 1000001, .bl true, .bl false, .non, .str (Str.ofString "1"), .ref l1, .int (10 ^ (20 : Int).toNat), .int (-(10 ^ (20 : Int).toNat)), .ref t1] : List V) (c / 96 % 10) = some v ∧ WhV K H' v 0 1000000 false ∧ FlR v := by
        intro H' hl1 ht1
        rw [ez]
        match z, hz with
        | 0, _ => exact ⟨_, atI_nat rfl, .inl ⟨_, rfl, by decide⟩, .inl rfl⟩
        | 1, _ => exact ⟨_, atI_nat rfl, .inl ⟨_, rfl, by decide⟩, .inl rfl⟩
        | 2, _ => exact ⟨_, atI_nat rfl, .inr ⟨NoInt.bl _, rfl⟩, .inl rfl⟩
        | 3, _ => exact ⟨_, atI_nat rfl, .inr ⟨NoInt.bl _, rfl⟩, .inl rfl⟩
        | 4, _ => exact ⟨_, atI_nat rfl, .inr ⟨NoInt.non, rfl⟩, .inl rfl⟩
        | 5, _ => exact ⟨_, atI_nat rfl, .inr ⟨NoInt.str _, rfl⟩, .inl rfl⟩
        | 6, _ => exact ⟨_, atI_nat rfl, .inr ⟨NoInt.of (.lst hl1) (by decide), rfl⟩, .inr ⟨_, rfl⟩⟩
        | 7, _ => exact ⟨_, atI_nat rfl, .inl ⟨_, rfl, by decide +kernel⟩, .inl rfl⟩
        | 8, _ => exact ⟨_, atI_nat rfl, .inl ⟨_, rfl, by decide +kernel⟩, .inl rfl⟩
        | 9, _ => exact ⟨_, atI_nat rfl, .inr ⟨NoInt.of (.tup ht1) (by decide), rfl⟩, .inr ⟨_, rfl⟩⟩
      obtain ⟨v, hv, hw, hf⟩ := key _ hl1 ht1
      exact ⟨_, rfl, _, _, rfl, rfl, ⟨by decide, by decide⟩, _, _, rfl, rfl, (by show (0 : Int) < 10; decide), l2, _, _, v, rfl, rfl, SqL.of upd_same, hv, J _ v sA hw hf⟩
    clear sA ht1 hl1 s3 s2 s1 n2 q1 n1 l1 t1 l2
    intro H1 yy sm hyw hyf
    refine g1 _ _ ?_
    clear g1
    have hL1 := sm _ _ hL
    -- the kind
    refine seq_g fun R1 g1 => ⟨_, rfl, _, _, rfl, rfl, (by show (0 : Int) < 12; decide), g1 _ _ ?_⟩
    clear g1
    -- an odd thing amid
    refine seq_g fun R1 g1 => ⟨_, rfl, _, _, rfl, rfl, _, rfl, ite2 (fun h1 => ?_) (fun h1 => g1 _ _ ?_)⟩
    · clear g1
      refine ⟨_, rfl, _, rfl, _, rfl, a, _, rfl, SqL.of hL1, ?_⟩
      dsimp only
      rw [take_cut]
      refine fun x1 y1 => ?_
      have w1 := same_new (o := .lst ((C.map vN).take p)) y1
      refine ⟨_, rfl, (by show 1 ≤ sizeLine; decide), fun x2 y2 => ?_⟩
      have w2 := same_new (o := .lst [yy]) y2
      refine ⟨x1, x2, _, _, rfl, rfl, w2 _ _ upd_same, upd_same, sl2000 (by rw [List.length_take, List.length_map]; show _ + 1 ≤ _; omega), fun x3 y3 => ?_⟩
      have w3 := same_new (o := .lst ((C.map vN).take p ++ [yy])) y3
      refine ⟨_, rfl, _, rfl, _, _, rfl, rfl, _, rfl, a, _, rfl, SqL.of (w3 _ _ (w2 _ _ (w1 _ _ hL1))), ?_⟩
      dsimp only
      rw [show ((p : Nat) : Int) + 1 = ((p + 1 : Nat) : Int) by omega, drop_cut]
      refine fun x4 y4 => ?_
      have w4 := same_new (o := .lst ((C.map vN).drop (p + 1))) y4
      refine ⟨x3, x4, _, _, rfl, rfl, w4 _ _ upd_same, upd_same, sl2000 (by rw [List.length_append, List.length_take, List.length_drop, List.length_map]; show _ + 1 + _ ≤ _; omega), fun x5 y5 => ?_⟩
      have w5 := same_new (o := .lst (((C.map vN).take p ++ [yy]) ++ (C.map vN).drop (p + 1))) y5
      have wA := (((w1.trans w2).trans w3).trans w4).trans w5
      have hx5 := upd_same (H := upd (upd (upd (upd H1 x1 (.lst ((C.map vN).take p))) x2 (.lst [yy])) x3 (.lst ((C.map vN).take p ++ [yy]))) x4 (.lst ((C.map vN).drop (p + 1)))) (a := x5) (o := .lst (((C.map vN).take p ++ [yy]) ++ (C.map vN).drop (p + 1)))
      refine ⟨_, rfl, (by show 2 ≤ sizeLine; decide), fun t nt => ?_⟩
      have w6 := same_new (o := .tup [.ref x5, vN m]) nt
      have wB := wA.trans w6
      obtain ⟨hno, hkp⟩ := amid hpl hC (w6 _ _ hx5) (hyw.same wB) hyf
      exact k t _ _ _ (sm.trans wB) upd_same (.inr ⟨oddN _, .inl hno⟩) hkp
    clear g1
    -- nothing that comes
    refine seq_g fun R1 g1 => ⟨_, rfl, rfl, _, rfl, ite2 (fun h2 => ?_) (fun h2 => g1 _ _ ?_)⟩
    · clear g1
      refine ⟨(by show 1 ≤ sizeLine; decide), fun x1 y1 => ?_⟩
      have w1 := same_new (o := .lst [.int 0]) y1
      refine ⟨_, rfl, a, _, rfl, .inl (SqL.of (w1 _ _ hL1)), x1, _, _, rfl, rfl, upd_same, ?_, ?_, ?_, fun x2 y2 => ?_⟩
      · omega
      · rw [List.length_map]; omega
      · rw [List.length_map, Int.toNat_natCast]; exact sl2000 (by show 1 * C.length ≤ _; omega)
      dsimp only
      rw [rep_int (((C.map vN).length : Nat) : Int) 0 C.length 0 rfl (by rw [List.length_map])]
      have w2 := same_new (o := .lst ((List.replicate C.length 0).map vN)) y2
      refine ⟨_, rfl, (by show 2 ≤ sizeLine; decide), fun t nt => ?_⟩
      have w3 := same_new (o := .tup [.ref x2, vN m]) nt
      have hx2 := w3 _ _ (upd_same (a := x2) (o := .lst ((List.replicate C.length 0).map vN)))
      exact k t _ _ _ (sm.trans ((w1.trans w2).trans w3)) upd_same (.inr ⟨oddN _, .inr ⟨_, ⟨x2, rfl, hx2, fun l hl => by rw [(List.mem_replicate.mp hl).2]; decide⟩, .inl (aot_rep0 _)⟩⟩) (.inl ⟨x2, _, rfl, hx2, vN_fl _⟩)
    clear g1
    -- no list
    refine seq_g fun R1 g1 => ⟨_, rfl, rfl, _, rfl, ite2 (fun h3 => ?_) (fun h3 => g1 _ _ ?_)⟩
    · clear g1
      refine ⟨Nat.zero_le _, fun x1 y1 => ?_⟩
      have w1 := same_new (o := .lst []) y1
      refine ⟨_, rfl, a, _, rfl, .inl ⟨SqL.of (w1 _ _ hL1), fun x2 y2 => ?_⟩⟩
      have w2 := same_new (o := .tup (C.map vN)) y2
      refine fun x3 y3 => ?_
      have w3 := same_new (o := .dK []) y3
      refine ⟨(by show 6 ≤ sizeLine; decide), fun x4 y4 => ?_⟩
      have w4 := same_new (o := .lst [.ref x1, .non, .ref x2, .str (Str.ofString "1"), .ref x3, .int 5]) y4
      have hx1 := w4 _ _ (w3 _ _ (w2 _ _ (upd_same (H := H1) (a := x1) (o := .lst []))))
      have hx2 := w4 _ _ (w3 _ _ (upd_same (a := x2) (o := .tup (C.map vN))))
      have hx3 := w4 _ _ (upd_same (a := x3) (o := .dK []))
      have wA := ((w1.trans w2).trans w3).trans w4
      obtain ⟨z, hz, ez⟩ : ∃ z : Nat, z < 6 ∧ c / 12 % 6 = ((z : Nat) : Int) := ⟨(c / 12 % 6).toNat, by omega, by omega⟩
      have key : ∀ H', H' x1 = some (.lst []) → H' x2 = some (.tup (C.map vN)) → H' x3 = some (.dK []) → ∃ v, atI ([.ref x1, .non, .ref x2, .str (Str.ofString "1"), .ref x3, .int 5] : List V) (c / 12 % 6) = some v ∧ BadS K H' v (vN m) ∧ Kp H' v := by
        intro H' hx1 hx2 hx3
        rw [ez]
        match z, hz with
        | 0, _ => exact ⟨_, atI_nat rfl, .inr ⟨[], ⟨x1, rfl, hx1, fun l hl => nomatch hl⟩, .inl rfl⟩, .inl ⟨x1, [], rfl, hx1, fun l hl => nomatch hl⟩⟩
        | 1, _ => exact ⟨_, atI_nat rfl, .inl (.inl ⟨_, .non, kit_nl K (by decide)⟩), .inr (.inl rfl)⟩
        | 2, _ => exact ⟨_, atI_nat rfl, .inl (.inl ⟨_, .tup hx2, kit_nl K (by decide)⟩), .inr (.inr (.inl ⟨x2, _, rfl, hx2, by simp [flatV]⟩))⟩
        | 3, _ => exact ⟨_, atI_nat rfl, .inl (.inl ⟨_, .str _, kit_nl K (by decide)⟩), .inr (.inr (.inr (.inl ⟨_, rfl⟩)))⟩
        | 4, _ => exact ⟨_, atI_nat rfl, .inl (.inl ⟨_, .dK hx3, kit_nl K (by decide)⟩), .inr (.inr (.inr (.inr (.inl ⟨_, rfl, hx3⟩))))⟩
        | 5, _ => exact ⟨_, atI_nat rfl, .inl (.inl ⟨_, .int _, kit_nl K (by decide)⟩), .inr (.inr (.inr (.inr (.inr ⟨_, rfl⟩))))⟩
      obtain ⟨v, hv, hb, hk⟩ := key _ hx1 hx2 hx3
      refine ⟨_, rfl, _, _, rfl, rfl, ⟨by decide, by decide⟩, _, _, rfl, rfl, (by show (0 : Int) < 6; decide), x4, _, _, v, rfl, rfl, SqL.of upd_same, hv, _, rfl, (by show 2 ≤ sizeLine; decide), fun t nt => ?_⟩
      have w5 := same_new (o := .tup [v, vN m]) nt
      exact k t _ _ _ (sm.trans (wA.trans w5)) upd_same (.inr ⟨oddN _, hb.same w5⟩) (hk.same w5)
    clear g1
    -- 301 things
    refine seq_g fun R1 g1 => ⟨_, rfl, rfl, _, rfl, ite2 (fun h4 => ?_) (fun h4 => g1 _ _ ?_)⟩
    · clear g1
      refine ⟨(by show 1 ≤ sizeLine; decide), fun x1 y1 => ?_⟩
      have w1 := same_new (o := .lst [.int 1]) y1
      refine ⟨x1, _, _, rfl, rfl, upd_same, by decide, by decide, by decide, fun x2 y2 => ?_⟩
      rw [rep_int 301 1 301 1 rfl rfl]
      have w2 := same_new (o := .lst ((List.replicate 301 1).map vN)) y2
      refine ⟨(by show 2 ≤ sizeLine; decide), fun t nt => ?_⟩
      have w3 := same_new (o := .tup [.ref x2, .int 12]) nt
      have hx2 := w3 _ _ (upd_same (a := x2) (o := .lst ((List.replicate 301 1).map vN)))
      refine k t _ _ _ (sm.trans ((w1.trans w2).trans w3)) upd_same (.inr ⟨oddN _, .inr ⟨_, ⟨x2, rfl, hx2, fun l hl => by rw [(List.mem_replicate.mp hl).2]; decide⟩, .inl ?_⟩⟩) (.inl ⟨x2, _, rfl, hx2, vN_fl _⟩)
      unfold aot
      rw [List.length_replicate, decide_eq_false (show ¬ 301 ≤ 300 by decide), Bool.and_false, Bool.false_and]
    clear g1
    -- 65 things for six bits
    refine seq_g fun R1 g1 => ⟨_, rfl, rfl, _, rfl, ite2 (fun h5 => ?_) (fun h5 => g1 _ _ ?_)⟩
    · clear g1
      refine ⟨(by show 1 ≤ sizeLine; decide), fun x1 y1 => ?_⟩
      have w1 := same_new (o := .lst [.int 1]) y1
      refine ⟨x1, _, _, rfl, rfl, upd_same, by decide, by decide, by decide, fun x2 y2 => ?_⟩
      rw [rep_int 65 1 65 1 rfl rfl]
      have w2 := same_new (o := .lst ((List.replicate 65 1).map vN)) y2
      refine ⟨(by show 2 ≤ sizeLine; decide), fun t nt => ?_⟩
      have w3 := same_new (o := .tup [.ref x2, .str sNT]) nt
      have hx2 := w3 _ _ (upd_same (a := x2) (o := .lst ((List.replicate 65 1).map vN)))
      exact k t _ _ _ (sm.trans ((w1.trans w2).trans w3)) upd_same (.inl ⟨rfl, .inr ⟨_, ⟨x2, rfl, hx2, fun l hl => by rw [(List.mem_replicate.mp hl).2]; decide⟩, .inr ⟨aot_rep 65 1 (by decide) (by decide) (by decide), .inr ⟨6, rfl, by decide, by decide, by rw [cm_rep 65 1 (by decide)]; decide⟩⟩⟩⟩) (.inl ⟨x2, _, rfl, hx2, vN_fl _⟩)
    clear g1
    -- a greatest length that is none
    refine seq_g fun R1 g1 => ⟨_, rfl, _, _, rfl, rfl, _, rfl, ite2 (fun h6 => ?_) (fun h6 => g1 _ _ ?_)⟩
    · clear g1
      refine ⟨_, rfl, (by show 1 ≤ sizeLine; decide), fun x1 y1 => ?_⟩
      have w1 := same_new (o := .lst [.int 6]) y1
      refine ⟨_, rfl, _, _, rfl, rfl, ⟨by decide, by decide, by decide⟩, (by show 8 ≤ sizeLine; decide), fun x2 y2 => ?_⟩
      have w2 := same_new (o := .lst [.int 0, .int 13, .bl true, .non, .str (Str.ofString "6"), .ref x1, .int (-1), .int (10 ^ (20 : Int).toNat)]) y2
      have hx1 := w2 _ _ (upd_same (H := H1) (a := x1) (o := .lst [.int 6]))
      obtain ⟨z, hz, ez⟩ : ∃ z : Nat, z < 8 ∧ c / 12 % 8 = ((z : Nat) : Int) := ⟨(c / 12 % 8).toNat, by omega, by omega⟩
      have key : ∀ H', H' x1 = some (.lst [.int 6]) → ∃ v, atI ([.int 0, .int 13, .bl true, .non, .str (Str.ofString "6"), .ref x1, .int (-1), .int (10 ^ (20 : Int).toNat)] : List V) (c / 12 % 8) = some v ∧ OddY H' v ∧ WhV K H' v 1 12 false := by
        intro H' hx1
        rw [ez]
        match z, hz with
        | 0, _ => exact ⟨_, atI_nat rfl, oddN _, .inl ⟨_, rfl, by decide⟩⟩
        | 1, _ => exact ⟨_, atI_nat rfl, oddN _, .inl ⟨_, rfl, by decide⟩⟩
        | 2, _ => exact ⟨_, atI_nat rfl, .inl ⟨rfl, fun z => nomatch z⟩, .inr ⟨NoInt.bl _, rfl⟩⟩
        | 3, _ => exact ⟨_, atI_nat rfl, .inl ⟨rfl, fun z => nomatch z⟩, .inr ⟨NoInt.non, rfl⟩⟩
        | 4, _ => exact ⟨_, atI_nat rfl, .inl ⟨rfl, by decide +kernel⟩, .inr ⟨NoInt.str _, rfl⟩⟩
        | 5, _ => exact ⟨_, atI_nat rfl, .inr ⟨x1, _, rfl, hx1⟩, .inr ⟨NoInt.of (.lst hx1) (by decide), rfl⟩⟩
        | 6, _ => exact ⟨_, atI_nat rfl, oddN _, .inl ⟨_, rfl, by decide⟩⟩
        | 7, _ => exact ⟨_, atI_nat rfl, oddN _, .inl ⟨_, rfl, by decide +kernel⟩⟩
      obtain ⟨v, hv, ho, hw⟩ := key _ hx1
      refine ⟨_, rfl, _, _, rfl, rfl, ⟨by decide, by decide⟩, _, _, rfl, rfl, (by show (0 : Int) < 8; decide), x2, _, _, v, rfl, rfl, SqL.of upd_same, hv, (by show 2 ≤ sizeLine; decide), fun t nt => ?_⟩
      have w3 := same_new (o := .tup [.ref a, v]) nt
      have wA := (w1.trans w2).trans w3
      exact k t _ _ _ (sm.trans wA) upd_same (RefOk.same w3 (.inr ⟨ho, .inr ⟨C, ⟨a, rfl, w2 _ _ (w1 _ _ hL1), hC⟩, .inr ⟨haot, .inl hw⟩⟩⟩)) (.inl ⟨a, _, rfl, wA _ _ hL1, vN_fl _⟩)
    clear g1
    -- more things than codes
    refine seq_g fun R1 g1 => ⟨_, rfl, rfl, _, rfl, ite2 (fun h7 => ?_) (fun h7 => g1 _ _ ?_)⟩
    · clear g1
      refine ⟨_, rfl, (by show 1 ≤ sizeLine; decide), fun x1 y1 => ?_⟩
      have w1 := same_new (o := .lst [.int 3]) y1
      have hLa := w1 _ _ hL1
      have hx1 := upd_same (H := H1) (a := x1) (o := .lst [.int 3])
      generalize upd H1 x1 (.lst [.int 3]) = H2 at w1 hLa hx1 ⊢
      refine ⟨_, rfl, _, _, rfl, rfl, ⟨by omega, by omega, by decide⟩, _, _, rfl, rfl, _, rfl, a, rfl, ⟨_, SqL.of hLa⟩, fun l nl => ?_⟩
      refine compI_li (K := K) (a := a) (l := l) (xs := C.map vN) (n := 1) (g := gName 0) (tt := ttC) (te := tVar 0)
        (fun i ys H' => ys = ((C.take i).filter (fun b => decide (0 < b))).map vN ∧ H' l = some (.lst ys) ∧ Same H2 H') ⟨rfl, upd_same, same_new nl⟩ (fun i ys H' _ ⟨_, _, sm⟩ => SqL.of (sm _ _ hLa)) ?_ ?_ ?_ ?_ ?_
      · rintro i x ys σ H' hx ⟨rfl, hl, sm⟩ hσ
        obtain ⟨b, hb1, rfl⟩ := map_get hx
        have hil : i < C.length := (List.getElem?_eq_some_iff.mp hb1).1
        obtain ⟨u0, rfl⟩ : ∃ u0, σ = [u0] := match σ, hσ with | [u0], _ => ⟨u0, rfl⟩
        have hlen : ((C.take i).filter (fun b => decide (0 < b))).length ≤ 300 := Nat.le_trans (List.length_filter_le _ _) (by rw [List.length_take]; omega)
        refine ⟨_, rfl, _, _, rfl, rfl, _, rfl, ?_⟩
        rw [take_snoc hb1, List.filter_append]
        dsimp only
        by_cases h0 : 0 < b
        · rw [if_pos (decide_eq_true (show (0 : Int) < ((b : Nat) : Int) by omega))]
          refine ⟨_, rfl, hl, sl2000' (by rw [List.length_map]; omega), rfl, ?_, upd_same, fun c o e => ?_⟩
          · rw [List.filter_cons_of_pos (by simpa using h0), List.map_append]; rfl
          · rw [upd_ne (ne_of_none e nl)]; exact sm _ _ e
        · rw [if_neg (fun z => absurd (of_decide_eq_true z) (by omega))]
          refine ⟨rfl, ?_, ?_, sm⟩
          · rw [List.filter_cons_of_neg (by simpa using h0)]; simp
          · exact hl
      rotate_left
      · exact fun x σ H A B h z => h _ _ z
      · exact fun σ H A B h ⟨v, e1, i, j, e2, e3, c, e4, z⟩ => ⟨v, e1, i, j, e2, e3, c, e4, h _ _ z⟩
      · exact fun σ H A B h ⟨v, e1, z⟩ => ⟨v, e1, h _ _ z⟩
      rintro ys H3 ⟨rfl, hl, sm3⟩
      rw [List.length_map, List.take_length] at hl
      have h2m : 2 ^ m ≤ 64 := by
        have : 2 ^ m ≤ 2 ^ 6 := Nat.pow_le_pow_right (by decide) m6
        exact this
      have e2 : (1 : Int) * 2 ^ (((m : Nat) : Int)).toNat = ((2 ^ m : Nat) : Int) := by rw [Int.one_mul, Int.toNat_natCast]; simp
      obtain ⟨q, hq, eq⟩ : ∃ q : Nat, q < 3 ∧ c / 12 % 3 = ((q : Nat) : Int) := ⟨(c / 12 % 3).toNat, by omega, by omega⟩
      have en : ((1 : Int) * 2 ^ (((m : Nat) : Int)).toNat + 1) - ((((C.filter (fun b => decide (0 < b))).map vN).length : Nat) : Int) + c / 12 % 3 = ((2 ^ m + 1 - cm C + q : Nat) : Int) := by
        rw [e2, eq, List.length_map]
        have : (C.filter (fun b => decide (0 < b))).length = cm C := rfl
        rw [this]
        omega
      refine ⟨l, _, rfl, .inl (SqL.of hl), _, _, rfl, rfl, _, rfl, _, _, rfl, rfl, ⟨by decide, by decide⟩, _, _, rfl, rfl, (by show (0 : Int) < 3; decide), _, _, rfl, rfl, ?_⟩
      dsimp only
      rw [en]
      refine ⟨x1, _, _, rfl, rfl, sm3 _ _ hx1, by omega, by omega, (by rw [Int.toNat_natCast]; exact sl2000 (by show 1 * _ ≤ _; omega)), fun x2 y2 => ?_⟩
      rw [rep_int ((2 ^ m + 1 - cm C + q : Nat) : Int) 3 (2 ^ m + 1 - cm C + q) 3 rfl rfl]
      have w2 := same_new (o := .lst ((List.replicate (2 ^ m + 1 - cm C + q) 3).map vN)) y2
      refine ⟨a, x2, _, _, rfl, rfl, w2 _ _ (sm3 _ _ hLa), upd_same, (by rw [List.length_map, List.length_map, List.length_replicate]; exact sl2000 (by omega)), fun x3 y3 => ?_⟩
      rw [← List.map_append]
      have w3 := same_new (o := .lst ((C ++ List.replicate (2 ^ m + 1 - cm C + q) 3).map vN)) y3
      refine ⟨_, rfl, (by show 2 ≤ sizeLine; decide), fun t nt => ?_⟩
      have w4 := same_new (o := .tup [.ref x3, vN m]) nt
      have hx3 := w4 _ _ (upd_same (a := x3) (o := .lst ((C ++ List.replicate (2 ^ m + 1 - cm C + q) 3).map vN)))
      refine k t _ _ _ (sm.trans ((w1.trans sm3).trans ((w2.trans w3).trans w4))) upd_same (.inr ⟨oddN _, .inr ⟨_, ⟨x3, rfl, hx3, fun l hl => ?_⟩, .inr ⟨aot_app haot (by rw [List.length_append, List.length_replicate]; omega), .inr ⟨m, rfl, m1, m12, ?_⟩⟩⟩⟩) (.inl ⟨x3, _, rfl, hx3, vN_fl _⟩)
      · rcases List.mem_append.mp hl with hl | hl
        · exact hC l hl
        · rw [(List.mem_replicate.mp hl).2]; decide
      · rw [cm_app, cm_rep _ _ (by decide)]
        omega
    clear g1
    -- two things wrong
    refine ⟨_, rfl, _, rfl, _, rfl, a, _, rfl, SqL.of hL1, ?_⟩
    dsimp only
    rw [take_cut]
    refine fun x1 y1 => ?_
    have w1 := same_new (o := .lst ((C.map vN).take p)) y1
    refine ⟨_, rfl, (by show 1 ≤ sizeLine; decide), fun x2 y2 => ?_⟩
    have w2 := same_new (o := .lst [yy]) y2
    refine ⟨x1, x2, _, _, rfl, rfl, w2 _ _ upd_same, upd_same, sl2000 (by rw [List.length_take, List.length_map]; show _ + 1 ≤ _; omega), fun x3 y3 => ?_⟩
    have w3 := same_new (o := .lst ((C.map vN).take p ++ [yy])) y3
    refine ⟨_, rfl, _, rfl, _, _, rfl, rfl, _, rfl, a, _, rfl, SqL.of (w3 _ _ (w2 _ _ (w1 _ _ hL1))), ?_⟩
    dsimp only
    rw [show ((p : Nat) : Int) + 1 = ((p + 1 : Nat) : Int) by omega, drop_cut]
    refine fun x4 y4 => ?_
    have w4 := same_new (o := .lst ((C.map vN).drop (p + 1))) y4
    refine ⟨x3, x4, _, _, rfl, rfl, w4 _ _ upd_same, upd_same, sl2000 (by rw [List.length_append, List.length_take, List.length_drop, List.length_map]; show _ + 1 + _ ≤ _; omega), fun x5 y5 => ?_⟩
    have w5 := same_new (o := .lst (((C.map vN).take p ++ [yy]) ++ (C.map vN).drop (p + 1))) y5
    have wA := (((w1.trans w2).trans w3).trans w4).trans w5
    have hx5 := upd_same (H := upd (upd (upd (upd H1 x1 (.lst ((C.map vN).take p))) x2 (.lst [yy])) x3 (.lst ((C.map vN).take p ++ [yy]))) x4 (.lst ((C.map vN).drop (p + 1)))) (a := x5) (o := .lst (((C.map vN).take p ++ [yy]) ++ (C.map vN).drop (p + 1)))
    refine ⟨(by show 3 ≤ sizeLine; decide), fun x6 y6 => ?_⟩
    have w6 := same_new (o := .lst [.int 0, .int 13, .non]) y6
    obtain ⟨z, hz, ez⟩ : ∃ z : Nat, z < 3 ∧ c / 1000 % 3 = ((z : Nat) : Int) := ⟨(c / 1000 % 3).toNat, by omega, by omega⟩
    obtain ⟨v, hv, ho⟩ : ∃ v, atI ([.int 0, .int 13, .non] : List V) (c / 1000 % 3) = some v ∧ ∀ H', OddY H' v := by
      rw [ez]
      match z, hz with
      | 0, _ => exact ⟨_, atI_nat rfl, fun _ => oddN _⟩
      | 1, _ => exact ⟨_, atI_nat rfl, fun _ => oddN _⟩
      | 2, _ => exact ⟨_, atI_nat rfl, fun _ => .inl ⟨rfl, fun z => nomatch z⟩⟩
    refine ⟨_, rfl, _, _, rfl, rfl, ⟨by decide, by decide⟩, _, _, rfl, rfl, (by show (0 : Int) < 3; decide), x6, _, _, v, rfl, rfl, SqL.of upd_same, hv, (by show 2 ≤ sizeLine; decide), fun t nt => ?_⟩
    have w7 := same_new (o := .tup [.ref x5, v]) nt
    have wB := (wA.trans w6).trans w7
    obtain ⟨hno, hkp⟩ := amid hpl hC (w7 _ _ (w6 _ _ hx5)) (hyw.same wB) hyf
    exact k t _ _ _ (sm.trans wB) upd_same (.inr ⟨ho _, .inl hno⟩) hkp
end
end K8

set_option Elab.async false
set_option linter.all false
set_option maxRecDepth 100000
set_option maxHeartbeats 8000000
namespace K8
open PySem L2 QQ PM
seal PE PA PS PSs PT PW PG PI
def spLaw (K : PySem.W.Frag) : Sp := fun vs H Q _ => ∃ (a : Addr) (ns : List Int), vs = [.ref a] ∧ SqL K H a (ns.map V.int) ∧ ns.length ≤ 63 ∧ ∀ H', Q (.bl true) H'
abbrev nLaw : List Str := ["_law_script", "_law_many", "_law_counts", "_law_k", "_law_number", "_law_most", "_law_bad", "_law_length", "_law_kept"]
theorem scLaw : FnScope nLaw ["_law_script"] (defScope sLaw) := ⟨rfl, rfl, rfl, by decide +kernel, rfl, by decide +kernel, by decide +kernel⟩
structure All (K : PySem.W.Frag) (mg : Str → Option Value) (cP cL : Addr) (cs : List Addr) : Prop where
  D : Lgs K mg cP cL cs
  cell : ∃ f fd, Fn K mg "_law_cell_at" sCellAt ["_law_script", "_law_k"] f fd
  mixed : ∃ f fd, Fn K mg "_law_mixed" sMixed ["_law_cell", "_law_k"] f fd
  refused : ∃ f fd, Fn K mg "_law_refused" sRefused ["_law_counts", "_law_most"] f fd
  letby : ∃ f fd, Fn K mg "_law_let_by" sLetBy ["_law_counts", "_law_most"] f fd
  wrong : ∃ f fd, Fn K mg "_law_wrong" sWrong ["_law_counts", "_law_most", "_law_cell"] f fd
/-- a thing and what was kept of it -/
def Kept (H : Hp) (x y : V) : Prop := (∃ a b xs, x = .ref a ∧ y = .ref b ∧ H a = some (.lst xs) ∧ H b = some (.lst xs) ∧ ∀ z ∈ xs, FlR z) ∨
  (x = y ∧ (x = .non ∨ (∃ a ns, x = .ref a ∧ H a = some (.tup ns) ∧ ns.all flatV = true) ∨ (∃ s, x = .str s) ∨ (∃ a, x = .ref a ∧ H a = some (.dK [])) ∨ ∃ i, x = .int i))
theorem Kept.same {H H' : Hp} {x y : V} (s : Same H H') (h : Kept H x y) : Kept H' x y := by
  rcases h with ⟨a, b, xs, e1, e2, h1, h2, r⟩ | ⟨e, h | ⟨a, ns, e1, h1, r⟩ | h | ⟨a, e1, h1⟩ | h⟩
  · exact .inl ⟨a, b, xs, e1, e2, s _ _ h1, s _ _ h2, r⟩
  · exact .inr ⟨e, .inl h⟩
  · exact .inr ⟨e, .inr (.inl ⟨a, ns, e1, s _ _ h1, r⟩)⟩
  · exact .inr ⟨e, .inr (.inr (.inl h))⟩
  · exact .inr ⟨e, .inr (.inr (.inr (.inl ⟨a, e1, s _ _ h1⟩)))⟩
  · exact .inr ⟨e, .inr (.inr (.inr (.inr h)))⟩
section
variable {P : Program} {w : World} {K : PySem.W.Frag} {mg : Str → Option Value} {base : Heap} {cP cL : Addr} {cs : List Addr}
theorem kept_ne {H : Hp} {x y : V} {Q : VK} (h : Kept H x y) (q : Q (.bl false) H) : rNeGs K x y H Q ∨ rNe x y H Q ∨ rNeTT K x y H Q ∨ rNeD0 x y H Q := by
  rcases h with ⟨a, b, xs, rfl, rfl, h1, h2, r⟩ | ⟨rfl, rfl | ⟨a, ns, rfl, h1, r⟩ | ⟨s, rfl⟩ | ⟨a, rfl, h1⟩ | ⟨i, rfl⟩⟩
  · refine .inl ⟨a, b, rfl, rfl, ⟨xs, xs, SqL.of h1, SqL.of h2, rfl, fun i x y e1 e2 => ?_⟩, q⟩
    rw [e1] at e2
    cases e2
    exact .inl ⟨rfl, r x (List.mem_of_getElem? e1)⟩
  · exact .inr (.inl ⟨rfl, by rw [decide_eq_true rfl]; exact q⟩)
  · exact .inr (.inr (.inl ⟨a, a, ns, rfl, rfl, SqT.of h1, SqT.of h1, r, q⟩))
  · exact .inr (.inl ⟨rfl, by rw [decide_eq_true rfl]; exact q⟩)
  · exact .inr (.inr (.inr ⟨a, rfl, rfl, h1, q⟩))
  · exact .inr (.inl ⟨rfl, by rw [decide_eq_true rfl]; exact q⟩)
theorem cm_rep0 (n : Nat) : cm (List.replicate n 0) = 0 := by
  unfold cm
  rw [List.filter_eq_nil_iff.mpr (fun x hx => by rw [(List.mem_replicate.mp hx).2]; decide)]
  rfl
theorem aot_of {C : List Nat} (h1 : 1 ≤ C.length) (h3 : C.length ≤ 300) (h : ∃ b ∈ C, 0 < b) : aot C = true := by
  obtain ⟨b, hb, hp⟩ := h
  unfold aot
  rw [decide_eq_true h1, decide_eq_true h3, Bool.true_and, Bool.true_and]
  exact List.any_eq_true.mpr ⟨b, hb, decide_eq_true hp⟩
theorem count_at (n : Nat) : ∃ b : Nat, b ≤ 1000000 ∧ atI [V.int 0, V.int (1 + ((n : Nat) : Int) / 4 % 5), V.int (1 + ((n : Nat) : Int) / 4 % 1000000), V.int 1000000] (((n : Nat) : Int) % 4) = some (vN b) := by
  obtain ⟨z, hz, ez⟩ : ∃ z : Nat, z < 4 ∧ ((n : Nat) : Int) % 4 = (z : Int) := ⟨n % 4, by omega, by omega⟩
  rw [ez]
  match z, hz with
  | 0, _ => exact ⟨0, by decide, atI_nat rfl⟩
  | 1, _ => exact ⟨1 + n / 4 % 5, by omega, by rw [show 1 + ((n : Nat) : Int) / 4 % 5 = ((1 + n / 4 % 5 : Nat) : Int) by omega]; exact atI_nat rfl⟩
  | 2, _ => exact ⟨1 + n / 4 % 1000000, by omega, by rw [show 1 + ((n : Nat) : Int) / 4 % 1000000 = ((1 + n / 4 % 1000000 : Nat) : Int) by omega]; exact atI_nat rfl⟩
  | 3, _ => exact ⟨1000000, by decide, atI_nat rfl⟩
theorem ok_law {f : Addr} {fd : FuncData} (F : Fun K "law" "law" sLaw f fd) (A0 : All K mg cP cL cs) : FnOk P w K mg base CX0 37 f fd ["_law_script"] (spLaw K) := by
  obtain ⟨D, ⟨_, _, Ce⟩, ⟨_, _, Mi⟩, ⟨_, _, Rf⟩, ⟨_, _, Lb⟩, ⟨_, _, Wr⟩⟩ := A0
  have T := D.Y.X
  have GC := ok_cell (P := P) (w := w) (base := base) Ce T
  have GM := ok_mixed (P := P) (w := w) (base := base) Mi
  have GRf := ok_refused (P := P) (w := w) (base := base) Rf D
  have GL := ok_letby (P := P) (w := w) (base := base) Lb D
  have GW := ok_wrong (P := P) (w := w) (base := base) Wr T
  refine F.ok scLaw (fun vs H Q E h => ?_) (fun cdv A outer st H vs Q E hr h => ?_)
  · obtain ⟨a, ns, rfl, _⟩ := h
    rfl
  · obtain ⟨a, ns, rfl, hS, hlen, k⟩ := h
    have hr1 : Room 1 _ := hr.mono (by decide)
    have hr31 : Room 31 _ := hr.mono (by decide)
    have hu := hr.units
    refine ⟨_, pss_cons (ps_set (i := 1) scLaw.nd rfl (Or.inl rfl) (pe_op op_add pe_int (pe_op op_mod (pe_call GC hr1 (by rfl) Ce.m Ce.F.kp Ce.b .nil pass0 (pa_cons (pv 0) (pa_cons pe_int pa_nil))) pe_int)))
      (pss_cons (ps_set (i := 2) scLaw.nd rfl (Or.inl rfl) (pe_lst pa_nil))
      (pss_cons (ps_for PassesOwn.never rfl (pi_range1 (by rfl) T.range (pa_cons (pv 1) pa_nil)) (pg_name (i := 3) scLaw.nd rfl (Or.inl rfl))
        (pss_cons (ps_set (i := 4) scLaw.nd rfl (Or.inl rfl) (pe_call GM hr1 (by rfl) Mi.m Mi.F.kp Mi.b .nil pass0 (pa_cons (pe_call GC hr1 (by rfl) Ce.m Ce.F.kp Ce.b .nil pass0 (pa_cons (pv 0) (pa_cons (pe_op op_add pe_int (pe_op op_mod (pv 3) pe_int)) pa_nil))) (pa_cons (pv 3) pa_nil))))
        (pss_one (ps_expr (pe_bm PySem.F.plainAttrs_list PySem.F.slot_list_append PySem.F.type_list_append mt_append (pv 2) (pa_cons (pe_ix ix_list (pe_lst (pa_cons pe_int (pa_cons (pe_op op_add pe_int (pe_op op_mod (pe_op op_fdiv (pv 4) pe_int) pe_int)) (pa_cons (pe_op op_add pe_int (pe_op op_mod (pe_op op_fdiv (pv 4) pe_int) pe_int)) (pa_cons pe_int pa_nil))))) (pe_op op_mod (pv 4) pe_int) (fun _ _ => rfl)) pa_nil))))))
      (pss_cons (ps_if (pt_cmpR op_eq (pe_bm PySem.F.plainAttrs_list PySem.F.slot_list_count PySem.F.type_list_count mt_count (pv 2) (pa_cons pe_int pa_nil)) (pv 1) (nomark _))
        (pss_one (ps_asg pe_int (pg_sub (pv 2) (pe_op op_mod (pe_call GC hr1 (by rfl) Ce.m Ce.F.kp Ce.b .nil pass0 (pa_cons (pv 0) (pa_cons pe_int pa_nil))) (pv 1)) set_list))) pss_nil)
      (pss_cons (ps_set (i := 5) scLaw.nd rfl (Or.inl rfl) (pe_op op_add pe_int (pe_op op_mod (pe_call GC hr1 (by rfl) Ce.m Ce.F.kp Ce.b .nil pass0 (pa_cons (pv 0) (pa_cons pe_int pa_nil))) pe_int)))
      (pss_cons (ps_asg (pe_call GW hr31 (by rfl) Wr.m Wr.F.kp Wr.b .nil pass0 (pa_cons (pv 2) (pa_cons (pv 5) (pa_cons (pe_call GC hr1 (by rfl) Ce.m Ce.F.kp Ce.b .nil pass0 (pa_cons (pv 0) (pa_cons pe_int pa_nil))) pa_nil)))) (pg_tup rfl (pgs_cons (pg_name (i := 6) scLaw.nd rfl (Or.inl rfl)) (pgs_cons (pg_name (i := 7) scLaw.nd rfl (Or.inl rfl)) pgs_nil))))
      (pss_cons (ps_set (i := 8) scLaw.nd rfl (Or.inl rfl) (pe_ifExp (pt_val (pe_callB call_isi (by rfl) T.isi PyProof.Rows.boot_isinstance (pa_cons (pv 6) (pa_cons (pe_bltn (v := .ty "list") (by rfl) T.list PyProof.Rows.boot_list rfl) pa_nil)))) (pe_callTy call_list_of (by rfl) T.list PyProof.Rows.boot_list (pa_cons (pv 6) pa_nil)) (pv 6)))
      (pss_cons (ps_if (PW.pt (pw_or (pt_not (pt_val (pe_call GRf hr (by rfl) Rf.m Rf.F.kp Rf.b .nil pass0 (pa_cons (pv 6) (pa_cons (pv 7) pa_nil))))) (pw_or (pt_cmpR (OpR.either (op_neGs hu) (OpR.either op_ne (OpR.either (op_neTT hu) (op_neD0 hu)))) (pv 6) (pv 8) (nomark _))
          (pw_or1 (pt_not (pt_val (pe_call GRf hr (by rfl) Rf.m Rf.F.kp Rf.b .nil pass0 (pa_cons (pv 6) (pa_cons (pv 7) pa_nil))))))))) (pss_one (ps_ret pe_bl)) pss_nil)
      (pss_cons (ps_if (PW.pt (pw_or (pt_not (pt_val (pe_call GL hr (by rfl) Lb.m Lb.F.kp Lb.b .nil pass0 (pa_cons (pv 2) (pa_cons (pv 5) pa_nil))))) (pw_or (pt_not (pt_val (pe_call GL hr (by rfl) Lb.m Lb.F.kp Lb.b .nil pass0 (pa_cons (pe_op op_rep (pe_lst (pa_cons pe_int pa_nil)) (pe_op op_shl pe_int (pv 5))) (pa_cons (pv 5) pa_nil)))))
          (pw_or1 (pt_cmpR (OpR.either (op_neGs hu) (OpR.either op_ne (OpR.either (op_neTT hu) (op_neD0 hu)))) (pv 6) (pv 8) (nomark _)))))) (pss_one (ps_ret pe_bl)) pss_nil)
      (pss_cons (ps_set (i := 4) scLaw.nd rfl (Or.inl rfl) (pe_op op_add pe_int (pe_op op_mod (pe_call GC hr1 (by rfl) Ce.m Ce.F.kp Ce.b .nil pass0 (pa_cons (pv 0) (pa_cons pe_int pa_nil))) pe_int)))
      (pss_one (ps_ret (pe_call GL hr (by rfl) Lb.m Lb.F.kp Lb.b .nil pass0 (pa_cons (pe_op op_cat (pe_op op_cat (pe_op op_rep (pe_lst (pa_cons pe_int pa_nil)) (pe_op op_sub (pv 4) pe_int)) (pe_lst (pa_cons pe_int pa_nil))) (pe_op op_rep (pe_lst (pa_cons pe_int pa_nil)) (pe_op op_sub pe_int (pv 4)))) (pa_cons (pe_op op_add pe_int (pe_op op_mod (pe_call GC hr1 (by rfl) Ce.m Ce.F.kp Ce.b .nil pass0 (pa_cons (pv 0) (pa_cons pe_int pa_nil))) pe_int)) pa_nil)))))))))))))), ?_⟩
    -- how many
    obtain ⟨m0, hm0, em0⟩ : ∃ m0 : Nat, m0 < 8 ∧ ns.getD 0 0 % 8 = ((m0 : Nat) : Int) := ⟨(ns.getD 0 0 % 8).toNat, by omega, by omega⟩
    refine seq_g fun R1 g1 => ⟨_, rfl, a, ns, 0, rfl, hS, _, _, rfl, rfl, (by show (0 : Int) < 8; decide), _, _, rfl, rfl, ?_⟩
    dsimp only
    rw [em0, show (1 : Int) + ((m0 : Nat) : Int) = ((1 + m0 : Nat) : Int) by omega]
    refine g1 _ _ ?_
    clear g1
    obtain ⟨M, eM, hM1, hM8⟩ : ∃ M : Nat, 1 + m0 = M ∧ 1 ≤ M ∧ M ≤ 8 := ⟨_, rfl, by omega, by omega⟩
    rw [eM]
    -- the counts
    refine seq_g fun R1 g1 => ⟨Nat.zero_le _, fun l nl => g1 _ _ ?_⟩
    clear g1
    have s1 := same_new (o := .lst []) nl
    refine seq_g fun R1 g1 => ?_
    refine ⟨_, rfl, ((M : Nat) : Int), rfl, by omega, by omega, ?_⟩
    rw [Int.toNat_natCast]
    refine for_range (D := ⟨_, _, fun _ _ => False, fun _ _ => False⟩) (lo := 0) (n := M) (fun i σ H2 => ∃ (C : List Nat) (v3 v4 : Option V), σ = [some (.ref a), some (vN M), some (.ref l), v3, v4, none, none, none, none] ∧ C.length = i ∧ (∀ b ∈ C, b ≤ 1000000) ∧ H2 l = some (.lst (C.map vN)) ∧ Same H H2)
      ⟨[], none, none, rfl, rfl, (fun _ h => nomatch h), upd_same, s1⟩ ?_ ?_
    · clear g1 s1
      rintro i σ H2 hi ⟨C, v3, v4, rfl, hCl, hC, hl2, sm⟩
      have ei : (0 : Int) + ((i : Nat) : Int) = ((i : Nat) : Int) := by omega
      dsimp only
      rw [ei]
      refine seq_g fun R2 g2 => ?_
      refine ⟨_, rfl, _, rfl, _, _, rfl, rfl, (by show (0 : Int) < 20; decide), _, _, rfl, rfl, a, ns, 3 + i % 20, ?_, sm.seq hS, _, rfl, _, ((i : Nat) : Int), rfl, by omega, by omega, fun n => g2 _ _ ?_⟩
      · show [V.ref a, V.int (3 + ((i : Nat) : Int) % 20)] = _
        rw [show (3 : Int) + ((i : Nat) : Int) % 20 = ((3 + i % 20 : Nat) : Int) by omega]
      clear g2
      obtain ⟨b, hb, hat⟩ := count_at n
      refine ⟨_, rfl, .inl ⟨rfl, _, SqL.of hl2⟩, _, rfl, _, _, rfl, rfl, ⟨by decide, by decide⟩, _, _, rfl, rfl, (by show (0 : Int) < 5; decide), _, _, rfl, rfl, _, rfl, _, _, rfl, rfl, ⟨by decide, by decide⟩, _, _, rfl, rfl, (by show (0 : Int) < 1000000; decide), _, _, rfl, rfl, (by show 4 ≤ sizeLine; decide), fun p np => ?_⟩
      have s2 := same_new (o := .lst [V.int 0, V.int (1 + ((n : Nat) : Int) / 4 % 5), V.int (1 + ((n : Nat) : Int) / 4 % 1000000), V.int 1000000]) np
      refine ⟨_, rfl, _, _, rfl, rfl, (by show (0 : Int) < 4; decide), p, _, _, vN b, rfl, rfl, SqL.of upd_same, hat, l, _, _, rfl, rfl, s2 _ _ hl2, sl2000' (by rw [List.length_map]; omega), ?_⟩
      refine ⟨C ++ [b], _, _, rfl, by rw [List.length_append, hCl]; rfl, fun x hx => ?_, by rw [upd_same, List.map_append]; rfl, fun c o e => ?_⟩
      · rcases List.mem_append.mp hx with hx | hx
        · exact hC x hx
        · have : x = b := by simpa using hx
          omega
      · rw [upd_ne (ne_of_none e nl)]; exact s2 _ _ (sm _ _ e)
    rintro σ H1 ⟨C0, v3, v4, rfl, hCl0, hC0, hl1, sm1⟩
    refine g1 _ _ ?_
    clear g1 s1
    -- one that comes
    refine seq_g fun R1 g1 => ?_
    suffices J : ∀ (H2 : Hp) (C : List Nat), Same H H2 → H2 l = some (.lst (C.map vN)) → C.length = M → (∀ b ∈ C, b ≤ 1000000) → (∃ b ∈ C, 0 < b) → R1 [some (.ref a), some (vN M), some (.ref l), v3, v4, none, none, none, none] H2 by
      refine ⟨_, rfl, .inl ⟨rfl, _, SqL.of hl1⟩, l, _, 0, rfl, rfl, by rw [← mapI]; exact hl1, _, rfl, rfl, _, rfl, ite2 (fun h1 => ?_) (fun h1 => ?_)⟩
      · obtain ⟨j, hj, ej⟩ : ∃ j : Nat, j < M ∧ ns.getD 1 0 % ((M : Nat) : Int) = ((j : Nat) : Int) := by
          have g1 := Int.emod_nonneg (ns.getD 1 0) (show ((M : Nat) : Int) ≠ 0 by omega)
          have g2 := Int.emod_lt_of_pos (ns.getD 1 0) (show 0 < ((M : Nat) : Int) by omega)
          exact ⟨(ns.getD 1 0 % ((M : Nat) : Int)).toNat, by omega, by omega⟩
        refine ⟨_, rfl, _, rfl, a, ns, 1, rfl, sm1.seq hS, _, rfl, _, _, rfl, rfl, (by show (0 : Int) < ((M : Nat) : Int); omega), ?_⟩
        dsimp only
        rw [ej]
        refine ⟨l, _, _, j, rfl, rfl, hl1, ixN_nat (by rw [List.length_map]; omega), ?_⟩
        refine J _ (C0.set j 1) (fun c o e => by rw [upd_ne (ne_of_none e nl)]; exact sm1 _ _ e) (by rw [upd_same, List.map_set]; rfl) (by rw [List.length_set]; exact hCl0) (fun b hb => ?_) ⟨1, ?_, by decide⟩
        · rcases List.mem_or_eq_of_mem_set hb with hb | hb
          · exact hC0 b hb
          · omega
        · exact List.mem_of_getElem? (i := j) (by rw [List.getElem?_set, if_pos rfl, if_pos (by omega)])
      · refine J _ C0 sm1 hl1 hCl0 hC0 ?_
        refine Classical.byContradiction fun hn => h1 (decide_eq_true ?_)
        have hz : ∀ b ∈ C0, b = 0 := fun b hb => by
          rcases Nat.eq_zero_or_pos b with e | e
          · exact e
          · exact absurd ⟨b, hb, e⟩ hn
        have hc : (C0.map (fun b => ((b : Nat) : Int))).count 0 = M := by
          rw [← hCl0, ← List.length_map (f := fun b => ((b : Nat) : Int)) (as := C0)]
          refine List.count_eq_length.mpr fun x hx => ?_
          obtain ⟨b, hb, rfl⟩ := List.mem_map.mp hx
          rw [hz b hb]
          rfl
        rw [hc]
    clear hl1 sm1 hCl0 hC0 H1 C0
    intro H2 C sm hl hCl hC hpos
    refine g1 _ _ ?_
    clear g1
    -- the greatest length
    obtain ⟨q, hq, eq⟩ : ∃ q : Nat, q < 4 ∧ ns.getD 1 0 % 4 = ((q : Nat) : Int) := ⟨(ns.getD 1 0 % 4).toNat, by omega, by omega⟩
    refine seq_g fun R1 g1 => ⟨_, rfl, a, ns, 1, rfl, sm.seq hS, _, _, rfl, rfl, (by show (0 : Int) < 4; decide), _, _, rfl, rfl, ?_⟩
    dsimp only
    rw [eq, show (3 : Int) + ((q : Nat) : Int) = ((3 + q : Nat) : Int) by omega]
    refine g1 _ _ ?_
    clear g1
    obtain ⟨mm, em, mm3, mm6⟩ : ∃ mm : Nat, 3 + q = mm ∧ 3 ≤ mm ∧ mm ≤ 6 := ⟨_, rfl, by omega, by omega⟩
    rw [em]
    have p8 : 8 ≤ 2 ^ mm := by
      have : 2 ^ 3 ≤ 2 ^ mm := Nat.pow_le_pow_right (by decide) mm3
      exact this
    have p64 : 2 ^ mm ≤ 64 := by
      have : 2 ^ mm ≤ 2 ^ 6 := Nat.pow_le_pow_right (by decide) mm6
      exact this
    have haot : aot C = true := aot_of (by omega) (by omega) hpos
    have hcm := cm_le C
    have G : GoodS C mm := ⟨haot, by omega, by omega, by omega⟩
    -- something wrong
    refine seq_g fun R1 g1 => ⟨_, rfl, _, rfl, _, rfl, a, ns, 2, rfl, sm.seq hS, l, C, mm, _, rfl, hl, hC, G, by omega, mm3, mm6, fun t x y H3 s3 ht hRef hKp => ⟨t, _, rfl, SqT.of ht, rfl, _, _, rfl, _, _, rfl, rfl, g1 _ _ ?_⟩⟩
    clear g1
    -- kept
    refine seq_g fun R1 g1 => ?_
    suffices J : ∀ (H4 : Hp) (y8 : V), Same H3 H4 → Kept H4 x y8 → R1 [some (.ref a), some (vN M), some (.ref l), v3, v4, some (vN mm), some x, some y, some y8] H4 by
      rcases hKp with ⟨b, xs, rfl, h, r⟩ | rfl | ⟨b, xs, rfl, h, r⟩ | ⟨z, rfl⟩ | ⟨b, rfl, h⟩ | ⟨i, rfl⟩
      · exact ⟨_, rfl, _, _, _, _, rfl, .lst h, kit_ll K, _, rfl, iteT ⟨_, rfl, b, xs, rfl, .inl (SqL.of h), fun lk nk => J _ _ (same_new nk) (.inl ⟨b, lk, xs, rfl, rfl, same_new nk _ _ h, upd_same, r⟩)⟩⟩
      · exact ⟨_, rfl, _, _, _, _, rfl, .non, kit_nl K (by decide), _, rfl, iteF ⟨_, rfl, J _ _ (.refl _) (.inr ⟨rfl, .inl rfl⟩)⟩⟩
      · exact ⟨_, rfl, _, _, _, _, rfl, .tup h, kit_nl K (by decide), _, rfl, iteF ⟨_, rfl, J _ _ (.refl _) (.inr ⟨rfl, .inr (.inl ⟨b, xs, rfl, h, r⟩)⟩)⟩⟩
      · exact ⟨_, rfl, _, _, _, _, rfl, .str _, kit_nl K (by decide), _, rfl, iteF ⟨_, rfl, J _ _ (.refl _) (.inr ⟨rfl, .inr (.inr (.inl ⟨z, rfl⟩))⟩)⟩⟩
      · exact ⟨_, rfl, _, _, _, _, rfl, .dK h, kit_nl K (by decide), _, rfl, iteF ⟨_, rfl, J _ _ (.refl _) (.inr ⟨rfl, .inr (.inr (.inr (.inl ⟨b, rfl, h⟩)))⟩)⟩⟩
      · exact ⟨_, rfl, _, _, _, _, rfl, .int _, kit_nl K (by decide), _, rfl, iteF ⟨_, rfl, J _ _ (.refl _) (.inr ⟨rfl, .inr (.inr (.inr (.inr ⟨i, rfl⟩)))⟩)⟩⟩
    intro H4 y8 s4 hK
    refine g1 _ _ ?_
    clear g1
    -- refused, twice
    have hRef4 := hRef.same s4
    refine seq_g fun R1 g1 => ⟨_, rfl, _, rfl, x, y, rfl, hRef4, fun H5 s5 => ⟨_, rfl, iteF ⟨_, rfl, _, rfl, kept_ne (hK.same s5) ⟨_, rfl, iteF ⟨_, rfl, _, rfl, x, y, rfl, hRef4.same s5, fun H6 s6 => ⟨_, rfl, iteF (g1 _ _ ?_)⟩⟩⟩⟩⟩⟩
    clear g1
    have s26 := (s3.trans s4).trans (s5.trans s6)
    have hK6 := hK.same (s5.trans s6)
    have hl6 := s26 _ _ hl
    have sm6 := sm.trans s26
    clear hRef4 hRef hKp ht s3 s4 s5 s6 hK s26
    -- let by
    refine seq_g fun R1 g1 => ⟨_, rfl, _, rfl, l, C, mm, rfl, hl6, hC, G, .inl (by rw [pos_len]; omega), fun H7 s7 => ⟨_, rfl, iteF ?_⟩⟩
    refine ⟨(by show 1 ≤ sizeLine; decide), fun x1 y1 => ?_⟩
    have w1 := same_new (o := .lst [.int 2]) y1
    refine ⟨_, rfl, _, _, rfl, rfl, ⟨by omega, by omega, by decide⟩, ?_⟩
    have e2 : (1 : Int) * 2 ^ (((mm : Nat) : Int)).toNat = ((2 ^ mm : Nat) : Int) := by rw [Int.one_mul, Int.toNat_natCast]; simp
    dsimp only
    rw [e2]
    refine ⟨x1, _, _, rfl, rfl, upd_same, by omega, by omega, (by rw [Int.toNat_natCast]; exact sl2000 (by show 1 * _ ≤ _; omega)), fun x2 y2 => ?_⟩
    rw [rep_int ((2 ^ mm : Nat) : Int) 2 (2 ^ mm) 2 rfl rfl]
    have w2 := same_new (o := .lst ((List.replicate (2 ^ mm) 2).map vN)) y2
    refine ⟨_, rfl, x2, List.replicate (2 ^ mm) 2, mm, rfl, upd_same, fun b hb => by rw [(List.mem_replicate.mp hb).2]; decide, ⟨aot_rep _ _ (by omega) (by omega) (by decide), by omega, by omega, by rw [cm_rep _ _ (by decide)]; exact Nat.le_refl _⟩, .inr ⟨by rw [pos_len, cm_rep _ _ (by decide)]; exact p64, 2, fun p hp => ?_⟩, fun H8 s8 => ⟨_, rfl, iteF ?_⟩⟩
    · have := (List.mem_filter.mp hp).1
      rw [List.mem_range, List.length_replicate] at this
      unfold cw
      rw [List.getD_eq_getElem?_getD, List.getElem?_replicate, if_pos this]
      rfl
    have s68 := s7.trans ((w1.trans w2).trans s8)
    refine ⟨_, rfl, _, rfl, kept_ne (hK6.same s68) ⟨_, rfl, iteF (g1 _ _ ?_)⟩⟩
    clear g1
    have sm8 := sm6.trans s68
    clear s68 s8 w2 w1 s7 hK6 hl6 sm6
    -- one alone of 300
    obtain ⟨n0, hn0, en0⟩ : ∃ n0 : Nat, n0 < 300 ∧ ns.getD 2 0 % 300 = ((n0 : Nat) : Int) := ⟨(ns.getD 2 0 % 300).toNat, by omega, by omega⟩
    refine seq_g fun R1 g1 => ⟨_, rfl, a, ns, 2, rfl, sm8.seq hS, _, _, rfl, rfl, (by show (0 : Int) < 300; decide), _, _, rfl, rfl, ?_⟩
    dsimp only
    rw [en0, show (1 : Int) + ((n0 : Nat) : Int) = ((1 + n0 : Nat) : Int) by omega]
    refine g1 _ _ ?_
    clear g1
    obtain ⟨q12, hq12, eq12⟩ : ∃ q : Nat, q < 12 ∧ ns.getD 1 0 % 12 = ((q : Nat) : Int) := ⟨(ns.getD 1 0 % 12).toNat, by omega, by omega⟩
    refine ⟨(by show 1 ≤ sizeLine; decide), fun x1 y1 => ?_⟩
    have w1 := same_new (o := .lst [.int 0]) y1
    refine ⟨_, rfl, _, _, rfl, rfl, ?_⟩
    dsimp only
    rw [show ((1 + n0 : Nat) : Int) - 1 = ((n0 : Nat) : Int) by omega]
    refine ⟨x1, _, _, rfl, rfl, upd_same, by omega, by omega, (by rw [Int.toNat_natCast]; exact sl2000 (by show 1 * _ ≤ _; omega)), fun x2 y2 => ?_⟩
    rw [rep_int ((n0 : Nat) : Int) 0 n0 0 rfl rfl]
    have w2 := same_new (o := .lst ((List.replicate n0 0).map vN)) y2
    refine ⟨(by show 1 ≤ sizeLine; decide), fun x3 y3 => ?_⟩
    have w3 := same_new (o := .lst [.int 1000000]) y3
    refine ⟨x2, x3, _, _, rfl, rfl, w3 _ _ upd_same, upd_same, sl2000 (by rw [List.length_map, List.length_replicate]; show _ + 1 ≤ _; omega), fun x4 y4 => ?_⟩
    have w4 := same_new (o := .lst ((List.replicate n0 0).map vN ++ [.int 1000000])) y4
    refine ⟨(by show 1 ≤ sizeLine; decide), fun x5 y5 => ?_⟩
    have w5 := same_new (o := .lst [.int 0]) y5
    refine ⟨_, rfl, _, _, rfl, rfl, ?_⟩
    dsimp only
    rw [show (300 : Int) - ((1 + n0 : Nat) : Int) = ((299 - n0 : Nat) : Int) by omega]
    refine ⟨x5, _, _, rfl, rfl, upd_same, by omega, by omega, (by rw [Int.toNat_natCast]; exact sl2000 (by show 1 * _ ≤ _; omega)), fun x6 y6 => ?_⟩
    rw [rep_int ((299 - n0 : Nat) : Int) 0 (299 - n0) 0 rfl rfl]
    have w6 := same_new (o := .lst ((List.replicate (299 - n0) 0).map vN)) y6
    refine ⟨x4, x6, _, _, rfl, rfl, w6 _ _ (w5 _ _ upd_same), upd_same, sl2000 (by rw [List.length_append, List.length_map, List.length_replicate, List.length_map, List.length_replicate]; show _ + 1 + _ ≤ _; omega), fun x7 y7 => ?_⟩
    have eC : (List.replicate n0 0).map vN ++ [V.int 1000000] ++ (List.replicate (299 - n0) 0).map vN = (List.replicate n0 0 ++ [1000000] ++ List.replicate (299 - n0) 0).map vN := by
      rw [List.map_append, List.map_append]; rfl
    rw [eC]
    have w7 := same_new (o := .lst ((List.replicate n0 0 ++ [1000000] ++ List.replicate (299 - n0) 0).map vN)) y7
    have wA := ((((w1.trans w2).trans w3).trans w4).trans w5).trans (w6.trans w7)
    refine ⟨_, rfl, a, ns, 1, rfl, (sm8.trans wA).seq hS, _, _, rfl, rfl, (by show (0 : Int) < 12; decide), _, _, rfl, rfl, ?_⟩
    dsimp only
    rw [eq12, show (1 : Int) + ((q12 : Nat) : Int) = ((1 + q12 : Nat) : Int) by omega]
    have hcm1 : cm (List.replicate n0 0 ++ [1000000] ++ List.replicate (299 - n0) 0) = 1 := by
      rw [cm_app, cm_app, cm_rep0, cm_rep0]; rfl
    have hln : (List.replicate n0 0 ++ [1000000] ++ List.replicate (299 - n0) 0).length = 300 := by
      rw [List.length_append, List.length_append, List.length_replicate, List.length_replicate]; show n0 + 1 + _ = _; omega
    refine ⟨x7, _, 1 + q12, rfl, upd_same, fun b hb => ?_, ⟨aot_of (by omega) (by omega) ⟨1000000, List.mem_append_left _ (List.mem_append_right _ List.mem_cons_self), by decide⟩, by omega, by omega, by rw [hcm1]; exact Nat.one_le_two_pow⟩, .inl (by rw [pos_len, hcm1]; decide), fun H9 _ => k _⟩
    rcases List.mem_append.mp hb with hb | hb
    · rcases List.mem_append.mp hb with hb | hb
      · rw [(List.mem_replicate.mp hb).2]; decide
      · have : b = 1000000 := by simpa using hb
        omega
    · rw [(List.mem_replicate.mp hb).2]; decide
end
end K8

set_option Elab.async false
set_option linter.all false
set_option maxRecDepth 100000
set_option maxHeartbeats 8000000
namespace K8
open PySem L2 QQ PM
/-! ### what the top has written -/
theorem paired_at {α β : Type} {F : α → β → Prop} {xs : List α} {ys : List β} (h : Paired F xs ys) : ∀ (i : Nat) (x : α) (y : β), xs[i]? = some x → ys[i]? = some y → F x y := by
  induction h with
  | nil => intro i x y h1; cases h1
  | cons r _ ih =>
    intro i x y h1 h2
    cases i with
    | zero => cases h1; cases h2; exact r
    | succ i => exact ih i x y h1 h2
theorem all_mk {l : PySem.W.OpenLaw} {w : World} {K : PySem.W.Frag} {h : Heap} {mg : Str → Option Value} {fa : Addr} (X : K.In h) (G : h.Ns mainGlobals mg) (hfa : mg "law" = some (.ref fa))
    {f1 : Addr} {od1 an1 : Option Addr} {sl1 : Array (Option Value)} {oc1 kV1 dc1 pm1 cd1 ct1 : Value}
    {f2 : Addr} {od2 an2 : Option Addr} {sl2 : Array (Option Value)} {oc2 kV2 dc2 pm2 cd2 ct2 : Value}
    {f3 : Addr} {od3 an3 : Option Addr} {sl3 : Array (Option Value)} {oc3 kV3 dc3 pm3 cd3 ct3 : Value}
    {f4 : Addr} {od4 an4 : Option Addr} {sl4 : Array (Option Value)} {oc4 kV4 dc4 pm4 cd4 ct4 : Value}
    {f5 : Addr} {od5 an5 : Option Addr} {sl5 : Array (Option Value)} {oc5 kV5 dc5 pm5 cd5 ct5 : Value}
    {f6 : Addr} {od6 an6 : Option Addr} {sl6 : Array (Option Value)} {oc6 kV6 dc6 pm6 cd6 ct6 : Value}
    {f7 : Addr} {od7 an7 : Option Addr} {sl7 : Array (Option Value)} {oc7 kV7 dc7 pm7 cd7 ct7 : Value}
    {f8 : Addr} {od8 an8 : Option Addr} {sl8 : Array (Option Value)} {oc8 kV8 dc8 pm8 cd8 ct8 : Value}
    {f9 : Addr} {od9 an9 : Option Addr} {sl9 : Array (Option Value)} {oc9 kV9 dc9 pm9 cd9 ct9 : Value}
    {f10 : Addr} {od10 an10 : Option Addr} {sl10 : Array (Option Value)} {oc10 kV10 dc10 pm10 cd10 ct10 : Value}
    {f11 : Addr} {od11 an11 : Option Addr} {sl11 : Array (Option Value)} {oc11 kV11 dc11 pm11 cd11 ct11 : Value}
    {f12 : Addr} {od12 an12 : Option Addr} {sl12 : Array (Option Value)} {oc12 kV12 dc12 pm12 cd12 ct12 : Value}
    {f13 : Addr} {od13 an13 : Option Addr} {sl13 : Array (Option Value)} {oc13 kV13 dc13 pm13 cd13 ct13 : Value}
    {f14 : Addr} {od14 an14 : Option Addr} {sl14 : Array (Option Value)} {oc14 kV14 dc14 pm14 cd14 ct14 : Value}
    {f15 : Addr} {od15 an15 : Option Addr} {sl15 : Array (Option Value)} {oc15 kV15 dc15 pm15 cd15 ct15 : Value}
    {f16 : Addr} {od16 an16 : Option Addr} {sl16 : Array (Option Value)} {oc16 kV16 dc16 pm16 cd16 ct16 : Value}
    {dT16 : Addr} {ocT16 : Value} {odT16 : Option Addr} {tT16 : Tok} {nT16 : Nat} {slT16 : Array (Option Value)}
    {t1 t2 t3 : Tok}
    {eP eL : Addr} {e0 : Addr} {e1 : Addr} {e2 : Addr} {e3 : Addr} {e4 : Addr} {e5 : Addr} {e6 : Addr} {e7 : Addr} {e8 : Addr} {e9 : Addr} {e10 : Addr} {e11 : Addr} {e12 : Addr} {e13 : Addr} {e14 : Addr} {e15 : Addr} {e16 : Addr}
    (a1 : PySem.W.nsIn K mainGlobals "is_whole" = some (some (.ref f1)))
    (l1 : K.lookup f1 = some ⟨oc1, od1, .func (PySem.W.fnOf "is_whole" "is_whole" (defArgs sWhole) (defBody sWhole) (defScope sWhole) .none kV1 dc1 pm1 an1 cd1 ct1), sl1⟩)
    (c1 : PySem.W.codeIn K cd1 "is_whole" = true)
    (k1 : PySem.W.keepIn K (.ref f1) = true)
    (a2 : PySem.W.nsIn K mainGlobals "is_number" = some (some (.ref f2)))
    (l2 : K.lookup f2 = some ⟨oc2, od2, .func (PySem.W.fnOf "is_number" "is_number" (defArgs sIsNumb) (defBody sIsNumb) (defScope sIsNumb) .none kV2 dc2 pm2 an2 cd2 ct2), sl2⟩)
    (c2 : PySem.W.codeIn K cd2 "is_number" = true)
    (k2 : PySem.W.keepIn K (.ref f2) = true)
    (a3 : PySem.W.nsIn K mainGlobals "are_whole" = some (some (.ref f3)))
    (l3 : K.lookup f3 = some ⟨oc3, od3, .func (PySem.W.fnOf "are_whole" "are_whole" (defArgs sAreWhole) (defBody sAreWhole) (defScope sAreWhole) .none kV3 dc3 pm3 an3 cd3 ct3), sl3⟩)
    (c3 : PySem.W.codeIn K cd3 "are_whole" = true)
    (k3 : PySem.W.keepIn K (.ref f3) = true)
    (a4 : PySem.W.nsIn K mainGlobals "are_of_things" = some (some (.ref f4)))
    (l4 : K.lookup f4 = some ⟨oc4, od4, .func (PySem.W.fnOf "are_of_things" "are_of_things" (defArgs sThings) (defBody sThings) (defScope sThings) .none kV4 dc4 pm4 an4 cd4 ct4), sl4⟩)
    (c4 : PySem.W.codeIn K cd4 "are_of_things" = true)
    (k4 : PySem.W.keepIn K (.ref f4) = true)
    (a5 : PySem.W.nsIn K mainGlobals "need_shares" = some (some (.ref f5)))
    (l5 : K.lookup f5 = some ⟨oc5, od5, .func (PySem.W.fnOf "need_shares" "need_shares" (defArgs sNeed) (defBody sNeed) (defScope sNeed) .none kV5 dc5 pm5 an5 cd5 ct5), sl5⟩)
    (c5 : PySem.W.codeIn K cd5 "need_shares" = true)
    (k5 : PySem.W.keepIn K (.ref f5) = true)
    (a6 : PySem.W.nsIn K mainGlobals "weight_of" = some (some (.ref f6)))
    (l6 : K.lookup f6 = some ⟨oc6, od6, .func (PySem.W.fnOf "weight_of" "weight_of" (defArgs sWeight) (defBody sWeight) (defScope sWeight) .none kV6 dc6 pm6 an6 cd6 ct6), sl6⟩)
    (c6 : PySem.W.codeIn K cd6 "weight_of" = true)
    (k6 : PySem.W.keepIn K (.ref f6) = true)
    (a7 : PySem.W.nsIn K mainGlobals "in_pairs" = some (some (.ref f7)))
    (l7 : K.lookup f7 = some ⟨oc7, od7, .func (PySem.W.fnOf "in_pairs" "in_pairs" (defArgs sPairs) (defBody sPairs) (defScope sPairs) .none kV7 dc7 pm7 an7 cd7 ct7), sl7⟩)
    (c7 : PySem.W.codeIn K cd7 "in_pairs" = true)
    (k7 : PySem.W.keepIn K (.ref f7) = true)
    (a8 : PySem.W.nsIn K mainGlobals "lightest_bundles" = some (some (.ref f8)))
    (l8 : K.lookup f8 = some ⟨oc8, od8, .func (PySem.W.fnOf "lightest_bundles" "lightest_bundles" (defArgs sLight) (defBody sLight) (defScope sLight) .none kV8 dc8 pm8 an8 cd8 ct8), sl8⟩)
    (c8 : PySem.W.codeIn K cd8 "lightest_bundles" = true)
    (k8 : PySem.W.keepIn K (.ref f8) = true)
    (a9 : PySem.W.nsIn K mainGlobals "_law_cell_at" = some (some (.ref f9)))
    (l9 : K.lookup f9 = some ⟨oc9, od9, .func (PySem.W.fnOf "_law_cell_at" "_law_cell_at" (defArgs sCellAt) (defBody sCellAt) (defScope sCellAt) .none kV9 dc9 pm9 an9 cd9 ct9), sl9⟩)
    (c9 : PySem.W.codeIn K cd9 "_law_cell_at" = true)
    (k9 : PySem.W.keepIn K (.ref f9) = true)
    (a10 : PySem.W.nsIn K mainGlobals "_law_mixed" = some (some (.ref f10)))
    (l10 : K.lookup f10 = some ⟨oc10, od10, .func (PySem.W.fnOf "_law_mixed" "_law_mixed" (defArgs sMixed) (defBody sMixed) (defScope sMixed) .none kV10 dc10 pm10 an10 cd10 ct10), sl10⟩)
    (c10 : PySem.W.codeIn K cd10 "_law_mixed" = true)
    (k10 : PySem.W.keepIn K (.ref f10) = true)
    (a11 : PySem.W.nsIn K mainGlobals "_law_alone" = some (some (.ref f11)))
    (l11 : K.lookup f11 = some ⟨oc11, od11, .func (PySem.W.fnOf "_law_alone" "_law_alone" (defArgs sAlone) (defBody sAlone) (defScope sAlone) .none kV11 dc11 pm11 an11 cd11 ct11), sl11⟩)
    (c11 : PySem.W.codeIn K cd11 "_law_alone" = true)
    (k11 : PySem.W.keepIn K (.ref f11) = true)
    (a12 : PySem.W.nsIn K mainGlobals "_law_refused" = some (some (.ref f12)))
    (l12 : K.lookup f12 = some ⟨oc12, od12, .func (PySem.W.fnOf "_law_refused" "_law_refused" (defArgs sRefused) (defBody sRefused) (defScope sRefused) .none kV12 dc12 pm12 an12 cd12 ct12), sl12⟩)
    (c12 : PySem.W.codeIn K cd12 "_law_refused" = true)
    (k12 : PySem.W.keepIn K (.ref f12) = true)
    (a13 : PySem.W.nsIn K mainGlobals "_law_let_by" = some (some (.ref f13)))
    (l13 : K.lookup f13 = some ⟨oc13, od13, .func (PySem.W.fnOf "_law_let_by" "_law_let_by" (defArgs sLetBy) (defBody sLetBy) (defScope sLetBy) .none kV13 dc13 pm13 an13 cd13 ct13), sl13⟩)
    (c13 : PySem.W.codeIn K cd13 "_law_let_by" = true)
    (k13 : PySem.W.keepIn K (.ref f13) = true)
    (a14 : PySem.W.nsIn K mainGlobals "_law_wrong" = some (some (.ref f14)))
    (l14 : K.lookup f14 = some ⟨oc14, od14, .func (PySem.W.fnOf "_law_wrong" "_law_wrong" (defArgs sWrong) (defBody sWrong) (defScope sWrong) .none kV14 dc14 pm14 an14 cd14 ct14), sl14⟩)
    (c14 : PySem.W.codeIn K cd14 "_law_wrong" = true)
    (k14 : PySem.W.keepIn K (.ref f14) = true)
    (a15 : PySem.W.nsIn K mainGlobals "law" = some (some (.ref f15)))
    (l15 : K.lookup f15 = some ⟨oc15, od15, .func (PySem.W.fnOf "law" "law" (defArgs sLaw) (defBody sLaw) (defScope sLaw) .none kV15 dc15 pm15 an15 cd15 ct15), sl15⟩)
    (c15 : PySem.W.codeIn K cd15 "law" = true)
    (k15 : PySem.W.keepIn K (.ref f15) = true)
    (a16 : PySem.W.nsIn K mainGlobals "lengths_of" = some (some (.ref f16)))
    (l16 : K.lookup f16 = some ⟨oc16, od16, .func (PySem.W.fnOf "lengths_of" "lengths_of" (defArgs sLengths) (defBody sLengths) (defScope sLengths) (.ref dT16) kV16 dc16 pm16 an16 cd16 ct16), sl16⟩)
    (c16 : PySem.W.codeIn K cd16 "lengths_of" = true)
    (k16 : PySem.W.keepIn K (.ref f16) = true)
    (t16 : K.lookup dT16 = some ⟨ocT16, odT16, .seq #[.int 6 tT16] nT16, slT16⟩)
    (z_isi : PySem.W.nsIn K mainGlobals "isinstance" = some none)
    (z_bool : PySem.W.nsIn K mainGlobals "bool" = some none)
    (z_int : PySem.W.nsIn K mainGlobals "int" = some none)
    (z_list : PySem.W.nsIn K mainGlobals "list" = some none)
    (z_tuple : PySem.W.nsIn K mainGlobals "tuple" = some none)
    (z_len : PySem.W.nsIn K mainGlobals "len" = some none)
    (z_range : PySem.W.nsIn K mainGlobals "range" = some none)
    (z_max : PySem.W.nsIn K mainGlobals "max" = some none)
    (z_sort : PySem.W.nsIn K mainGlobals "sorted" = some none)
    (z_enum : PySem.W.nsIn K mainGlobals "enumerate" = some none)
    (z_verr : PySem.W.nsIn K mainGlobals "ValueError" = some none)
    (gm : PySem.W.nsIn K mainGlobals "MOST_LENGTH" = some (some (.int 12 t1)))
    (gt : PySem.W.nsIn K mainGlobals "MOST_THINGS" = some (some (.int 300 t2)))
    (gc : PySem.W.nsIn K mainGlobals "MOST_COUNT" = some (some (.int 1000000 t3)))
    (gP : PySem.W.nsIn K mainGlobals "PressError" = some (some (.ref eP)))
    (xP : PySem.W.excIn K eP bmV "ValueError.__new__" = true)
    (ge0 : PySem.W.nsIn K mainGlobals "BadBits" = some (some (.ref e0)))
    (ge1 : PySem.W.nsIn K mainGlobals "BadBody" = some (some (.ref e1)))
    (ge2 : PySem.W.nsIn K mainGlobals "BadCheck" = some (some (.ref e2)))
    (ge3 : PySem.W.nsIn K mainGlobals "BadCode" = some (some (.ref e3)))
    (ge4 : PySem.W.nsIn K mainGlobals "BadHead" = some (some (.ref e4)))
    (ge5 : PySem.W.nsIn K mainGlobals "BadLengths" = some (some (.ref e5)))
    (ge6 : PySem.W.nsIn K mainGlobals "BadLetters" = some (some (.ref e6)))
    (ge7 : PySem.W.nsIn K mainGlobals "BadMark" = some (some (.ref e7)))
    (ge8 : PySem.W.nsIn K mainGlobals "BadPieces" = some (some (.ref e8)))
    (ge9 : PySem.W.nsIn K mainGlobals "BadRow" = some (some (.ref e9)))
    (ge10 : PySem.W.nsIn K mainGlobals "BadTable" = some (some (.ref e10)))
    (ge11 : PySem.W.nsIn K mainGlobals "BadTail" = some (some (.ref e11)))
    (ge12 : PySem.W.nsIn K mainGlobals "Behind" = some (some (.ref e12)))
    (ge13 : PySem.W.nsIn K mainGlobals "Cut" = some (some (.ref e13)))
    (ge14 : PySem.W.nsIn K mainGlobals "NoBits" = some (some (.ref e14)))
    (ge15 : PySem.W.nsIn K mainGlobals "NoRange" = some (some (.ref e15)))
    (ge16 : PySem.W.nsIn K mainGlobals "Over" = some (some (.ref e16)))
    (gL : PySem.W.nsIn K mainGlobals "BadShares" = some (some (.ref eL)))
    (xL : PySem.W.excIn K eL bmV "ValueError.__new__" = true)
    (yLa : PySem.W.findIn K (.ref eL) "__getattribute__" = some (some (.builtin "BaseException.__getattribute__")))
    (yLh : PySem.W.findIn K (.ref eL) "__getattr__" = some none)
    (yLb : PySem.W.hasDictIn K eL = true)
    (yLc : PySem.W.findIn K (.ref eL) "__class__" = some (some (.builtin "object.__class__")))
    (yLd : PySem.W.mroIn K eL (.type "object") = some true)
    (yLi : PySem.W.mroIn K eL (.type "BaseException") = some true)
    (yLe : (eL == eP) = false)
    (yLf : PySem.W.mroIn K eL (.ref eP) = some true)
    (yLg : PySem.W.kitOne K (.ref eL) (.type "ValueError") = some true)
    (yLo : PySem.W.kitOne K (.ref eL) (.ref eL) = some true)
    (q_0 : PySem.W.kitOne K (.ref eL) (.ref e0) = some false)
    (q_1 : PySem.W.kitOne K (.ref eL) (.ref e1) = some false)
    (q_2 : PySem.W.kitOne K (.ref eL) (.ref e2) = some false)
    (q_3 : PySem.W.kitOne K (.ref eL) (.ref e3) = some false)
    (q_4 : PySem.W.kitOne K (.ref eL) (.ref e4) = some false)
    (q_5 : PySem.W.kitOne K (.ref eL) (.ref e5) = some false)
    (q_6 : PySem.W.kitOne K (.ref eL) (.ref e6) = some false)
    (q_7 : PySem.W.kitOne K (.ref eL) (.ref e7) = some false)
    (q_8 : PySem.W.kitOne K (.ref eL) (.ref e8) = some false)
    (q_9 : PySem.W.kitOne K (.ref eL) (.ref e9) = some false)
    (q_10 : PySem.W.kitOne K (.ref eL) (.ref e10) = some false)
    (q_11 : PySem.W.kitOne K (.ref eL) (.ref e11) = some false)
    (q_12 : PySem.W.kitOne K (.ref eL) (.ref e12) = some false)
    (q_13 : PySem.W.kitOne K (.ref eL) (.ref e13) = some false)
    (q_14 : PySem.W.kitOne K (.ref eL) (.ref e14) = some false)
    (q_15 : PySem.W.kitOne K (.ref eL) (.ref e15) = some false)
    (q_16 : PySem.W.kitOne K (.ref eL) (.ref e16) = some false)
    (yg : PySem.W.specialIn K (.builtin "object.__class__") "__get__" = some (some (.builtin "getset_descriptor.__get__")))
    (yt : PySem.W.takesIn K (.builtin "object.__class__") = some true) :
    ∃ fd : FuncData, (∀ (s : Shared) (v : Value), BindsTo s fd ⟨[v], []⟩ [("_law_script", v)]) ∧ ∀ base : Heap, K.In base → base.Ns mainGlobals mg → FnOk l.prog w K mg base CX0 37 fa fd ["_law_script"] (spLaw K) := by
  have e := hfa.symm.trans (PySem.W.mg_of X G a15)
  cases e
  have F1 := fun_mk (st := sWhole) l1 c1 k1
  have b1 := F1.binds (ps := ["thing", "least", "most"]) fun _ _ _ _ _ _ us hl => match us, hl with | [_, _, _], _ => rfl
  have F2 := fun_mk (st := sIsNumb) l2 c2 k2
  have b2 := F2.binds (ps := ["thing"]) fun _ _ _ _ _ _ us hl => match us, hl with | [_], _ => rfl
  have F3 := fun_mk (st := sAreWhole) l3 c3 k3
  have b3 := F3.binds (ps := ["thing", "least", "most"]) fun _ _ _ _ _ _ us hl => match us, hl with | [_, _, _], _ => rfl
  have F4 := fun_mk (st := sThings) l4 c4 k4
  have b4 := F4.binds (ps := ["thing", "most"]) fun _ _ _ _ _ _ us hl => match us, hl with | [_, _], _ => rfl
  have F5 := fun_mk (st := sNeed) l5 c5 k5
  have b5 := F5.binds (ps := ["counts", "most"]) fun _ _ _ _ _ _ us hl => match us, hl with | [_, _], _ => rfl
  have F6 := fun_mk (st := sWeight) l6 c6 k6
  have b6 := F6.binds (ps := ["bundle"]) fun _ _ _ _ _ _ us hl => match us, hl with | [_], _ => rfl
  have F7 := fun_mk (st := sPairs) l7 c7 k7
  have b7 := F7.binds (ps := ["bundles"]) fun _ _ _ _ _ _ us hl => match us, hl with | [_], _ => rfl
  have F8 := fun_mk (st := sLight) l8 c8 k8
  have b8 := F8.binds (ps := ["singles", "most"]) fun _ _ _ _ _ _ us hl => match us, hl with | [_, _], _ => rfl
  have F9 := fun_mk (st := sCellAt) l9 c9 k9
  have b9 := F9.binds (ps := ["_law_script", "_law_k"]) fun _ _ _ _ _ _ us hl => match us, hl with | [_, _], _ => rfl
  have F10 := fun_mk (st := sMixed) l10 c10 k10
  have b10 := F10.binds (ps := ["_law_cell", "_law_k"]) fun _ _ _ _ _ _ us hl => match us, hl with | [_, _], _ => rfl
  have F11 := fun_mk (st := sAlone) l11 c11 k11
  have b11 := F11.binds (ps := ["_law_e"]) fun _ _ _ _ _ _ us hl => match us, hl with | [_], _ => rfl
  have F12 := fun_mk (st := sRefused) l12 c12 k12
  have b12 := F12.binds (ps := ["_law_counts", "_law_most"]) fun _ _ _ _ _ _ us hl => match us, hl with | [_, _], _ => rfl
  have F13 := fun_mk (st := sLetBy) l13 c13 k13
  have b13 := F13.binds (ps := ["_law_counts", "_law_most"]) fun _ _ _ _ _ _ us hl => match us, hl with | [_, _], _ => rfl
  have F14 := fun_mk (st := sWrong) l14 c14 k14
  have b14 := F14.binds (ps := ["_law_counts", "_law_most", "_law_cell"]) fun _ _ _ _ _ _ us hl => match us, hl with | [_, _, _], _ => rfl
  have F15 := fun_mk (st := sLaw) l15 c15 k15
  have F16 : FunD K "lengths_of" "lengths_of" sLengths (.ref dT16) f16 _ := ⟨⟨oc16, od16, kV16, dc16, pm16, an16, cd16, ct16, sl16, rfl, l16, c16⟩, k16⟩
  have b16 : Binds K (PySem.W.fnOf "lengths_of" "lengths_of" (defArgs sLengths) (defBody sLengths) (defScope sLengths) (.ref dT16) kV16 dc16 pm16 an16 cd16 ct16) ["counts", "most"] [] := fun s us hX hl => match us, hl with | [_, _], _ => PySem.W.binds_K hX rfl t16 rfl rfl rfl
  have d16 : Binds K (PySem.W.fnOf "lengths_of" "lengths_of" (defArgs sLengths) (defBody sLengths) (defScope sLengths) (.ref dT16) kV16 dc16 pm16 an16 cd16 ct16) ["counts", "most"] [.int 6 tT16] := fun s us hX hl => match us, (show us.length = 1 by simpa using hl) with | [_], _ => PySem.W.binds_K hX rfl t16 rfl rfl rfl
  have pm : Paired (fun (x : Str) (c : Addr) => mg x = some (.ref c)) names [e0, e1, e2, e3, e4, e5, e6, e7, e8, e9, e10, e11, e12, e13, e14, e15, e16] := (.cons (PySem.W.mg_of X G ge0) (.cons (PySem.W.mg_of X G ge1) (.cons (PySem.W.mg_of X G ge2) (.cons (PySem.W.mg_of X G ge3) (.cons (PySem.W.mg_of X G ge4) (.cons (PySem.W.mg_of X G ge5) (.cons (PySem.W.mg_of X G ge6) (.cons (PySem.W.mg_of X G ge7) (.cons (PySem.W.mg_of X G ge8) (.cons (PySem.W.mg_of X G ge9) (.cons (PySem.W.mg_of X G ge10) (.cons (PySem.W.mg_of X G ge11) (.cons (PySem.W.mg_of X G ge12) (.cons (PySem.W.mg_of X G ge13) (.cons (PySem.W.mg_of X G ge14) (.cons (PySem.W.mg_of X G ge15) (.cons (PySem.W.mg_of X G ge16) .nil)))))))))))))))))
  have hm : ∀ (i : Nat) (x : Str) (c : Addr), names[i]? = some x → [e0, e1, e2, e3, e4, e5, e6, e7, e8, e9, e10, e11, e12, e13, e14, e15, e16][i]? = some c → mg x = some (.ref c) := fun i x c h1 h2 => paired_at pm i x c h1 h2
  have pk : Paired (fun (j : Nat) (c : Addr) => PySem.W.kitOne K (.ref eL) (.ref c) = some false) (List.range 17) [e0, e1, e2, e3, e4, e5, e6, e7, e8, e9, e10, e11, e12, e13, e14, e15, e16] := (.cons (q_0) (.cons (q_1) (.cons (q_2) (.cons (q_3) (.cons (q_4) (.cons (q_5) (.cons (q_6) (.cons (q_7) (.cons (q_8) (.cons (q_9) (.cons (q_10) (.cons (q_11) (.cons (q_12) (.cons (q_13) (.cons (q_14) (.cons (q_15) (.cons (q_16) .nil)))))))))))))))))
  have hk : ∀ (i : Nat) (c : Addr), [e0, e1, e2, e3, e4, e5, e6, e7, e8, e9, e10, e11, e12, e13, e14, e15, e16][i]? = some c → PySem.W.kitOne K (.ref eL) (.ref c) = some false := fun i c h2 => paired_at pk i i c (List.getElem?_range (List.getElem?_eq_some_iff.mp h2).1) h2
  have Z : Ers K mg eP eL [e0, e1, e2, e3, e4, e5, e6, e7, e8, e9, e10, e11, e12, e13, e14, e15, e16] := {
    mP := PySem.W.mg_of X G gP
    xP := xP
    mL := PySem.W.mg_of X G gL
    xL := xL
    iL := ⟨yLa, yLh, yLb, yLc, yg, yt, yLd, yLi⟩
    nL := beq_eq_false_iff_ne.mp yLe
    sL := yLf
    vL := yLg
    oL := yLo
    len := ⟨_, _, _, _, _, _, _, _, _, _, _, _, _, _, _, _, _, rfl⟩
    m := hm
    k := hk }
  have T : Txt K mg := ⟨PySem.W.mg_none_of X G z_isi, PySem.W.mg_none_of X G z_bool, PySem.W.mg_none_of X G z_int, PySem.W.mg_none_of X G z_list, PySem.W.mg_none_of X G z_tuple, PySem.W.mg_none_of X G z_len, PySem.W.mg_none_of X G z_range, PySem.W.mg_none_of X G z_max, PySem.W.mg_none_of X G z_sort, PySem.W.mg_none_of X G z_enum, PySem.W.mg_none_of X G z_verr, ⟨t1, PySem.W.mg_of X G gm⟩, ⟨t2, PySem.W.mg_of X G gt⟩, ⟨t3, PySem.W.mg_of X G gc⟩, ⟨_, _, F2, PySem.W.mg_of X G a2, b2⟩⟩
  have Y : Shs K mg eP eL [e0, e1, e2, e3, e4, e5, e6, e7, e8, e9, e10, e11, e12, e13, e14, e15, e16] := ⟨T, Z, ⟨_, _, F1, PySem.W.mg_of X G a1, b1⟩, ⟨_, _, F3, PySem.W.mg_of X G a3, b3⟩, ⟨_, _, F4, PySem.W.mg_of X G a4, b4⟩⟩
  have D : Lgs K mg eP eL [e0, e1, e2, e3, e4, e5, e6, e7, e8, e9, e10, e11, e12, e13, e14, e15, e16] := ⟨Y, ⟨_, _, F5, PySem.W.mg_of X G a5, b5⟩, ⟨_, _, F8, PySem.W.mg_of X G a8, b8⟩, ⟨_, _, F7, PySem.W.mg_of X G a7, b7⟩, ⟨_, _, F6, PySem.W.mg_of X G a6, b6⟩, ⟨_, _, ⟨_, F16⟩, PySem.W.mg_of X G a16, b16, ⟨_, d16⟩⟩, ⟨_, _, F11, PySem.W.mg_of X G a11, b11⟩⟩
  have A : All K mg eP eL [e0, e1, e2, e3, e4, e5, e6, e7, e8, e9, e10, e11, e12, e13, e14, e15, e16] := ⟨D, ⟨_, _, F9, PySem.W.mg_of X G a9, b9⟩, ⟨_, _, F10, PySem.W.mg_of X G a10, b10⟩, ⟨_, _, F12, PySem.W.mg_of X G a12, b12⟩, ⟨_, _, F13, PySem.W.mg_of X G a13, b13⟩, ⟨_, _, F14, PySem.W.mg_of X G a14, b14⟩⟩
  exact ⟨PySem.W.fnOf "law" "law" (defArgs sLaw) (defBody sLaw) (defScope sLaw) .none kV15 dc15 pm15 an15 cd15 ct15, fun s v => .of_eq rfl, fun base _ _ => ok_law F15 A⟩
theorem walk {l : PySem.W.OpenLaw} {q : Program} {loose : List Str} {XP : (Str → Option Value) → Heap → Prop} {YP : World → Heap → Prop} {d : DefRec} {K : Params → PySem.W.Frag} (hn : l.most = some 63) (hdf : d.params.defaults = [])
    (hY : ∀ (w : World) (h : Heap), YP w h → (K w.params).In h)
    (F : ∀ (w : World) (mg : Str → Option Value) (fa : Addr) (h : Heap), (K w.params).In h → h.Ns mainGlobals mg → mg d.name = some (.ref fa) →
      ∃ fd : FuncData, (∀ (s : Shared) (u : Value), BindsTo s fd ⟨[u], []⟩ [("_law_script", u)]) ∧ ∀ base : Heap, (K w.params).In base → base.Ns mainGlobals mg → FnOk l.prog w (K w.params) mg base CX0 37 fa fd ["_law_script"] (spLaw (K w.params))) :
    PySem.W.WalkO q loose XP YP l.row.toRowW d [] (fun f vs => PySem.call f vs) :=
  L2.walk_of (n := 63) (k := 37) (x := "_law_script") (CX := fun _ => CX0) (sp := fun w => spLaw (K w.params)) hn (by decide) hdf ⟨fun _ => rfl, by decide, by decide⟩ hY F (fun _ _ a ns hl _ hS => ⟨a, ns, rfl, hS, hl, fun _ => rfl⟩) fun _ _ _ _ _ z => z
end K8
open PySem PySem.W PyProof.Rows
def PySem.W.Fast.tw10499339098014101010 : Nat := 0
def PySem.W.Fast.tw8421295433013600495 : Nat := 0
def PySem.W.Fast.tw14411440314965032164 : Nat := 0
def PySem.W.Fast.tw8253238560621431982 : Nat := 0
def PySem.W.Fast.tw16296619076128766665 : Nat := 0
def PySem.W.Fast.tw17081542757609110607 : Nat := 0
def PySem.W.Fast.tw6951940279255373489 : Nat := 0
def PySem.W.Fast.tw14819028546481719635 : Nat := 0
def PySem.W.Fast.tw3612531929550503083 : Nat := 0
def PySem.W.Fast.tw3546310470260857878 : Nat := 0
set_option maxRecDepth 100000 in
set_option maxHeartbeats 0 in
theorem PySem.Challenge.cw_balepress_k08_shares_refused_holds : PySem.Challenge.rw_balepress_k08_shares_refused.Holds := by
  w_on; o_law; k_head; (case hw => w_witness2)
  k_fill
  refine K8.walk (l := PySem.Challenge.rw_balepress_k08_shares_refused) rfl rfl (fun w h Y => PySem.W.kIn_of Y) ?F
  case F =>
    intro w mg fa h KX G hmg
    refine' K8.all_mk KX G hmg ?a1 ?l1 ?c1 ?k1 ?a2 ?l2 ?c2 ?k2 ?a3 ?l3 ?c3 ?k3 ?a4 ?l4 ?c4 ?k4 ?a5 ?l5 ?c5 ?k5 ?a6 ?l6 ?c6 ?k6 ?a7 ?l7 ?c7 ?k7 ?a8 ?l8 ?c8 ?k8 ?a9 ?l9 ?c9 ?k9 ?a10 ?l10 ?c10 ?k10 ?a11 ?l11 ?c11 ?k11 ?a12 ?l12 ?c12 ?k12 ?a13 ?l13 ?c13 ?k13 ?a14 ?l14 ?c14 ?k14 ?a15 ?l15 ?c15 ?k15 ?a16 ?l16 ?c16 ?k16 ?t16 ?z_isi ?z_bool ?z_int ?z_list ?z_tuple ?z_len ?z_range ?z_max ?z_sort ?z_enum ?z_verr ?gm ?gt ?gc ?gP ?xP ?ge0 ?ge1 ?ge2 ?ge3 ?ge4 ?ge5 ?ge6 ?ge7 ?ge8 ?ge9 ?ge10 ?ge11 ?ge12 ?ge13 ?ge14 ?ge15 ?ge16 ?gL ?xL ?yLa ?yLh ?yLb ?yLc ?yLd ?yLi ?yLe ?yLf ?yLg ?yLo ?q_0 ?q_1 ?q_2 ?q_3 ?q_4 ?q_5 ?q_6 ?q_7 ?q_8 ?q_9 ?q_10 ?q_11 ?q_12 ?q_13 ?q_14 ?q_15 ?q_16 ?yg ?yt
    (case a1 => k_is); (case l1 => k_is); (case c1 => k_is); (case k1 => k_is); (case a2 => k_is); (case l2 => k_is)
    (case c2 => k_is); (case k2 => k_is); (case a3 => k_is); (case l3 => k_is); (case c3 => k_is); (case k3 => k_is)
    (case a4 => k_is); (case l4 => k_is); (case c4 => k_is); (case k4 => k_is); (case a5 => k_is); (case l5 => k_is)
    (case c5 => k_is); (case k5 => k_is); (case a6 => k_is); (case l6 => k_is); (case c6 => k_is); (case k6 => k_is)
    (case a7 => k_is); (case l7 => k_is); (case c7 => k_is); (case k7 => k_is); (case a8 => k_is); (case l8 => k_is)
    (case c8 => k_is); (case k8 => k_is); (case a9 => k_is); (case l9 => k_is); (case c9 => k_is); (case k9 => k_is)
    (case a10 => k_is); (case l10 => k_is); (case c10 => k_is); (case k10 => k_is); (case a11 => k_is); (case l11 => k_is)
    (case c11 => k_is); (case k11 => k_is); (case a12 => k_is); (case l12 => k_is); (case c12 => k_is); (case k12 => k_is)
    (case a13 => k_is); (case l13 => k_is); (case c13 => k_is); (case k13 => k_is); (case a14 => k_is); (case l14 => k_is)
    (case c14 => k_is); (case k14 => k_is); (case a15 => k_is); (case l15 => k_is); (case c15 => k_is); (case k15 => k_is)
    (case a16 => k_is); (case l16 => k_is); (case c16 => k_is); (case k16 => k_is); (case t16 => k_is); (case z_isi => k_is)
    (case z_bool => k_is); (case z_int => k_is); (case z_list => k_is); (case z_tuple => k_is); (case z_len => k_is); (case z_range => k_is)
    (case z_max => k_is); (case z_sort => k_is); (case z_enum => k_is); (case z_verr => k_is); (case gm => k_is); (case gt => k_is)
    (case gc => k_is); (case gP => k_is); (case xP => kernel_rfl); (case ge0 => k_is); (case ge1 => k_is); (case ge2 => k_is)
    (case ge3 => k_is); (case ge4 => k_is); (case ge5 => k_is); (case ge6 => k_is); (case ge7 => k_is); (case ge8 => k_is)
    (case ge9 => k_is); (case ge10 => k_is); (case ge11 => k_is); (case ge12 => k_is); (case ge13 => k_is); (case ge14 => k_is)
    (case ge15 => k_is); (case ge16 => k_is); (case gL => k_is); (case xL => kernel_rfl); (case yLa => k_is); (case yLh => k_is)
    (case yLb => k_is); (case yLc => k_is); (case yLd => k_is); (case yLi => k_is); (case yLe => rfl); (case yLf => k_is)
    (case yLg => kernel_rfl); (case yLo => kernel_rfl); (case q_0 => kernel_rfl); (case q_1 => kernel_rfl); (case q_2 => kernel_rfl); (case q_3 => kernel_rfl)
    (case q_4 => kernel_rfl); (case q_5 => kernel_rfl); (case q_6 => kernel_rfl); (case q_7 => kernel_rfl); (case q_8 => kernel_rfl); (case q_9 => kernel_rfl)
    (case q_10 => kernel_rfl); (case q_11 => kernel_rfl); (case q_12 => kernel_rfl); (case q_13 => kernel_rfl); (case q_14 => kernel_rfl); (case q_15 => kernel_rfl)
    (case q_16 => kernel_rfl); (case yg => k_is); (case yt => k_is)

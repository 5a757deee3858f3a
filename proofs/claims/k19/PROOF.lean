import PyProof.Rows.All
import Wide.All
import OpenK.AllK
import Wide.FinOn
import PyProof.EqAt
import PyProof.EqKinds
import PyProof.TupleCall
import PyProof.Seq
import PyProof.RangeIter
import PyProof.TupleIter
import PyProof.Rows.TupIter
import PyProof.StationsW
import PyProof.ExcClass2
import PyProof.NeKinds
import PyProof.Rows.TupMore
import PyProof.AutoSeq1
import PyProof.ZipIter
import PyProof.StrWalks
import PyProof.StrBlock2
import PyProof.StrBlockI
import PyProof.StrLaws
import PyProof.SliceStr2
import PyProof.Rows.Range3
import PyProof.Rows.StrRev
import PyProof.ConsumeWalk
import PyProof.Rows.SortShellK
import PyProof.Rows.SortRev
import PyProof.SeqI3
import PyProof.Rows.SeqGen
import PyProof.Rows.SortRunsK
import KE.KEqDict
import Lean
import PySem.Challenge.RW_balepress_k19_shares
set_option Elab.async false
set_option linter.all false
set_option maxRecDepth 100000
namespace QQ
open PySem PyProof.Rows
def Hq (A:Around)(h:Heap):Prop:=A.handled=none\/∃a o vs,A.handled=some (.ref a)/\h.get? a=some o/\o.data=.fields vs/\vs[2]?=some Value.none
theorem Hq.keep {A:Around}{h h':Heap}(q:Hq A h)(k:∀a,A.handled=some (.ref a)->∀o,h.get? a=some o->h'.get? a=some o):Hq A h':=by
 rcases q with q|⟨a,o,vs,e,g,d,z⟩
 ·exact .inl q
 ·exact .inr ⟨a,o,vs,e,k a e o g,d,z⟩
theorem lg:entryFor table "proto.unchain"=some Builtin.«proto.unchain»:=entryFor_of_fast (by kernel_rfl)
section
variable {prog : Program} {w : World} {A : Around} {E : Value -> Shared -> Prop} {s : Shared}
theorem kN {α:Type}{e:Addr}{oe:Obj}{vs:Array Value}{Q:α->Shared->Prop}(hq:Hq A s.heap)(he:s.heap.get? e=some oe)(hd:oe.data=.fields vs)(hz:2<vs.size)
  (hne:A.handled≠some (.ref e))
  (h:∀h' o',h'.get? e=some o'->o'.cls=oe.cls->Heap.SameBut e s.heap h'->E (.ref e) {s with heap:=h'}):wpAny (model prog w) A (raiseNew (.ref e):Sem α) Q E s:=by
 unfold raiseNew;refine wpAny_bind (wpAny_handled ?_);rcases hq with q|⟨a,o,us,ea,ga,da,za⟩
 ·rw [q];exact wpAny_bind (wpAny_pure (wpAny_throw (h s.heap oe he rfl (Heap.SameBut.refl ..))))
 ·rw [ea];have ne:(Value.ref a !=Value.ref e)=true:=by
   have:a≠e:=λ z=>hne (by rw [ea,z])
   simp [bne,this]
  show wpAny _ _ (if(Value.ref a !=Value.ref e)=true then _ else _) _ _ _;rw [if_pos ne];refine wpAny_bind (wpAny_holding (wpAny_runValue (codeAny_builtin lg ?_)));show wpAny _ _ (field (.ref a) 2>>= _) _ _ s;refine wpAny_bind (wpAny_field ga da za ?_);show wpAny _ _ (if(Value.none==Value.none)=true then _ else _) _ _ s;rw [if_pos (by rfl)];refine wpAny_bind (wpAny_pure (wpAny_pure ?_));show wpAny _ _ (updateField e 2 (.ref a)>>= λ _=>throw (.ref e)) _ _ s;refine wpAny_bind (wpAny_setField he hd hz ?_:wpAny _ _ (setField (.ref e) 2 (.ref a)) _ _ s);refine wpAny_throw (h _ _ (Heap.get?_update_self _ he (Obj.isFreed_of_fields (Obj.data_mapFields hd _))) (Obj.cls_mapFields _ _) (Heap.SameBut.update ..))
theorem ck {α:Type}{E':Value->Shared->Prop}{R:α->Shared->Prop}(hq:Hq A s.heap)
  (h:∀h' e,(∀b o,s.heap.get? b=some o->h'.get? b=some o)->(∃o,h'.get? e=some o/\o.cls=.type "StopIteration")->E' (.ref e) {s with heap:=h'}):
  wpAny (model prog w) A (newExc (.type "StopIteration") []>>= λ v=>(raiseNew v:Sem α)) R E' s:=by
 refine wpAny_bind ?_;simp only [newExc,newTuple];refine wpAny_bind (wpAny_newObj_type ?_ (by size_fits));refine wpAny_bind (m:=firstArgMember _ _) (wpAny_of_eq (a:=Value.none) (by first|rfl|(simp only [firstArgMember];rfl)) ?_);refine wpAny_newObj_type ?_ (by size_fits);have k2:∀b o,s.heap.get? b=some o->((s.heap.push {cls:=.type "tuple",data:=.seq ([]:List Value).toArray}).push {cls:=.type "StopIteration",data:=.fields (#[.ref s.heap.objs.size,.none,.none,.none,.bool false,.none]++ownMembersOf (.type "StopIteration") [])}).get? b=some o:=
  λ b o e=>Heap.get?_push_of_some _ (Heap.get?_push_of_some _ e)
 refine kN (hq.keep λ a _ o e=>k2 a o e) (Heap.get?_push_size _ rfl) rfl (by simp [ownMembersOf]) ?_ λ h' o' ge ce sb=>?_
 ·rcases hq with q|⟨a,o,us,ea,ga,_⟩
  ·rw [q];intro z;cases z
  ·rw [ea];intro z;have e:a=(s.heap.push {cls:=.type "tuple",data:=.seq ([]:List Value).toArray}).objs.size:=Value.ref.inj (Option.some.inj z);have:=Heap.lt_size ga;rw [e,Heap.size_push] at this;exact absurd this (Nat.not_lt.mpr (Nat.le_succ _))
 ·refine h h' _ (λ b o e=>sb.extBut b o (λ z=>?_) (k2 b o e)) ⟨o',ge,ce⟩;have:=Heap.lt_size e;rw [z,Heap.size_push] at this;exact absurd this (Nat.not_lt.mpr (Nat.le_succ _))
theorem gR {A:Around}{h:Heap}{it:Addr}{o:Obj}{vs:Array Value}(q:Hq A h)(g:h.get? it=some o)(d:o.data=.fields vs)(z:vs[2]?≠some Value.none):A.handled≠some (.ref it):=by
 rcases q with q|⟨a,o',us,e,g',d',z'⟩
 ·rw [q];intro x;cases x
 ·rw [e];intro x;have e':a=it:=Value.ref.inj (Option.some.inj x);subst e';rw [g] at g';cases g';rw [d] at d';cases d';exact z z'
theorem list_end_q {it l:Addr}{i:Nat}{items}{Q:Option Value->Shared->Prop}(hq:Hq A s.heap)
  (hit:s.heap.IsListIter it l i) (hl:s.heap.IsList l items) (hx:items[i]?=none)
  (hQ:∀h',Heap.ExtBut it s.heap h'->Q none {s with heap:=h'}):wpAny (model prog w) A (pyNext (.ref it)) Q E s:=by
 obtain⟨o,ho,hc,hd⟩:=id hit;obtain⟨ol,hol,_,nl,hdl⟩:=hl;have hn:=gR hq ho hd (by simp);unfold pyNext;refine wpAny_bind (wpAny_attempt (wpAny_callSpecial?_slot (name:=Str.ofString "__next__") hit.typeIs slot_listiter_next (wpAny_call_entry slot_listiter_next hit.typeIs entry_listiter_next ?_ (args_listiter_next _))));show wpAny _ _ (field (.ref it) 0>>= _) _ _ s;refine wpAny_bind (wpAny_field ho hd (x:=.ref l) rfl ?_);show wpAny _ _ (if(Value.ref l==Value.none)=true then _ else _) _ _ s;rw [if_neg (show¬((Value.ref l==Value.none)=true) from Bool.false_ne_true)];show wpAny _ _ (field (.ref it) 1>>= _) _ _ s;refine wpAny_bind (wpAny_field ho hd (x:=.int i 0) rfl ?_);show wpAny _ _ (seqItems? (.ref l)>>= _) _ _ s;refine wpAny_bind (wpAny_seqItems hol hdl ?_);simp only [Int.toNat_natCast,hx];refine wpAny_bind (wpAny_rule (wpAny_bind (wpAny_setField ho hd (by simp) ?_)));have sb1:=Heap.SameBut.update (h:=s.heap) it (Obj.mapFields (·.setIfInBounds 0 Value.none));refine ck (A:=A.in1) (hq.keep λ a ea o' e=>sb1.extBut a o' (λ z=>hn (by rw [ea,z])) e) λ h' e k ⟨o',ge,ce⟩=>?_
 refine wpAny_bind (wpAny_isInstance (T:="StopIteration") (b:=true) ⟨_,ge,ce⟩ isSubtype_stop ?_);exact wpAny_pure (hQ _ λ b ob hb e1=>k b ob (sb1.extBut b ob hb e1))
theorem jD {it t:Addr}{i:Nat}{items}{Q:Option Value->Shared->Prop}(hq:Hq A s.heap)
  (hit:s.heap.IsTupleIter it t i) (ht:s.heap.IsTuple t items) (hx:items[i]?=none)
  (hQ:∀h',Heap.ExtBut it s.heap h'->Q none {s with heap:=h'}):wpAny (model prog w) A (pyNext (.ref it)) Q E s:=by
 obtain⟨o,ho,hc,hd⟩:=id hit;obtain⟨ol,hol,_,nl,hdl⟩:=ht;have hn:=gR hq ho hd (by simp);unfold pyNext;refine wpAny_bind (wpAny_attempt (wpAny_callSpecial?_slot (name:=Str.ofString "__next__") hit.typeIs F.slot_tuple_iterator_next (wpAny_call_entry F.slot_tuple_iterator_next hit.typeIs F.entry_tuple_iterator_next ?_ (F.args_tuple_iterator_next_1 _))));show wpAny _ _ (field (.ref it) 0>>= _) _ _ s;refine wpAny_bind (wpAny_field ho hd (x:=.ref t) rfl ?_);show wpAny _ _ (if(Value.ref t==Value.none)=true then _ else _) _ _ s;rw [if_neg (show¬((Value.ref t==Value.none)=true) from Bool.false_ne_true)];show wpAny _ _ (field (.ref it) 1>>= _) _ _ s;refine wpAny_bind (wpAny_field ho hd (x:=.int i 0) rfl ?_);show wpAny _ _ (seqItems? (.ref t)>>= _) _ _ s;refine wpAny_bind (wpAny_seqItems hol hdl ?_);simp only [Int.toNat_natCast,hx];refine wpAny_bind (wpAny_rule (wpAny_bind (wpAny_setField ho hd (by simp) ?_)));have sb1:=Heap.SameBut.update (h:=s.heap) it (Obj.mapFields (·.setIfInBounds 0 Value.none));refine ck (A:=A.in1) (hq.keep λ a ea o' e=>sb1.extBut a o' (λ z=>hn (by rw [ea,z])) e) λ h' e k ⟨o',ge,ce⟩=>?_
 refine wpAny_bind (wpAny_isInstance (T:="StopIteration") (b:=true) ⟨_,ge,ce⟩ isSubtype_stop ?_);exact wpAny_pure (hQ _ λ b ob hb e1=>k b ob (sb1.extBut b ob hb e1))
theorem range_end_q {it:Addr}{x left step:Int}{Q:Option Value->Shared->Prop}(hq:Hq A s.heap)(hit:IsRangeIter s.heap it x left step)(hleft:left≤0)
  (hQ:∀h',Heap.ExtBut it s.heap h'->Q none {s with heap:=h'}):wpAny (model prog w) A (pyNext (.ref it)) Q E s:=by
 have hT:s.TypeIs (.ref it) "range_iterator":=⟨_,hit,rfl⟩;unfold pyNext;refine wpAny_bind (wpAny_attempt (wpAny_callSpecial?_slot (name:=Str.ofString "__next__") hT F.slot_range_iterator_next (wpAny_call_entry F.slot_range_iterator_next hT F.entry_range_iterator_next ?_ (F.args_range_iterator_next_1 _))));show wpAny _ _ (field (.ref it) 0>>= _) _ _ s;refine wpAny_bind (wpAny_field hit rfl (x:=rawInt x) rfl ?_);show wpAny _ _ (field (.ref it) 1>>= _) _ _ s;refine wpAny_bind (wpAny_field hit rfl (x:=rawInt left) rfl ?_);show wpAny _ _ (field (.ref it) 2>>= _) _ _ s;refine wpAny_bind (wpAny_field hit rfl (x:=rawInt step) rfl ?_);show wpAny _ _ (if left≤0 then _ else _) _ _ s;rw [if_pos hleft];refine wpAny_bind (wpAny_rule (wpAny_bind ?_));refine ck (A:=A.in1) hq λ h' e k ⟨o',ge,ce⟩=>?_
 refine wpAny_bind (wpAny_isInstance (T:="StopIteration") (b:=true) ⟨_,ge,ce⟩ isSubtype_stop ?_);exact wpAny_pure (hQ _ λ b ob hb e1=>k b ob e1)
theorem gZ {t:Addr}{items:Array Value}{Q:List Value->Shared->Prop}(hq:Hq A s.heap)(ht:IsTup s.heap t items)
  (hQ:∀h',Heap.ExtBut s.heap.objs.size s.heap h'->Q items.toList {s with heap:=h'}):wpAny (model prog w) A (unpackItems (.ref t) items.size none) Q E s:=by
 have nt:t≠s.heap.objs.size:=by obtain⟨o,ho,_⟩:=ht;exact Nat.ne_of_lt (Heap.lt_size ho)
 unfold unpackItems;refine wpAny_bind ?_;unfold notIterableAtAll;refine wpAny_bind (wpAny_specialOf ht.typeIs slot_tuple_iter.lookup (wpAny_pure ?_));simp only [Bool.false_eq_true,if_false];refine wpAny_bind (wpAny_holding (iter_tuple ht (wpAny_bind (wpAny_holding (draw_tuple nt items.size 0 _ _ ⟨_,Heap.get?_push_size _ rfl,rfl,rfl⟩ (ht.push _) (by lia) λ g1 i1 b1=>?_)))));rw [show List.take items.size (List.drop 0 items.toList)=items.toList by rw [List.drop_zero];exact List.take_of_length_le (by simp),if_neg (by simp)];have k1:∀b o,b≠s.heap.objs.size->s.heap.get? b=some o->g1.get? b=some o:=λ b o hb e=>b1.extBut b o hb (Heap.get?_push_of_some _ e)
 have q1:Hq A g1:=hq.keep λ a _ o e=>k1 a o (Nat.ne_of_lt (Heap.lt_size e)) e
 have t1:IsTup g1 t items:=(ht.push _).extBut b1.extBut nt;refine wpAny_bind (wpAny_holding (jD (s:={s with heap:=g1}) q1 (show g1.IsTupleIter _ t _ from i1) (show g1.IsTuple t items from t1) (by simp) λ g2 x2=>?_));simp only [Option.isSome_none,Bool.false_eq_true,if_false];exact wpAny_pure (hQ g2 λ b o hb e=>x2 b o hb (k1 b o hb e))
theorem assign_Tuple_q {env:Env}{elts:List Expr}{x1}{pos:Pos}{t:Addr}{items:Array Value}{Q:Unit->Shared->Prop}(hq:Hq A s.heap)(ht:IsTup s.heap t items)
  (hn:(assignEach elts env).length=items.size) (hstar:(assignEach elts env).findIdx? (·.1)=none)
  (h:∀h',Heap.ExtBut s.heap.objs.size s.heap h'->wpAny (model prog w) A (assignInOrder ((assignEach elts env).map (·.2)) items.toList) Q E {s with heap:=h'}):
  wpAny (model prog w) A (assign (.Tuple elts x1 pos) env (.ref t)) Q E s:=by
 rw [assign_Tuple];refine wpAny_bind (wpAny_standAt ?_);unfold unpack;rw [hn,hstar];exact wpAny_bind (wpAny_holding (gZ hq ht h))
end
def exO (cls:Value)(vs:Array Value):Obj:={cls:=cls,data:=.fields vs}
def Fly (h:Heap)(e:Addr)(cls:Value)(fp:List Addr):Prop:=
 ∃vs,h.get? e=some (exO cls vs)/\vs[2]?=some Value.none/\((vs[1]?=some Value.none/\fp=[e])\/
  ∃T oT ts,vs[1]?=some (.ref T)/\T≠e/\h.get? T=some oT/\oT.data=.fields ts/\ts[3]?=some Value.none/\fp=[e,T])
theorem Fly.here {h:Heap}{e:Addr}{cls:Value}{fp:List Addr}(F:Fly h e cls fp):e∈fp:=by
 obtain⟨vs,_,_,⟨_,r⟩|⟨T,oT,ts,_,_,_,_,_,r⟩⟩:=F<;>simp [r]
theorem Fly.keep {h h':Heap}{e:Addr}{cls:Value}{fp:List Addr}(F:Fly h e cls fp)(k:∀b∈fp,∀o,h.get? b=some o->h'.get? b=some o):Fly h' e cls fp:=by
 obtain⟨vs,g,z,⟨a,r⟩|⟨T,oT,ts,a,ne,gT,dT,zT,r⟩⟩:=F
 ·exact⟨vs,k e (by simp [r]) _ g,z,.inl ⟨a,r⟩⟩
 ·exact⟨vs,k e (by simp [r]) _ g,z,.inr ⟨T,oT,ts,a,ne,k T (by simp [r]) _ gT,dT,zT,r⟩⟩
theorem Fly.made {h h':Heap}{e:Addr}{cls:Value}{args:List Value}(m:Heap.MadeExcOf h h' e cls args):Fly h' e cls [e]:=by
 obtain⟨t,ht,_⟩:=m.there;exact⟨_,ht,rfl,.inl ⟨rfl,rfl⟩⟩
section
variable {M : Model} {A : Around} {E : Value -> Shared -> Prop} {s : Shared}
end
end QQ
namespace L2
open PySem PySem.Spec PyProof.Rows
abbrev Key:=Sum Int Str
def ir:Key->Value->Bool
 | .inl k,v=>Value.isInt k v
 | .inr x,v=>Value.isStrOf x v
def xQ (w:World):Key->Int
 | .inl k=>hashInt k
 | .inr x=>hashStr w x
theorem keyIs_shape:∀{k:Key} {v:Value},ir k v=true->(∃i t,k=Sum.inl i/\v=Value.int i t)\/(∃x t,k=Sum.inr x/\v=Value.str x t)
 | .inl i,v,h=>by
  obtain⟨t,e⟩:=Value.isInt_shape (k:=i) (v:=v) h;exact .inl ⟨i,t,rfl,e⟩
 | .inr x,v,h=>by
  obtain⟨t,e⟩:=Value.isStrOf_shape (x:=x) (v:=v) h;exact .inr ⟨x,t,rfl,e⟩
theorem oC (i:Int)(t:Tok):ir (.inl i) (.int i t)=true:=by simp [ir,Value.isInt]
theorem o6 (x:Str)(t:Tok):ir (.inr x) (.str x t)=true:=by simp [ir,Value.isStrOf]
theorem vw (a b:Int):decide ((Sum.inl a:Key)=Sum.inl b)=(a==b):=by
 by_cases e:a=b
 ·subst e;simp
 ·have h:¬(Sum.inl a:Key)=Sum.inl b:=λ q=>e (Sum.inl.inj q)
  rw [decide_eq_false h];exact(beq_eq_false_iff_ne.mpr e).symm
theorem u9 (a b:Str):decide ((Sum.inr a:Key)=Sum.inr b)=decide (a=b):=by
 by_cases e:a=b
 ·subst e;simp
 ·have h:¬(Sum.inr a:Key)=Sum.inr b:=λ q=>e (Sum.inr.inj q)
  rw [decide_eq_false h,decide_eq_false e]
theorem wn (a:Int)(b:Str):decide ((Sum.inl a:Key)=Sum.inr b)=false:=decide_eq_false (λ q=>nomatch q)
theorem uX (a:Str)(b:Int):decide ((Sum.inr a:Key)=Sum.inl b)=false:=decide_eq_false (λ q=>nomatch q)
def bx (prog:Program)(w:World):PySem.KeyKind prog w Key where
 is:=ir
 hash:=xQ w
 inj:=λ v a b ha hb=>by
  rcases keyIs_shape ha with⟨i,t,rfl,rfl⟩|⟨x,t,rfl,rfl⟩
  ·rcases keyIs_shape hb with⟨j,u,rfl,e⟩|⟨y,u,rfl,e⟩
   ·injection e with e1 _;rw [e1]
   ·exact nomatch e
  ·rcases keyIs_shape hb with⟨j,u,rfl,e⟩|⟨y,u,rfl,e⟩
   ·exact nomatch e
   ·injection e with e1 _;rw [e1]
 byValue:=λ k v h=>by
  rcases keyIs_shape h with⟨i,t,rfl,rfl⟩|⟨x,t,rfl,rfl⟩<;>rfl
 pyHash:=λ hv h=>by
  rcases keyIs_shape hv with⟨i,t,rfl,rfl⟩|⟨x,t,rfl,rfl⟩
  ·exact wpAny_pyHash_int h
  ·exact wpAny_pyHash_str h
 eqBool:=λ hu hv h=>by
  rcases keyIs_shape hu with⟨i,t,rfl,rfl⟩|⟨x,t,rfl,rfl⟩
  ·rcases keyIs_shape hv with⟨j,u,rfl,rfl⟩|⟨y,u,rfl,rfl⟩
   ·rw [vw] at h;exact wpAny_eqBool_int h
   ·rw [wn] at h;exact SeqAt.EqAt.int_str i t y u _ _ _ _ h
  ·rcases keyIs_shape hv with⟨j,u,rfl,rfl⟩|⟨y,u,rfl,rfl⟩
   ·rw [uX] at h;exact SeqAt.EqAt.str_int x t j u _ _ _ _ h
   ·rw [u9] at h;exact wpAny_eqBool_str h
 «strs»:=λ k x t v h=>by
  rcases keyIs_shape h with⟨i,u,rfl,e⟩|⟨y,u,rfl,e⟩
  ·exact nomatch e
  ·injection e with e1 _
   subst e1;cases v<;>rfl
theorem jV (prog:Program)(w:World)(i:Int)(t:Tok):(bx prog w).is (.inl i) (.int i t)=true:=oC i t
theorem kL (prog:Program)(w:World)(x:Str)(t:Tok):(bx prog w).is (.inr x) (.str x t)=true:=o6 x t
inductive V where
 |non|bl (b:Bool)|int (i:Int)|str (x:Str)|byt (b:Array UInt8)|flt (b:UInt64)|ref (a:Addr)|ty (n:String)
 deriving DecidableEq
def RelV:V->Value->Prop
 | .non,u=>u=Value.none
 | .bl b,u=>u=Value.bool b
 | .int i,u=>∃t,u=Value.int i t
 | .str x,u=>∃t,u=Value.str x t
 | .byt b,u=>∃t,u=Value.bytes b t
 | .flt b,u=>∃t,u=Value.float b t
 | .ref a,u=>u=Value.ref a
 | .ty n,u=>u=Value.type n
abbrev Vals:List V->List Value->Prop:=Paired RelV
theorem Vals.length {xs:List V}{us:List Value}(r:Vals xs us):xs.length=us.length:=Paired.length r
theorem Vals.get:∀{xs:List V} {us:List Value} {i:Nat} {x:V},Vals xs us->xs[i]?=some x->∃u,us[i]?=some u/\RelV x u
 |_,_,_,_,.nil,e=>by simp at e
 |_,_,0,_,.cons r _,e=>by simp at e;subst e;exact⟨_,rfl,r⟩
 |_,_,i+1,x,.cons _ t,e=>by
  obtain⟨u,h1,h2⟩:=Vals.get (i:=i) (x:=x) t (by simpa using e);exact⟨u,by simpa using h1,h2⟩
theorem Vals.set {x:V}{u:Value}(r:RelV x u):∀{xs:List V} {us:List Value} (i:Nat),Vals xs us->Vals (xs.set i x) (us.set i u)
 |_,_,_,.nil=>.nil
 |_,_,0,.cons _ t=>.cons r t
 |_,_,i+1,.cons q t=>.cons q (Vals.set r i t)
theorem Vals.append:∀{xs ys:List V} {us ws:List Value},Vals xs us->Vals ys ws->Vals (xs++ys) (us++ws)
 |_,_,_,_,.nil,s=>s
 |_,_,_,_,.cons r t,s=>.cons r (Vals.append t s)
theorem Vals.take:∀{xs:List V} {us:List Value} (n:Nat),Vals xs us->Vals (xs.take n) (us.take n)
 |_,_,0,_=>.nil
 |_,_,_+1,.nil=>.nil
 |_,_,n+1,.cons r t=>.cons r (Vals.take n t)
theorem Vals.drop:∀{xs:List V} {us:List Value} (n:Nat),Vals xs us->Vals (xs.drop n) (us.drop n)
 |_,_,0,r=>r
 |_,_,_+1,.nil=>.nil
 |_,_,n+1,.cons _ t=>Vals.drop n t
theorem Vals.none_of:∀{xs:List V} {us:List Value} {i:Nat},Vals xs us->xs[i]?=none->us[i]?=none:=λ {xs us i} r e=>by
 have h1:=r.length;have h2:xs.length≤i:=List.getElem?_eq_none_iff.mp e;exact List.getElem?_eq_none_iff.mpr (by lia)
def RelO:Option V->Option Value->Prop
 |some v,some u=>RelV v u
 |none,none=>True
 |_,_=>False
def KV {κ:Type}:List (κ×V)->List (κ×Value)->Prop:=Paired λ(p:κ×V) (q:κ×Value)=>p.1=q.1/\RelV p.2 q.2
def kV:Key->V
 | .inl i=>.int i
 | .inr x=>.str x
inductive HO where
 |lst (xs:List V)
 |tup (xs:List V)
 |dK (kvs:List (Key×V))|dT (kvs:List (List Key×V))
 |set (S:Int->Bool) (n:Nat)
 |ins (C dx:Addr) (fs:List (Str×V))
 |own (x:Addr)
 |xd (fs:List (Str×V))
 |met (f x:Addr)
 |rng (lo hi:Int)
 |frz (o:Obj) (u:HO)
 |tbl (ps:Array Value)
 |ext (φ:Heap->Prop)
abbrev Hp:=Addr->Option HO
def upd (H:Hp)(a:Addr)(o:HO):Hp:=λ b=>if b=a then some o else H b
theorem upd_same {H:Hp}{a:Addr}{o:HO}:upd H a o a=some o:=by unfold upd;rw [if_pos rfl]
theorem upd_ne {H:Hp}{a b:Addr}{o:HO}(h:b≠a):upd H a o b=H b:=by unfold upd;rw [if_neg h]
theorem uD {H:Hp}{a:Addr}{o u:HO}:upd (upd H a o) a u=upd H a u:=by
 funext b;unfold upd;split<;>rfl
theorem ne_of {H:Hp}{a b:Addr}{o u:HO}(h:H a=some o)(h':H b=some u)(d:o≠u):a≠b:=by
 intro e;subst e;rw [h] at h';exact d (Option.some.inj h')
theorem af {H:Hp}{a b:Addr}{o:HO}(h:H a=some o)(h':H b=none):a≠b:=by
 intro e;subst e;rw [h] at h';cases h'
section
variable (P : Program) (w : World)
def ObjOk (H:Hp)(h:Heap)(a:Addr):HO->Prop
 | .lst xs=>xs.length≤sizeLine/\∃(its:List Value) (n:Nat),Vals xs its/\h.get? a=some {cls:=.type "list",data:=.seq its.toArray n}
 | .tup xs=>xs.length≤sizeLine/\∃its:List Value,Vals xs its/\IsTup h a its.toArray
 | .dK kvs=>kvs.length≤sizeLine/\(a==sysModules)=false/\∃vs,KV kvs vs/\h.DictOf (bx P w) a vs
 | .dT kvs=>kvs.length≤sizeLine/\(a==sysModules)=false/\∃xs:List (List Key×Addr×Value),
   Paired (λ(p:List Key×V) (q:List Key×Addr×Value)=>p.1=q.1/\H q.2.1=some (.tup (p.1.map kV))/\RelV p.2 q.2.2) kvs xs/\
   ∃o es ep,h.get? a=some o/\o.ExactDict/\o.data=.dict es ep/\es.toList=xs.map (entryOfKey (tupleKind (bx P w)))/\(xs.map (·.1)).Nodup
 | .set S n=>h.SetOf (intKind P w) a S n
 | .ins C dx fs=>H dx=some (.own a)/\fs.length≤1000/\dx≠a/\h.get? a=some (PySem.W.instObj C dx)/\
   ∃mA,h.Ns1 dx mA/\(∀f,RelO (fs.lookup f) (mA f))/\PySem.Within mA (fs.map (·.1))
 | .own _=>∃o,h.get? a=some o
 | .xd fs=>∃mA,h.Ns1 a mA/\∀f,RelO (fs.lookup f) (mA f)
 | .rng lo hi=>∃t u v,h.get? a=some {cls:=.type "range",data:=.fields #[.int lo t,.int hi u,.int 1 v]}
 | .frz o u=>h.get? a=some o/\ObjOk H h a u
 | .tbl ps=>h.get? a=some {cls:=.none,data:=.fields ps}
 | .met f x=>h.get? a=some (PySem.W.methodObj (.ref f) (.ref x))
 | .ext φ=>φ h/\(∃o,h.get? a=some o)/\∀h1 h2:Heap,φ h1->(∀o,h1.get? a=some o->h2.get? a=some o)->φ h2
def HOk (H:Hp)(h:Heap):Prop:=∀a o,H a=some o->ObjOk P w H h a o
end
section
variable {P : Program} {w : World} {H H' : Hp} {h h' : Heap} {a : Addr} {o : HO}
theorem ObjOk.lt (x:ObjOk P w H h a o):a<h.objs.size:=by
 cases o with
 |lst xs=>obtain⟨_,_,_,_,e⟩:=x;exact Heap.lt_size e
 |tup xs=>obtain⟨_,_,_,p⟩:=x;exact p.lt
 |dK kvs=>obtain⟨_,_,_,_,o,_,_,e,_⟩:=x;exact Heap.lt_size e
 |dT kvs=>obtain⟨_,_,_,_,o,_,_,e,_⟩:=x;exact Heap.lt_size e
 |set S n=>obtain⟨o,_,_,_,e,_⟩:=x;exact Heap.lt_size e
 |ins C dx fs=>obtain⟨_,_,_,e,_⟩:=x;exact Heap.lt_size e
 |own y=>obtain⟨_,e⟩:=x;exact Heap.lt_size e
 |xd fs=>obtain⟨_,⟨_,_,_,e,_⟩,_⟩:=x;exact Heap.lt_size e
 |rng lo hi=>obtain⟨_,_,_,e⟩:=x;exact Heap.lt_size e
 |frz ob u=>obtain⟨e,_⟩:=x;exact Heap.lt_size e
 |tbl ps=>exact Heap.lt_size (show h.get? a=some _ from x)
 |met f y=>exact Heap.lt_size (show h.get? a=some _ from x)
 |ext φ=>obtain⟨_,⟨_,e⟩,_⟩:=x;exact Heap.lt_size e
theorem Paired.mapP {α β:Type}{F G:α->β->Prop}:∀{l₁:List α} {l₂:List β},Paired F l₁ l₂->(∀a b,F a b->G a b)->Paired G l₁ l₂
 |_,_,.nil,_=>.nil
 |_,_,.cons r t,f=>.cons (f _ _ r) (Paired.mapP t f)
theorem ObjOk.stay (x:ObjOk P w H h a o)(k:∀b u,(b=a\/H b=some (.own a))->h.get? b=some u->h'.get? b=some u)
  (ho:∀b,H b=some (.own a)->H' b=some (.own a)) (ht:∀b xs,H b=some (.tup xs)->H' b=some (.tup xs)):ObjOk P w H' h' a o:=by
 induction o with
 |lst xs=>obtain⟨z,its,n,r,e⟩:=x;exact⟨z,its,n,r,k _ _ (.inl rfl) e⟩
 |tup xs=>obtain⟨z,its,r,ob,e,c⟩:=x;exact⟨z,its,r,ob,k _ _ (.inl rfl) e,c⟩
 |dK kvs=>obtain⟨z,y,vs,r,ob,es,ep,e,c⟩:=x;exact⟨z,y,vs,r,ob,es,ep,k _ _ (.inl rfl) e,c⟩
 |dT kvs=>
  obtain⟨z,y,xs,r,ob,es,ep,e,c⟩:=x;exact⟨z,y,xs,Paired.mapP r λ p q z=>⟨z.1,ht _ _ z.2.1,z.2.2⟩,ob,es,ep,k _ _ (.inl rfl) e,c⟩
 |set S n=>obtain⟨ob,es,ep,t,e,c⟩:=x;exact⟨ob,es,ep,t,k _ _ (.inl rfl) e,c⟩
 |ins C dx fs=>
  obtain⟨d,z,ne,e,mA,⟨od,es,ep,e2,c⟩,r⟩:=x;exact⟨ho _ d,z,ne,k _ _ (.inl rfl) e,mA,⟨od,es,ep,k _ _ (.inr d) e2,c⟩,r⟩
 |own y=>obtain⟨ob,e⟩:=x;exact⟨ob,k _ _ (.inl rfl) e⟩
 |xd fs=>obtain⟨mA,⟨od,es,ep,e,c⟩,r⟩:=x;exact⟨mA,⟨od,es,ep,k _ _ (.inl rfl) e,c⟩,r⟩
 |rng lo hi=>obtain⟨t,u,v,e⟩:=x;exact⟨t,u,v,k _ _ (.inl rfl) e⟩
 |frz ob u ih=>obtain⟨e,q⟩:=x;exact⟨k _ _ (.inl rfl) e,ih q⟩
 |tbl ps=>
  have e:h.get? a=some {cls:=.none,data:=.fields ps}:=x;show h'.get? a=some {cls:=.none,data:=.fields ps};exact k a _ (.inl rfl) e
 |met f y=>
  have e:h.get? a=some (PySem.W.methodObj (.ref f) (.ref y)):=x;show h'.get? a=some (PySem.W.methodObj (.ref f) (.ref y));exact k a _ (.inl rfl) e
 |ext φ=>obtain⟨p,⟨o,e⟩,st⟩:=x;exact⟨st _ _ p λ o q=>k _ _ (.inl rfl) q,⟨o,k _ _ (.inl rfl) e⟩,st⟩
theorem HOk.lt (x:HOk P w H h)(e:H a=some o):a<h.objs.size:=(x a o e).lt
theorem HOk.fresh (x:HOk P w H h)(e:h.objs.size≤a):H a=none:=by
 cases q:H a with
 |none=>rfl
 |some u=>exact absurd (Nat.lt_of_lt_of_le (x.lt q) e) (Nat.lt_irrefl _)
theorem HOk.kept (x:HOk P w H h)(k:∀b u,h.get? b=some u->h'.get? b=some u):HOk P w H h':=λ a o e=>
 (x a o e).stay (λ b u _ q=>k b u q) (λ _ q=>q) λ _ _ q=>q
theorem HOk.laid (x:HOk P w H h)(k:∀b u,h.get? b=some u->h'.get? b=some u)(hp:h.objs.size≤a)(new:ObjOk P w (upd H a o) h' a o):HOk P w (upd H a o) h':=λ b u e=>by
 have hn:=x.fresh hp;by_cases hb:b=a
 ·subst hb;rw [upd_same] at e;cases e;exact new
 ·rw [upd_ne hb] at e;exact(x b u e).stay (λ c v _ q=>k c v q) (λ c q=>by rw [upd_ne (af q hn)];exact q) λ c xs q=>by rw [upd_ne (af q hn)];exact q
end
def Rd (H:Hp)(a:Addr)(u:HO):Prop:=H a=some u\/∃o,H a=some (.frz o u)
theorem Rd.of {H:Hp}{a:Addr}{u:HO}(h:H a=some u):Rd H a u:=.inl h
theorem Rd.ok {P:Program}{w:World}{H:Hp}{h:Heap}{a:Addr}{u:HO}(r:Rd H a u)(x:HOk P w H h):ObjOk P w H h a u:=by
 rcases r with r|⟨o,r⟩
 ·exact x a u r
 ·obtain⟨_,q⟩:=x a _ r;exact q
def Mut:Option HO->Prop
 |some (.lst _)=>True
 |some (.dK _)=>True
 |some (.dT _)=>True
 |some (.set _ _)=>True
 |some (.ins _ _ _)=>True
 |some (.ext _)=>True
 |_=>False
section
variable {P : Program} {w : World} {H : Hp} {h h' : Heap} {x e : Addr} {o' : HO}
theorem HOk.write (ok:HOk P w H h)(mu:Mut (H x))(he:e=x\/H e=some (.own x))(k:∀b u,b≠e->h.get? b=some u->h'.get? b=some u)(heo:∃u,h'.get? e=some u)
  (new:ObjOk P w (upd H x o') h' x o'):HOk P w (upd H x o') h':=λ b u q=>by
 have nown:∀c y,H c=some (.own y)->c≠x:=λ c y r z=>by subst z;rw [r] at mu;exact mu
 have ntup:∀c xs,H c=some (.tup xs)->c≠x:=λ c xs r z=>by subst z;rw [r] at mu;exact mu
 by_cases hb:b=x
 ·subst hb;rw [upd_same] at q;cases q;exact new
 ·rw [upd_ne hb] at q;by_cases hbe:b=e
  ·have q':H b=some (.own x):=by
    rcases he with z|z
    ·exact absurd (hbe.trans z) hb
    ·rw [hbe];exact z
   rw [q] at q';cases q';obtain⟨v,hv⟩:=heo;exact⟨v,by rw [hbe];exact hv⟩
  ·refine(ok b u q).stay (λ c v hc r=>k c v ?_ r) (λ c r=>by rw [upd_ne (nown c b r)];exact r) λ c xs r=>by rw [upd_ne (ntup c xs r)];exact r
   rcases hc with rfl|hc
   ·exact hbe
   ·rintro rfl;rcases he with z|z
    ·exact nown c b hc z
    ·rw [hc] at z;cases z;exact hb rfl
end
structure Un (fs ex:List Addr)(H H':Hp)(h h':Heap):Prop where
 keep:∀b o,h.get? b=some o->H b=none->b∉fs->b∉ex->h'.get? b=some o
 slot:∀b o,h.get? b=some o->H b=none->b∈fs->b∉ex->∃sl,h'.get? b=some {o with slots:=sl}
 free:∀b o,h.get? b=some o->H b=none->b∉ex->H' b=none
 there:∀b o,h.get? b=some o->b∉ex->∃o',h'.get? b=some o'
 tups:∀b xs,H b=some (.tup xs)->H' b=some (.tup xs)
 frzs:∀b o u,H b=some (.frz o u)->H' b=some (.frz o u)
 tbls:∀b ps,H b=some (.tbl ps)->∃more,H' b=some (.tbl (ps++more))
section
variable {fs fs' ex ex' : List Addr} {H H1 H2 : Hp} {h h1 h2 h' : Heap} {a x e : Addr} {o : HO}
theorem Un.any (u:Un fs ex H H1 h h1){b:Addr}{ob:Obj}(q:h.get? b=some ob)(n:H b=none)(hx:b∉ex):∃sl,h1.get? b=some {ob with slots:=sl}:=by
 by_cases hb:b∈fs
 ·exact u.slot b ob q n hb hx
 ·exact⟨ob.slots,u.keep b ob q n hb hx⟩
theorem Un.trans (a:Un fs ex H H1 h h1)(b:Un fs ex H1 H2 h1 h2):Un fs ex H H2 h h2 where
 keep:=λ c ob q n hc hx=>b.keep c ob (a.keep c ob q n hc hx) (a.free c ob q n hx) hc hx
 slot:=λ c ob q n hc hx=>by
  obtain⟨sl,e1⟩:=a.slot c ob q n hc hx;obtain⟨sl',e2⟩:=b.slot c _ e1 (a.free c ob q n hx) hc hx;exact⟨sl',e2⟩
 free:=λ c ob q n hx=>by
  obtain⟨o',e1⟩:=a.there c ob q hx;exact b.free c o' e1 (a.free c ob q n hx) hx
 there:=λ c ob q hx=>by
  obtain⟨o',e1⟩:=a.there c ob q hx;exact b.there c o' e1 hx
 tups:=λ c xs q=>b.tups c xs (a.tups c xs q)
 frzs:=λ c ob xs q=>b.frzs c ob xs (a.frzs c ob xs q)
 tbls:=λ c ps q=>by
  obtain⟨m1,e1⟩:=a.tbls c ps q;obtain⟨m2,e2⟩:=b.tbls c _ e1;exact⟨m1++m2,by rw [e2,Array.append_assoc]⟩
theorem Un.kept (k:∀b u,h.get? b=some u->h'.get? b=some u):Un fs ex H H h h':=
 ⟨λ b ob q _ _ _=>k b ob q,λ b ob q _ _ _=>⟨ob.slots,k b ob q⟩,λ _ _ _ n _=>n,λ b ob q _=>⟨ob,k b ob q⟩,λ _ _ q=>q,λ _ _ _ q=>q,λ _ ps q=>⟨#[],by rw [q];simp⟩⟩
theorem Un.refl:Un fs ex H H h h:=Un.kept λ _ _ q=>q
theorem Un.laid (k:∀b u,h.get? b=some u->h'.get? b=some u)(hp:h.objs.size≤a)(hn:H a=none):Un fs ex H (upd H a o) h h' where
 keep:=λ b u q _ _ _=>k b u q
 slot:=λ b u q _ _ _=>⟨u.slots,k b u q⟩
 free:=λ b u q n _=>by rw [upd_ne (Nat.ne_of_lt (Nat.lt_of_lt_of_le (Heap.lt_size q) hp))];exact n
 there:=λ b u q _=>⟨u,k b u q⟩
 tups:=λ b xs q=>by rw [upd_ne (af q hn)];exact q
 frzs:=λ b u xs q=>by rw [upd_ne (af q hn)];exact q
 tbls:=λ b ps q=>⟨#[],by rw [upd_ne (af q hn),q];simp⟩
theorem Un.write (mu:Mut (H x))(he:e=x\/H e=some (.own x))(k:∀b u,b≠e->h.get? b=some u->h'.get? b=some u)(heo:∃u,h'.get? e=some u):Un fs ex H (upd H x o) h h':=by
 have hx:∀b,H b=none->b≠x:=λ b n z=>by subst z;rw [n] at mu;exact mu
 have hb:∀b,H b=none->b≠e:=λ b n z=>by
  subst z;rcases he with r|r
  ·exact hx b n r
  ·rw [n] at r;cases r
 have hm:∀b u,H b=some u->¬Mut (some u)->b≠x:=λ b u q nm z=>by subst z;rw [q] at mu;exact nm mu
 refine⟨λ b u q n _ _=>k b u (hb b n) q,λ b u q n _ _=>⟨u.slots,k b u (hb b n) q⟩,λ b u q n _=>by rw [upd_ne (hx b n)];exact n,λ b u q _=>?_,
  λ b xs q=>by rw [upd_ne (hm b _ q λ z=>z)];exact q,λ b u xs q=>by rw [upd_ne (hm b _ q λ z=>z)];exact q,λ b ps q=>⟨#[],by rw [upd_ne (hm b _ q λ z=>z),q];simp⟩⟩
 by_cases hbe:b=e
 ·subst hbe;exact heo
 ·exact⟨u,k b u hbe q⟩
theorem Un.mono (u:Un fs ex H H1 h h1)(hs:∀b∈fs,b∈fs')(hx:∀b∈ex,b∈ex'):Un fs' ex' H H1 h h1:=
 ⟨λ b ob q n hb he=>u.keep b ob q n (λ z=>hb (hs b z)) λ z=>he (hx b z),λ _ _ q n _ he=>u.any q n λ z=>he (hx _ z),λ b ob q n he=>u.free b ob q n λ z=>he (hx b z),λ b ob q he=>u.there b ob q λ z=>he (hx b z),u.tups,u.frzs,u.tbls⟩
end
def trk (h:Heap)(H:Hp):List Addr:=(List.range h.objs.size).filter λ a=>(H a).isSome
def hidT (h:Heap)(H:Hp):Heap:=PySem.W.hideAll h (trk h H)
theorem oG (h:Heap)(H:Hp):(hidT h H).objs.size=h.objs.size:=PySem.W.hideAll_size _ _
theorem pO {h:Heap}{H:Hp}{b:Addr}{o:Obj}(e:h.get? b=some o)(n:H b=none):(hidT h H).get? b=some o:=
 PySem.W.hideAll_get _ e λ hm=>by
  have q:(H b).isSome=true:=(List.mem_filter.mp hm).2;rw [n] at q;simp at q
theorem sQ {h:Heap}{H:Hp}{b:Addr}{o:Obj}(e:(hidT h H).get? b=some o):h.get? b=some o/\H b=none:=by
 have e':h.get? b=some o:=PySem.W.of_hideAll (trk h H) e;refine⟨e',?_⟩;cases q:H b with
 |none=>rfl
 |some x=>
  have hm:b∈trk h H:=List.mem_filter.mpr ⟨List.mem_range.mpr (Heap.lt_size e'),by simp [q]⟩;have z:(hidT h H).get? b=none:=PySem.W.hideAll_none (trk h H) hm;rw [z] at e;cases e
def ut (g h:Heap)(L:Addr):List (Addr×Obj):=(List.range h.objs.size).filterMap λ a=>if a=L\/(g.get? a).isSome=true then none else(h.get? a).map λ o=>(a,o)
def rest (g h:Heap)(L d:Addr):List (Addr×Obj):=(ut g h L).filter λ p=>decide (p.1≠d)
structure Mod (K:PySem.W.Frag)(mg:Str->Option Value)(base:Heap):Prop where
 kin:K.In base
 glob:base.Ns mainGlobals mg
 blt:∃mb,base.Ns builtinsNs mb/\∀x:Str,x≠ "__name__"->mb x=bootBuiltins x
 nolimit:base.NoLimit
structure Cx where
 prog:Program
 w:World
 K:PySem.W.Frag
 mg:Str->Option Value
 base:Heap
 A:Around
 N:List Str
 s₀:Shared
 H₀:Hp
 env:Env
 outer:List Env
 stack:List Env
 ex:List Addr
 fn:Str->Bool
 calm:Bool
 pn:List (Addr×Obj)
 xe:Value->Shared->Prop
def Qt (A:Around)(H:Hp):Prop:=A.handled=none\/∃a o vs,A.handled=some (.ref a)/\H a=some (.frz o (.own a))/\o.data=.fields vs/\vs[2]?=some Value.none
def frs (l:List Env):List Addr:=l.filterMap (·.frame)
abbrev Cx.fs (X:Cx):List Addr:=frs X.outer
def Vis (sc:Scope)(x:Str):Prop:=sc.names.lookup x=some .local\/sc.names.lookup x=some .cell\/sc.names.lookup x=some .free
def Loc (sc:Scope)(x:Str):Prop:=sc.names.lookup x=some .local\/sc.names.lookup x=some .cell
def x0 (env:Env)(h:Heap)(m:Str->Option Value)(x:Str)(u:Value):Prop:=
 (env.kindOf x=some .local/\m x=some u)\/((env.kindOf x=some .cell\/env.kindOf x=some .free)/\∃c,env.cells.lookup x=some c/\h.IsCell c (some u))
structure Cx.Ok (X:Cx):Prop where
 mod:Mod X.K X.mg X.base
 kind:X.env.scope.kind=.function
 glob:X.env.globals=mainGlobals
 blt:X.env.builtins=builtinsNs
 above:X.s₀.heap.objs.size≤X.env.locals
 inj:∀x y c,X.env.cells.lookup x=some c->X.env.cells.lookup y=some c->x=y
 has:∀x,(X.env.kindOf x=some .cell\/X.env.kindOf x=some .free)->∃c,X.env.cells.lookup x=some c
 cab:∀x c,X.fn x=true->X.env.cells.lookup x=some c->X.s₀.heap.objs.size≤c
 hd:Qt X.A X.H₀
 frames:X.A.frames=some X.stack
 stk:X.stack=X.outer\/(X.stack=X.env::X.outer/\X.env.frame=some X.env.locals)
 exf:∀b∈X.ex,b≠X.env.locals/\∀x c,X.env.cells.lookup x=some c->c≠b
 bs:∀b o,X.base.get? b=some o->X.s₀.heap.get? b=some o/\X.H₀ b=none
 bsz:X.base.objs.size≤X.s₀.heap.objs.size
 noex:∀b o,X.base.get? b=some o->b∉X.ex
 exfs:∀b∈X.ex,b∉X.fs
 funs:X.s₀.heap.FunFrames X.base X.outer
 frf:∀b∈X.fs,X.H₀ b=none
structure Inv (X:Cx)(pins:List (Addr×Obj))(σ:List (Option V))(H:Hp)(s:Shared):Prop where
 ok:X.Ok
 os:s.os=X.s₀.os
 bare:AllBare s.gens
 base:Un X.fs X.ex X.H₀ H X.s₀.heap s.heap
 loc:∃m,s.heap.Ns X.env.locals m/\∀(i:Nat) (x:Str) (v:V),X.N[i]?=some x->σ[i]?=some (some v)->Vis X.env.scope x->∃u,RelV v u/\x0 X.env s.heap m x u
 cell:∀x c,X.env.cells.lookup x=some c->∃v,s.heap.IsCell c v
 free:H X.env.locals=none
 freeC:∀x c,X.env.cells.lookup x=some c->H c=none
 pin:∀p∈X.pn++pins,s.heap.get? p.1=some p.2/\H p.1=none/\p.1≠X.env.locals/\p.1∉X.fs/\∀v,p.2.data≠ .cell v
 hok:HOk X.prog X.w H s.heap
 len:σ.length=X.N.length
section
variable {X : Cx} {pins : List (Addr × Obj)} {σ : List (Option V)} {H H' : Hp} {s : Shared} {h' : Heap}
theorem Cx.Ok.nofr (ok:X.Ok){b:Addr}{o:Obj}(e:X.base.get? b=some o):b∉X.fs:=λ hb=>by
 have:=(ok.funs.mem hb).1;rw [e] at this;cases this
theorem Inv.bs (I:Inv X pins σ H s):∀b o,X.base.get? b=some o->s.heap.get? b=some o/\H b=none:=λ b o e=>
 ⟨I.base.keep b o (I.ok.bs b o e).1 (I.ok.bs b o e).2 (I.ok.nofr e) (I.ok.noex b o e),I.base.free b o (I.ok.bs b o e).1 (I.ok.bs b o e).2 (I.ok.noex b o e)⟩
theorem Inv.bk (I:Inv X pins σ H s):∀b o,X.base.get? b=some o->s.heap.get? b=some o:=λ b o e=>(I.bs b o e).1
theorem Inv.mod (I:Inv X pins σ H s):Mod X.K X.mg X.base:=I.ok.mod
theorem Inv.qt (I:Inv X pins σ H s):Qt X.A H:=by
 rcases I.ok.hd with q|⟨a,o,vs,e,f,r⟩
 ·exact .inl q
 ·exact .inr ⟨a,o,vs,e,I.base.frzs _ _ _ f,r⟩
theorem Inv.hq (I:Inv X pins σ H s):QQ.Hq X.A s.heap:=by
 rcases I.qt with q|⟨a,o,vs,e,f,r⟩
 ·exact .inl q
 ·obtain⟨g,_⟩:=I.hok a _ f;exact .inr ⟨a,o,vs,e,g,r⟩
theorem Inv.kIn (I:Inv X pins σ H s):X.K.In s.heap:=I.ok.mod.kin.keeps I.bk
theorem Inv.nolimit (I:Inv X pins σ H s):s.heap.NoLimit:=I.ok.mod.nolimit.keeps I.bk
theorem Inv.lt (I:Inv X pins σ H s):X.env.locals<s.heap.objs.size:=let⟨_,hn,_⟩:=I.loc;hn.lt
theorem Inv.sz (I:Inv X pins σ H s):X.s₀.heap.objs.size≤s.heap.objs.size:=Nat.le_trans I.ok.above (Nat.le_of_lt I.lt)
theorem Inv.nofs (I:Inv X pins σ H s){a:Addr}(h:s.heap.objs.size≤a):a∉X.fs:=λ hb=>by
 obtain⟨_,o,ho,_⟩:=I.ok.funs.mem hb;exact absurd (Nat.lt_of_lt_of_le (Heap.lt_size ho) (Nat.le_trans I.sz h)) (Nat.lt_irrefl _)
theorem Inv.cne (I:Inv X pins σ H s):∀x c,X.env.cells.lookup x=some c->c≠X.env.locals:=λ x c e z=>by
 obtain⟨v,o,ho,hd⟩:=I.cell x c e;obtain⟨m,⟨o',es,ep,ho',hd',_⟩,_⟩:=I.loc;rw [z,ho'] at ho;cases ho;rw [hd'] at hd;cases hd
theorem Inv.funs (I:Inv X pins σ H s):s.heap.FunFrames X.base X.outer:=by
 have all:∀(l:List Env),(∀b∈frs l,b∈X.fs)->X.s₀.heap.FunFrames X.base l->s.heap.FunFrames X.base l:=by
  intro l
  induction l with
  |nil=>intro _ _;trivial
  |cons env r ih=>
   intro hs hl;obtain⟨hk,⟨L,o,hf,hn,ho,hd⟩,hr⟩:=hl;have hL:L∈X.fs:=hs L (by unfold frs;rw [List.filterMap_cons,hf];exact List.mem_cons_self);obtain⟨sl,e⟩:=I.base.slot L o ho (I.ok.frf L hL) hL λ z=>I.ok.exfs L z hL
   exact⟨hk,⟨L,_,hf,hn,e,hd⟩,ih (λ b hb=>hs b (by unfold frs;rw [List.filterMap_cons,hf];exact List.mem_cons_of_mem _ hb)) hr⟩
 exact all X.outer (λ _ hb=>hb) I.ok.funs
theorem Inv.stack (I:Inv X pins σ H s):s.heap.FunFrames X.base X.stack:=by
 rcases I.ok.stk with e|⟨e,hf⟩
 ·rw [e];exact I.funs
 ·rw [e];obtain⟨m,hn,_⟩:=I.loc;refine .cons (by rw [I.ok.kind];decide) hf hn ?_ I.funs;exact Heap.get?_none_of_le (Nat.le_trans I.ok.bsz I.ok.above)
theorem Inv.stkSub (I:Inv X pins σ H s):∀b∈frs X.stack,b∈X.env.locals::X.fs:=λ b hb=>by
 rcases I.ok.stk with e|⟨e,hf⟩
 ·rw [e] at hb;exact List.mem_cons_of_mem _ hb
 ·rw [e] at hb;unfold frs at hb;rw [List.filterMap_cons,hf] at hb;exact hb
theorem Inv.stkFree (I:Inv X pins σ H s):∀b∈frs X.stack,H b=none:=λ b hb=>by
 rcases List.mem_cons.mp (I.stkSub b hb) with e|hb
 ·rw [e];exact I.free
 ·obtain⟨_,o,ho,_⟩:=I.ok.funs.mem hb;exact I.base.free b o ho (I.ok.frf b hb) λ z=>I.ok.exfs b z hb
theorem Inv.step {g':Array GenState}{t':Nat}{d':Drawn}{ch:List Addr}(I:Inv X pins σ H s)
  (hch:∀b∈ch,(b∈X.ex\/X.s₀.heap.objs.size≤b)/\b≠X.env.locals/\(∀x c,X.env.cells.lookup x=some c->c≠b)/\∀p∈X.pn++pins,p.1≠b)
  (keep:∀b o,b≠X.env.locals->b∉X.fs->b∉ch->s.heap.get? b=some o->H b=none->h'.get? b=some o)
  (slot:∀b o,b≠X.env.locals->b∈X.fs->b∉ch->s.heap.get? b=some o->H b=none->∃sl,h'.get? b=some {o with slots:=sl}) (free:∀b o,b∉ch->s.heap.get? b=some o->H b=none->H' b=none)
  (there:∀b o,b∉ch->s.heap.get? b=some o->∃o',h'.get? b=some o')
  (tups:∀b xs,H b=some (.tup xs)->H' b=some (.tup xs)) (frzs:∀b o u,H b=some (.frz o u)->H' b=some (.frz o u)) (tbls:∀b ps,H b=some (.tbl ps)->∃more,H' b=some (.tbl (ps++more)))
  (ns:∀m,s.heap.Ns X.env.locals m->h'.Ns X.env.locals m) (hok:HOk X.prog X.w H' h') (hg:AllBare g'):
  Inv X pins σ H' {s with heap:=h',gens:=g',drawn:=d',toks:=t'}:=by
 have neL:∀b o,X.s₀.heap.get? b=some o->b≠X.env.locals:=λ b o e=>Nat.ne_of_lt (Nat.lt_of_lt_of_le (Heap.lt_size e) I.ok.above)
 have neC:∀b o,X.s₀.heap.get? b=some o->b∉X.ex->b∉ch:=λ b o e hx hb=>by
  rcases(hch b hb).1 with z|z
  ·exact hx z
  ·exact absurd (Nat.lt_of_lt_of_le (Heap.lt_size e) z) (Nat.lt_irrefl _)
 have cellK:∀x c,X.env.cells.lookup x=some c->∀v,s.heap.IsCell c v->h'.IsCell c v:=λ x c e v ⟨o,ho,hd⟩=>by
  have nch:c∉ch:=λ z=>(hch c z).2.2.1 x c e rfl
  by_cases hc:c∈X.fs
  ·obtain⟨sl,q⟩:=slot c o (I.cne x c e) hc nch ho (I.freeC x c e);exact⟨_,q,hd⟩
  ·exact⟨o,keep c o (I.cne x c e) hc nch ho (I.freeC x c e),hd⟩
 refine⟨I.ok,I.os,hg,⟨λ b o e n hb hx=>?_,λ b o e n hb hx=>?_,λ b o e n hx=>?_,λ b o e hx=>?_,λ b xs e=>tups b xs (I.base.tups b xs e),λ b o xs e=>frzs b o xs (I.base.frzs b o xs e),λ b ps e=>?_⟩,?_,λ x c e=>?_,?_,λ x c e=>?_,λ p hp=>?_,hok,I.len⟩
 ·exact keep b o (neL b o e) hb (neC b o e hx) (I.base.keep b o e n hb hx) (I.base.free b o e n hx)
 ·obtain⟨sl,e1⟩:=I.base.slot b o e n hb hx;obtain⟨sl',e2⟩:=slot b _ (neL b o e) hb (neC b o e hx) e1 (I.base.free b o e n hx);exact⟨sl',e2⟩
 ·obtain⟨o',e1⟩:=I.base.there b o e hx;exact free b o' (neC b o e hx) e1 (I.base.free b o e n hx)
 ·obtain⟨o',e1⟩:=I.base.there b o e hx;exact there b o' (neC b o e hx) e1
 ·obtain⟨m1,e1⟩:=I.base.tbls b ps e;obtain⟨m2,e2⟩:=tbls b _ e1;exact⟨m1++m2,by rw [e2,Array.append_assoc]⟩
 ·obtain⟨m,hn,hl⟩:=I.loc;refine⟨m,ns m hn,λ i x v e1 e2 e3=>?_⟩;obtain⟨u,r,l⟩:=hl i x v e1 e2 e3;refine⟨u,r,?_⟩;rcases l with l|⟨k,c,e,z⟩
  ·exact .inl l
  ·exact .inr ⟨k,c,e,cellK x c e _ z⟩
 ·obtain⟨v,z⟩:=I.cell x c e;exact⟨v,cellK x c e v z⟩
 ·obtain⟨m,⟨o,_,_,ho,_⟩,_⟩:=I.loc;exact free _ o (λ z=>(hch _ z).2.1 rfl) ho I.free
 ·obtain⟨v,o,ho,hd⟩:=I.cell x c e;exact free c o (λ z=>(hch c z).2.2.1 x c e rfl) ho (I.freeC x c e)
 ·obtain⟨e,n,ne,nf,d⟩:=I.pin p hp;have nch:p.1∉ch:=λ z=>(hch p.1 z).2.2.2 p hp rfl
  exact⟨keep p.1 p.2 ne nf nch e n,free p.1 p.2 nch e n,ne,nf,d⟩
theorem Inv.un {t':Nat}(I:Inv X pins σ H s)(u:Un X.fs [] H H' s.heap h')(hok:HOk X.prog X.w H' h'):Inv X pins σ H' {s with heap:=h',toks:=t'}:=by
 obtain⟨m,⟨o,es,ep,ho,r⟩,_⟩:=id I.loc;obtain⟨sl,hL⟩:=u.any ho I.free (by simp);exact I.step (g':=s.gens) (d':=s.drawn) (ch:=[]) (λ _ z=>nomatch z) (λ b o _ hb _ e n=>u.keep b o e n hb (by simp)) (λ b o _ hb _ e n=>u.slot b o e n hb (by simp)) (λ b o _ e n=>u.free b o e n (by simp)) (λ b o _ e=>u.there b o e (by simp)) u.tups u.frzs u.tbls (λ m' hm=>by
  obtain⟨o',es',ep',ho',r'⟩:=hm;rw [ho] at ho';cases ho';exact⟨_,es',ep',hL,r'⟩) hok I.bare
theorem Inv.call {g':Array GenState}{t':Nat}{d':Drawn}{ch:List Addr}(I:Inv X pins σ H s)(u:Un (frs X.stack) ch H H' s.heap h')(hok:HOk X.prog X.w H' h')(hg:AllBare g')
  (hch:∀b∈ch,(b∈X.ex\/X.s₀.heap.objs.size≤b)/\b≠X.env.locals/\(∀x c,X.env.cells.lookup x=some c->c≠b)/\∀p∈X.pn++pins,p.1≠b):
  Inv X pins σ H' {s with heap:=h',gens:=g',drawn:=d',toks:=t'}:=by
 obtain⟨m,⟨o,es,ep,ho,r⟩,_⟩:=id I.loc;obtain⟨sl,hL⟩:=u.any ho I.free λ z=>(hch _ z).2.1 rfl
 exact I.step (ch:=ch) hch (λ b o hL hb hc e n=>u.keep b o e n (λ z=>(List.mem_cons.mp (I.stkSub b z)).elim hL hb) hc) (λ b o _ _ hc e n=>u.any e n hc) (λ b o hc e n=>u.free b o e n hc) (λ b o hc e=>u.there b o e hc) u.tups u.frzs u.tbls (λ m' hm=>by
  obtain⟨o',es',ep',ho',r'⟩:=hm;rw [ho] at ho';cases ho';exact⟨_,es',ep',hL,r'⟩) hok hg
theorem Inv.turned {t':Nat}{it:Addr}(I:Inv X pins σ H s)(k:∀b o,b≠it->s.heap.get? b=some o->h'.get? b=some o)(hn:H it=none)(hL:it≠X.env.locals)
  (h1:it∈X.ex\/X.s₀.heap.objs.size≤it) (h2:∀x c,X.env.cells.lookup x=some c->c≠it) (h3:∀p∈X.pn++pins,p.1≠it):Inv X pins σ H {s with heap:=h',toks:=t'}:=by
 have nit:∀b u,H b=some u->b≠it:=λ b u e z=>by rw [z,hn] at e;cases e
 refine I.step (g':=s.gens) (d':=s.drawn) (ch:=[it]) (λ b hb=>?_) (λ b o _ _ hc e _=>k b o (λ z=>hc (by simp [z])) e) (λ b o _ _ hc e _=>⟨o.slots,k b o (λ z=>hc (by simp [z])) e⟩) (λ _ _ _ _ n=>n)
  (λ b o hc e=>⟨o,k b o (λ z=>hc (by simp [z])) e⟩) (λ _ _ e=>e) (λ _ _ _ e=>e) (λ b ps e=>⟨#[],by rw [e];simp⟩) (λ m hm=>?_) (λ b u e=>?_) I.bare
 ·have e:b=it:=by simpa using hb
  subst e;exact⟨h1,hL,h2,h3⟩
 ·obtain⟨o,es,ep,ho,r⟩:=hm;exact⟨o,es,ep,k _ o (Ne.symm hL) ho,r⟩
 ·refine(I.hok b u e).stay (λ c v hc q=>k c v ?_ q) (λ _ q=>q) λ _ _ q=>q
  rcases hc with z|z
  ·rw [z];exact nit b u e
  ·exact nit c _ z
theorem Inv.tok (I:Inv X pins σ H s)(t:Nat):Inv X pins σ H {s with toks:=t}:=I.un (h':=s.heap) (t':=t) Un.refl I.hok
theorem Inv.kept {t':Nat}(I:Inv X pins σ H s)(k:∀b u,s.heap.get? b=some u->h'.get? b=some u):Inv X pins σ H {s with heap:=h',toks:=t'}:=I.un (Un.kept k) (I.hok.kept k)
theorem Inv.laid {a:Addr}{o:HO}{t':Nat}(I:Inv X pins σ H s)(k:∀b u,s.heap.get? b=some u->h'.get? b=some u)(hp:s.heap.objs.size≤a)(new:ObjOk X.prog X.w (upd H a o) h' a o):
  Inv X pins σ (upd H a o) {s with heap:=h',toks:=t'}:=I.un (Un.laid k hp (I.hok.fresh hp)) (I.hok.laid k hp new)
theorem Inv.write {x e:Addr}{o:HO}{t':Nat}(I:Inv X pins σ H s)(mu:Mut (H x))(he:e=x\/H e=some (.own x))(k:∀b u,b≠e->s.heap.get? b=some u->h'.get? b=some u)(heo:∃u,h'.get? e=some u)
  (new:ObjOk X.prog X.w (upd H x o) h' x o):Inv X pins σ (upd H x o) {s with heap:=h',toks:=t'}:=I.un (Un.write mu he k heo) (I.hok.write mu he k heo new)
theorem Inv.pins_of {pins':List (Addr×Obj)}(I:Inv X pins σ H s)(h:∀p∈pins',s.heap.get? p.1=some p.2/\H p.1=none/\p.1≠X.env.locals/\p.1∉X.fs/\∀v,p.2.data≠ .cell v):Inv X pins' σ H s:=
 ⟨I.ok,I.os,I.bare,I.base,I.loc,I.cell,I.free,I.freeC,λ p hp=>(List.mem_append.mp hp).elim (λ z=>I.pin p (List.mem_append_left _ z)) (h p),I.hok,I.len⟩
theorem nodup_ix {N:List Str}(hN:N.Nodup){i j:Nat}{x:Str}(a:N[i]?=some x)(b:N[j]?=some x):i=j:=by
 obtain⟨h1,e1⟩:=List.getElem?_eq_some_iff.mp a;obtain⟨h2,e2⟩:=List.getElem?_eq_some_iff.mp b;exact(List.getElem_inj hN).mp (e1.trans e2.symm)
theorem hV {M:Model}{A:Around}{E:Value->Shared->Prop}{i:Nat}{x:Str}{v:V}{u:Value}{Q:Unit->Shared->Prop}(I:Inv X pins σ H s)(hN:X.N.Nodup)(hi:X.N[i]?=some x)(hx:Loc X.env.scope x)(r:RelV v u)
  (h:∀s',Inv X pins (σ.set i (some v)) H s'->(∃a,Heap.SameBut a s.heap s'.heap/\(a=X.env.locals\/X.env.cells.lookup x=some a))->Q () s') (hf:X.fn x=true\/X.env.scope.names.lookup x=some .local:=by first|exact .inl rfl|exact .inr rfl|assumption):wpAny M A (storeName X.env x u) Q E s:=by
 obtain⟨m,hn,hl⟩:=id I.loc;have hcls:(X.env.scope.kind== .class||(X.env.scope.kind== .module&&X.env.locals !=X.env.globals))=false:=by rw [I.ok.kind];rfl
 have hiσ:i<σ.length:=by rw [I.len];exact(List.getElem?_eq_some_iff.mp hi).1
 have cne:=I.cne;have tracked:∀{a:Addr} {h':Heap},(∃o,s.heap.get? a=some o/\H a=none)->Heap.SameBut a s.heap h'->HOk X.prog X.w H h':=λ {a h'} ha hs b ob e=>by
  obtain⟨_,_,hfree⟩:=ha;refine(I.hok b ob e).stay (λ c w' hc q=>(hs.2 c ?_).trans q) (λ _ q=>q) λ _ _ q=>q
  rintro rfl;rcases hc with rfl|hc
  ·rw [hfree] at e;cases e
  ·rw [hfree] at hc;cases hc
 rcases hx with hk|hk
 ·refine wpAny_storeName_local hk hn (λ h' hn' hs=>?_) hcls;obtain⟨oL,_,_,hoL,_⟩:=id hn;refine h _ ⟨I.ok,I.os,I.bare,⟨λ b o e n hb hx=>?_,λ b o e n hb hx=>?_,I.base.free,λ b o e hx=>?_,I.base.tups,I.base.frzs,I.base.tbls⟩,⟨_,hn',λ j y v' e1 e2 e3=>?_⟩,λ y c e=>?_,I.free,I.freeC,λ p hp=>?_,tracked ⟨oL,hoL,I.free⟩ hs,by simpa using I.len⟩ ⟨_,hs,.inl rfl⟩
  ·exact(hs.2 b (Nat.ne_of_lt (Nat.lt_of_lt_of_le (Heap.lt_size e) I.ok.above))).trans (I.base.keep b o e n hb hx)
  ·obtain⟨sl,e1⟩:=I.base.slot b o e n hb hx;exact⟨sl,(hs.2 b (Nat.ne_of_lt (Nat.lt_of_lt_of_le (Heap.lt_size e) I.ok.above))).trans e1⟩
  ·obtain⟨o',e1⟩:=I.base.there b o e hx;exact⟨o',(hs.2 b (Nat.ne_of_lt (Nat.lt_of_lt_of_le (Heap.lt_size e) I.ok.above))).trans e1⟩
  ·by_cases hj:j=i
   ·subst hj;rw [hi] at e1;cases e1;rw [List.getElem?_set_self hiσ] at e2;cases e2;exact⟨u,r,.inl ⟨hk,by simp⟩⟩
   ·rw [List.getElem?_set_ne (Ne.symm hj)] at e2;obtain⟨u',r',q⟩:=hl j y v' e1 e2 e3;refine⟨u',r',?_⟩;rcases q with⟨k,e⟩|⟨k,c,e,z⟩
    ·refine .inl ⟨k,?_⟩;have:y≠x:=λ e=>hj (nodup_ix hN e1 (e▸hi))
     simp [this,e]
    ·exact .inr ⟨k,c,e,z.sameBut hs (cne y c e)⟩
  ·obtain⟨w',z⟩:=I.cell y c e;exact⟨w',z.sameBut hs (cne y c e)⟩
  ·obtain⟨e,n,ne,nf,d⟩:=I.pin p hp;exact⟨(hs.2 p.1 ne).trans e,n,ne,nf,d⟩
 ·have hfn:X.fn x=true:=by
   rcases hf with z|z
   ·exact z
   ·rw [z] at hk;cases hk
  obtain⟨c,hc⟩:=I.ok.has x (.inl hk);obtain⟨w',z⟩:=I.cell x c hc;refine wpAny_storeName_cell I.ok.kind hk hc z (λ h' hc' hs=>?_);obtain⟨oc,hoc,hocd⟩:=id z;refine h {s with heap:=h'} ⟨I.ok,I.os,I.bare,⟨λ b o e n hb hx=>?_,λ b o e n hb hx=>?_,I.base.free,λ b o e hx=>?_,I.base.tups,I.base.frzs,I.base.tbls⟩,⟨m,hn.sameBut hs (Ne.symm (cne x c hc)),λ j y v' e1 e2 e3=>?_⟩,λ y c' e=>?_,I.free,I.freeC,λ p hp=>?_,tracked ⟨oc,hoc,I.freeC x c hc⟩ hs,by simpa using I.len⟩ ⟨c,hs,.inr hc⟩
  ·exact(hs.2 b (Nat.ne_of_lt (Nat.lt_of_lt_of_le (Heap.lt_size e) (I.ok.cab x c hfn hc)))).trans (I.base.keep b o e n hb hx)
  ·obtain⟨sl,e1⟩:=I.base.slot b o e n hb hx;exact⟨sl,(hs.2 b (Nat.ne_of_lt (Nat.lt_of_lt_of_le (Heap.lt_size e) (I.ok.cab x c hfn hc)))).trans e1⟩
  ·obtain⟨o',e1⟩:=I.base.there b o e hx;exact⟨o',(hs.2 b (Nat.ne_of_lt (Nat.lt_of_lt_of_le (Heap.lt_size e) (I.ok.cab x c hfn hc)))).trans e1⟩
  ·by_cases hj:j=i
   ·subst hj;rw [hi] at e1;cases e1;rw [List.getElem?_set_self hiσ] at e2;cases e2;exact⟨u,r,.inr ⟨.inl hk,c,hc,hc'⟩⟩
   ·rw [List.getElem?_set_ne (Ne.symm hj)] at e2;obtain⟨u',r',q⟩:=hl j y v' e1 e2 e3;refine⟨u',r',?_⟩;rcases q with q|⟨k,c',e,z'⟩
    ·exact .inl q
    ·refine .inr ⟨k,c',e,z'.sameBut hs ?_⟩;rintro rfl;exact hj (nodup_ix hN e1 (I.ok.inj _ _ _ e hc▸hi))
  ·by_cases hcc:c'=c
   ·subst hcc;exact⟨_,hc'⟩
   ·obtain⟨w2,z2⟩:=I.cell y c' e;exact⟨w2,z2.sameBut hs hcc⟩
  ·obtain⟨e,n,ne,nf,d⟩:=I.pin p hp;refine⟨(hs.2 p.1 ?_).trans e,n,ne,nf,d⟩;intro q;rw [q,hoc] at e;have q':oc=p.2:=Option.some.inj e;exact d w' (by rw [<-q'];exact hocd)
theorem store_ok {M:Model}{A:Around}{E:Value->Shared->Prop}{i:Nat}{x:Str}{v:V}{u:Value}{Q:Unit->Shared->Prop}(I:Inv X pins σ H s)(hN:X.N.Nodup)(hi:X.N[i]?=some x)(hx:Loc X.env.scope x)(r:RelV v u)
  (h:∀s',Inv X pins (σ.set i (some v)) H s'->Q () s') (hf:X.fn x=true\/X.env.scope.names.lookup x=some .local:=by first|exact .inl rfl|exact .inr rfl|assumption):wpAny M A (storeName X.env x u) Q E s:=
 hV I hN hi hx r (λ s' I' _=>h s' I') hf
theorem Inv.call' {s':Shared}{ch:List Addr}(I:Inv X pins σ H s)(ho:s'.os=s.os)(u:Un (frs X.stack) ch H H' s.heap s'.heap)(hok:HOk X.prog X.w H' s'.heap)(hg:AllBare s'.gens)
  (hch:∀b∈ch,(b∈X.ex\/X.s₀.heap.objs.size≤b)/\b≠X.env.locals/\(∀x c,X.env.cells.lookup x=some c->c≠b)/\∀p∈X.pn++pins,p.1≠b):Inv X pins σ H' s':=by
 obtain⟨h',g',d',t',o'⟩:=s';have e:o'=s.os:=ho;subst e;exact I.call (g':=g') (t':=t') (d':=d') u hok hg hch
end
abbrev XK:=Value->Option Addr->Hp->Prop
abbrev St:=List (Option V)
abbrev VK:=V->Hp->Prop
abbrev TE:=St->Hp->VK->Prop
abbrev TT:=St->Hp->(Bool->Hp->Prop)->Prop
abbrev TA:=St->Hp->(List V->Hp->Prop)->Prop
structure Ends where
 nx:St->Hp->Prop
 rt:VK
 bk:St->Hp->Prop:=λ _ _=>False
 ct:St->Hp->Prop:=λ _ _=>False
abbrev TS:=Ends->St->Hp->Prop
def EP (X:Cx)(pins:List (Addr×Obj))(σ:St)(Q:VK)(u:Value)(s':Shared):Prop:=∃v H',Inv X pins σ H' s'/\RelV v u/\Q v H'
def TP (X:Cx)(pins:List (Addr×Obj))(σ:St)(Q:Bool->Hp->Prop)(b:Bool)(s':Shared):Prop:=∃H',Inv X pins σ H' s'/\Q b H'
def AP (X:Cx)(pins:List (Addr×Obj))(σ:St)(Q:List V->Hp->Prop)(us:List Value)(s':Shared):Prop:=∃vs H',Inv X pins σ H' s'/\Vals vs us/\Q vs H'
def SP (X:Cx)(pins:List (Addr×Obj))(D:Ends)(f:Flow)(s':Shared):Prop:=
 match f with
 | .next=>∃σ' H',Inv X pins σ' H' s'/\D.nx σ' H'
 | .brk=>∃σ' H',Inv X pins σ' H' s'/\D.bk σ' H'
 | .cont=>∃σ' H',Inv X pins σ' H' s'/\D.ct σ' H'
 | .ret u=>∃v σ' H',Inv X pins σ' H' s'/\RelV v u/\D.rt v H'
def PE (X:Cx)(e:Expr)(t:TE):Prop:=
 ∀(pins:List (Addr×Obj)) (s:Shared) (σ:St) (H:Hp) (Q:VK),Inv X pins σ H s->t σ H Q->wpAny (model X.prog X.w) X.A (eval e X.env) (EP X pins σ Q) X.xe s
def PT (X:Cx)(e:Expr)(t:TT):Prop:=
 ∀(pins:List (Addr×Obj)) (s:Shared) (σ:St) (H:Hp) (Q:Bool->Hp->Prop),Inv X pins σ H s->t σ H Q->wpAny (model X.prog X.w) X.A (isTrue e X.env (eval e X.env)) (TP X pins σ Q) X.xe s
def PW (X:Cx)(e:Expr)(t:TT):Prop:=
 ∀(whole:Sem Value) (pins:List (Addr×Obj)) (s:Shared) (σ:St) (H:Hp) (Q:Bool->Hp->Prop),Inv X pins σ H s->t σ H Q->wpAny (model X.prog X.w) X.A (isTrue e X.env whole) (TP X pins σ Q) X.xe s
theorem PW.pt {X:Cx}{e:Expr}{t:TT}(h:PW X e t):PT X e t:=h _
def PA (X:Cx)(es:List Expr)(t:TA):Prop:=
 ∀(pos:Pos) (pins:List (Addr×Obj)) (s:Shared) (σ:St) (H:Hp) (Q:List V->Hp->Prop),Inv X pins σ H s->t σ H Q->wpAny (model X.prog X.w) X.A (spliced (backTo pos (starEach es X.env))) (AP X pins σ Q) X.xe s
def PS (X:Cx)(st:Stmt)(t:TS):Prop:=
 ∀(pins:List (Addr×Obj)) (s:Shared) (σ:St) (H:Hp) (D:Ends),Inv X pins σ H s->t D σ H->wpAny (model X.prog X.w) X.A (exec st X.env) (SP X pins D) X.xe s
def PSs (X:Cx)(st:List Stmt)(t:TS):Prop:=
 ∀(pins:List (Addr×Obj)) (s:Shared) (σ:St) (H:Hp) (D:Ends),Inv X pins σ H s->t D σ H->wpAny (model X.prog X.w) X.A (execs st X.env) (SP X pins D) X.xe s
theorem thn {α:Type}{t:Sem α}{Q Q':α->Shared->Prop}{M:Model}{A:Around}{E:Value->Shared->Prop}{s:Shared}(h:wpAny M A t Q E s)(hQ:∀a s,Q a s->Q' a s):wpAny M A t Q' E s:=wpAny_mono h hQ λ _ _ x=>x
section
variable {X : Cx}
def dM (i:Nat):TE:=λ σ H Q=>∃v,σ[i]?=some (some v)/\Q v H
def tC (v:V):TE:=λ _ H Q=>Q v H
theorem vO {i:Nat}{x:Str}{pos:Pos}(hN:X.N[i]?=some x)(hv:Vis X.env.scope x)(hd:(x==("__debug__":Str))=false:=by decide)(hcd:(x==("__classdict__":Str))=false:=by decide):PE X (.Name x pos) (dM i):=by
 intro pins s σ H Q I h;obtain⟨v,e,h⟩:=h;obtain⟨m,hn,hl⟩:=I.loc;obtain⟨u,r,l⟩:=hl i x v hN e hv;have fin:EP X pins σ Q u s:=⟨v,H,I,r,h⟩;rcases l with⟨hk,hm⟩|⟨hk,c,hc,hcell⟩
 ·exact wpAny_Name (wpAny_loadName_local I.ok.kind hk hn hm fin) hd
 ·rcases hk with hk|hk
  ·exact wpAny_Name (wpAny_loadName_cell I.ok.kind hk hc hcell fin) hd
  ·exact wpAny_Name (wpAny_loadName_free I.ok.kind hk hc hcell fin hcd) hd
theorem ae {i j pos}:PE X (.Constant (.int i) j pos) (tC (.int i)):=λ _ _ _ H _ I h=>wpAny_Constant_int ⟨.int i,H,I.tok _,⟨_,rfl⟩,h⟩
theorem dQ {b j pos}:PE X (.Constant (.bool b) j pos) (tC (.bl b)):=λ _ _ _ H _ I h=>Constant_bool ⟨.bl b,H,I,rfl,h⟩
theorem dU {j pos}:PE X (.Constant .none j pos) (tC .non):=λ _ _ _ H _ I h=>Constant_none ⟨.non,H,I,rfl,h⟩
theorem bY {x j pos}:PE X (.Constant (.str x) j pos) (tC (.str x)):=λ _ _ _ H _ I h=>Calls.Constant_str ⟨.str x,H,I.tok _,⟨_,rfl⟩,h⟩
def Gl (X:Cx)(x:Str):Prop:=X.env.kindOf x=some .globalImplicit
theorem ld_glob {E:Value->Shared->Prop}{pins:List (Addr×Obj)}{s:Shared}{σ:St}{H:Hp}{x:Str}{u:Value}{pos:Pos}{Q:Value->Shared->Prop}(I:Inv X pins σ H s)(hg:Gl X x)(hm:X.mg x=some u)(h:Q u s)
  (hd:(x==("__debug__":Str))=false:=by decide):wpAny (model X.prog X.w) X.A (eval (.Name x pos) X.env) Q E s:=
 Calls.Name_function_global I.ok.kind hg (Calls.loadGlobal_global (by rw [I.ok.glob];exact I.mod.glob.keeps I.bk) hm h) hd
theorem ld_blt {E:Value->Shared->Prop}{pins:List (Addr×Obj)}{s:Shared}{σ:St}{H:Hp}{x:Str}{u:Value}{pos:Pos}{Q:Value->Shared->Prop}(I:Inv X pins σ H s)(hg:Gl X x)(hm:X.mg x=none)(hv:bootBuiltins x=some u)(h:Q u s)
  (hn:x≠ "__name__":=by decide) (hd:(x==("__debug__":Str))=false:=by decide):wpAny (model X.prog X.w) X.A (eval (.Name x pos) X.env) Q E s:=by
 obtain⟨mb,h1,h2⟩:=I.mod.blt;exact Calls.Name_function_global I.ok.kind hg (Calls.loadGlobal_builtin (by rw [I.ok.glob];exact I.mod.glob.keeps I.bk) hm (by rw [I.ok.blt];exact h1.keeps I.bk) ((h2 x hn).trans hv) h) hd
theorem aK {x:Str}{v:V}{u:Value}{pos:Pos}(hg:Gl X x)(hm:X.mg x=some u)(r:RelV v u)(hd:(x==("__debug__":Str))=false:=by decide):PE X (.Name x pos) (tC v):=
 λ _ _ _ H _ I h=>ld_glob I hg hm ⟨v,H,I,r,h⟩ hd
theorem f6 {x:Str}{v:V}{u:Value}{pos:Pos}(hg:Gl X x)(hm:X.mg x=none)(hv:bootBuiltins x=some u)(r:RelV v u)(hn:x≠ "__name__":=by decide)(hd:(x==("__debug__":Str))=false:=by decide):PE X (.Name x pos) (tC v):=
 λ _ _ _ H _ I h=>ld_blt I hg hm hv ⟨v,H,I,r,h⟩ hn hd
variable {a b : Expr} {ta tb : TE} {pos : Pos}
def PC (X:Cx)(op:CmpOp)(a b:Expr)(t:TE):Prop:=
 ∀(pins:List (Addr×Obj)) (s:Shared) (σ:St) (H:Hp) (Q:VK),Inv X pins σ H s->t σ H Q->
  wpAny (model X.prog X.w) X.A (eval a X.env) (λ v s₁=>wpAny (model X.prog X.w) X.A (eval b X.env) (λ u s₂=>wpAny (model X.prog X.w) X.A (compareOp op v u) (EP X pins σ Q) X.xe s₂) X.xe s₁) X.xe s
theorem qV (b:Expr){op:CmpOp}(h:op≠ .In)(h2:op≠ .NotIn):behindInMarks op b=false:=by
 have e1:(op==CmpOp.In)=false:=by cases op<;>first|rfl|exact absurd rfl h
 have e2:(op==CmpOp.NotIn)=false:=by cases op<;>first|rfl|exact absurd rfl h2
 cases b<;>simp [behindInMarks,e1,e2]
def wP (ta:TE):TE:=λ σ H Q=>ta σ H λ x H1=>Q (.bl (!decide (x=.non))) H1
theorem RelV.none_iff {x:V}{v:Value}(r:RelV x v):(v==Value.none)=decide (x=.non):=by
 cases x with
 |non=>cases r;rfl
 |bl _=>cases r;rfl
 |int _=>obtain⟨t,rfl⟩:=r;rfl
 |str _=>obtain⟨t,rfl⟩:=r;rfl
 |byt _=>obtain⟨t,rfl⟩:=r;rfl
 |flt _=>obtain⟨t,rfl⟩:=r;rfl
 |ref _=>cases r;rfl
 |ty _=>cases r;rfl
theorem tX {j pos'}(ha:PE X a ta):PC X .IsNot a (.Constant .none j pos') (wP ta):=by
 intro pins s σ H Q I h;refine thn (ha pins s σ H _ I h) λ v s1 ⟨x,H1,I1,r1,q1⟩=>?_
 exact Constant_none (isnot_none_gen ⟨.bl _,H1,I1,by rw [r1.none_iff];rfl,q1⟩)
def tB (t:TE):TT:=λ σ H Q=>t σ H λ x H1=>∃c,x=.bl c/\Q c H1
theorem mw {op:CmpOp}{t:TE}(h:PC X op a b t)(h1:behindInMarks op b=false:=by first|exact qV _ (by decide) (by decide)|rfl):PT X (.Compare a [op] [b] pos) (tB t):=by
 intro pins s σ H Q I hw;refine wpAny_isTrue_Compare1 (thn (h pins s σ H _ I hw) λ v s1 h1=>thn h1 λ u s2 h2=>thn h2 λ c s3 ⟨x,H1,I1,r1,q1⟩=>?_) h1;obtain⟨d,rfl,q⟩:=q1;cases r1;exact wpAny_truthy_bool ⟨H1,I1,q⟩
theorem cf {e:Expr}{t:TE}(h:PE X e t)(he:∀whole,isTrue e X.env whole=(do let v<-whole;standAt e.pos;holding [v] (truthy v)):=by intro _;rfl):PT X e (tB t):=by
  intro pins s σ H Q I hw
  refine isTrue_plain (thn (h pins s σ H _ I hw) λ v s1 ⟨x,H1,I1,r1,q1⟩=>?_) (he _)
  obtain⟨d,rfl,q⟩:=q1
  cases r1
  exact wpAny_truthy_bool ⟨H1,I1,q⟩
variable {tA tB' : TT} {rest : List Expr}
def xt (t u:TT):TT:=λ σ H Q=>t σ H λ c H1=>if c=true then u σ H1 Q else Q false H1
def tOr (t u:TT):TT:=λ σ H Q=>t σ H λ c H1=>if c=true then Q true H1 else u σ H1 Q
def x4 (t:TT):TT:=λ σ H Q=>t σ H λ c H1=>Q (!c) H1
theorem cZ (ha:PT X a tA):PW X (.BoolOp .And [a] pos) tA:=by
 intro wh pins s σ H Q I h;refine isTrue_and (thn (ha pins s σ H Q I h) λ c s1 e=>?_);cases c with
 |true=>exact isTrue_and_nil e
 |false=>exact e
theorem fo (ha:PT X a tA):PW X (.BoolOp .Or [a] pos) tA:=by
 intro wh pins s σ H Q I h;refine isTrue_or (thn (ha pins s σ H Q I h) λ c s1 e=>?_);cases c with
 |false=>exact isTrue_or_nil e
 |true=>exact e
theorem c5 (ha:PT X a tA)(hb:PW X (.BoolOp .And (b::rest) pos) tB'):PW X (.BoolOp .And (a::b::rest) pos) (xt tA tB'):=by
 intro wh pins s σ H Q I h;refine isTrue_and (thn (ha pins s σ H _ I h) λ c s1 ⟨H1,I1,q1⟩=>?_);cases c with
 |true=>exact hb wh pins s1 σ H1 Q I1 q1
 |false=>exact⟨H1,I1,q1⟩
theorem il (ha:PT X a tA)(hb:PW X (.BoolOp .Or (b::rest) pos) tB'):PW X (.BoolOp .Or (a::b::rest) pos) (tOr tA tB'):=by
 intro wh pins s σ H Q I h;refine isTrue_or (thn (ha pins s σ H _ I h) λ c s1 ⟨H1,I1,q1⟩=>?_);cases c with
 |true=>exact⟨H1,I1,q1⟩
 |false=>exact hb wh pins s1 σ H1 Q I1 q1
theorem cj (ha:PT X a tA):PT X (.UnaryOp .Not a pos) (x4 tA):=by
 intro pins s σ H Q I h;exact isTrue_not (ha pins s σ H (λ c H1=>Q (!c) H1) I h)
def wJ (ta tb:TE):TE:=λ σ H Q=>ta σ H λ x H1=>∃c,x=.bl c/\if c=true then tb σ H1 Q else Q (.bl false) H1
def wW (ta:TE):TE:=λ σ H Q=>ta σ H λ x H1=>∃c,x=.bl c/\Q (.bl (!c)) H1
theorem iZ {op}{t:TE}(h:PE X a t):PE X (.BoolOp op [a] pos) t:=λ pins s σ H Q I hw=>BoolOp_one (h pins s σ H Q I hw)
theorem fk (ha:PE X a ta)(hb:PE X (.BoolOp .And (b::rest) pos) tb):PE X (.BoolOp .And (a::b::rest) pos) (wJ ta tb):=by
 intro pins s σ H Q I h;refine BoolOp_and (thn (ha pins s σ H _ I h) λ v s1 ⟨x,H1,I1,r1,q1⟩=>?_);obtain⟨c,rfl,q1⟩:=q1;cases r1;refine wpAny_truthy_bool ?_;cases c with
 |true=>exact hb pins s1 σ H1 Q I1 q1
 |false=>exact⟨.bl false,H1,I1,rfl,q1⟩
theorem wk (ha:PE X a ta):PE X (.UnaryOp .Not a pos) (wW ta):=by
 intro pins s σ H Q I h;refine UnaryOp_ (thn (ha pins s σ H _ I h) λ v s1 ⟨x,H1,I1,r1,q1⟩=>?_);obtain⟨c,rfl,q1⟩:=q1;cases r1;exact not_of (wpAny_truthy_bool ⟨.bl (!c),H1,I1,rfl,q1⟩)
def tIf (t:TT)(ta tb:TE):TE:=λ σ H Q=>t σ H λ c H1=>if c=true then ta σ H1 Q else tb σ H1 Q
theorem eC {c:Expr}(hc:PT X c tA)(ha:PE X a ta)(hb:PE X b tb):PE X (.IfExp c a b pos) (tIf tA ta tb):=by
 intro pins s σ H Q I h;refine wpAny_IfExp (thn (hc pins s σ H _ I h) λ d s1 ⟨H1,I1,q1⟩=>?_);cases d with
 |true=>exact ha pins s1 σ H1 Q I1 q1
 |false=>exact hb pins s1 σ H1 Q I1 q1
end
def SqL (K:PySem.W.Frag)(H:Hp)(a:Addr)(xs:List V):Prop:=
 Rd H a (.lst xs)\/
  ∃(o:Obj) (its:Array Value) (n:Nat),K.lookup a=some o/\o.cls=.type "list"/\o.dict=none/\o.data=.seq its n/\its.size≤sizeLine/\Vals xs its.toList
def SqT (K:PySem.W.Frag)(H:Hp)(a:Addr)(xs:List V):Prop:=
 Rd H a (.tup xs)\/
  ∃(o:Obj) (its:Array Value) (n:Nat),K.lookup a=some o/\o.cls=.type "tuple"/\o.data=.seq its n/\its.size≤sizeLine/\Vals xs its.toList
def xv:Value->Option V
 | .none=>some .non
 | .bool b=>some (.bl b)
 | .int i _=>some (.int i)
 | .str x _=>some (.str x)
 | .bytes b _=>some (.byt b)
 | .float b _=>some (.flt b)
 | .ref a=>some (.ref a)
 | .type n=>some (.ty n)
 |_=>none
theorem RelV.abs {x:V}{u:Value}(r:RelV x u):xv u=some x:=by
 cases x with
 |non=>cases r;rfl
 |bl _=>cases r;rfl
 |int _=>obtain⟨t,rfl⟩:=r;rfl
 |str _=>obtain⟨t,rfl⟩:=r;rfl
 |byt _=>obtain⟨t,rfl⟩:=r;rfl
 |flt _=>obtain⟨t,rfl⟩:=r;rfl
 |ref _=>cases r;rfl
 |ty _=>cases r;rfl
theorem RelV.inj {x y:V}{u:Value}(r:RelV x u)(q:RelV y u):x=y:=Option.some.inj (r.abs.symm.trans q.abs)
theorem Vals.inj:∀{xs ys:List V} {us:List Value},Vals xs us->Vals ys us->xs=ys
 |_,_,_,.nil,.nil=>rfl
 |_,_,_,.cons r t,.cons r' t'=>by rw [r.inj r',Vals.inj t t']
section
variable {X : Cx} {pins : List (Addr × Obj)} {σ : St} {H : Hp} {s : Shared} {a : Addr} {xs ys : List V}
theorem SqL.of {K:PySem.W.Frag}(h:H a=some (.lst xs)):SqL K H a xs:=.inl (.inl h)
theorem SqT.of {K:PySem.W.Frag}(h:H a=some (.tup xs)):SqT K H a xs:=.inl (.inl h)
theorem Inv.list (I:Inv X pins σ H s)(h:SqL X.K H a xs):∃its:List Value,Vals xs its/\PlainL s.heap a its.toArray/\xs.length≤sizeLine:=by
 rcases h with h|⟨o,its,n,hk,hc,hd,hs,hz,r⟩
 ·obtain⟨z,its,n,r,e⟩:=h.ok I.hok;exact⟨its,r,⟨_,n,e,rfl,rfl,rfl⟩,z⟩
 ·refine⟨its.toList,r,⟨o,n,I.kIn a o hk,hc,hd,by simpa using hs⟩,?_⟩;have e:=r.length;simp only [Array.length_toList] at e;lia
theorem Inv.tuple (I:Inv X pins σ H s)(h:SqT X.K H a xs):∃its:List Value,Vals xs its/\IsTup s.heap a its.toArray/\xs.length≤sizeLine:=by
 rcases h with h|⟨o,its,n,hk,hc,hs,hz,r⟩
 ·obtain⟨z,its,r,p⟩:=h.ok I.hok;exact⟨its,r,p,z⟩
 ·refine⟨its.toList,r,⟨o,I.kIn a o hk,hc,n,by simpa using hs⟩,?_⟩;have e:=r.length;simp only [Array.length_toList] at e;lia
theorem Inv.list_inj (I:Inv X pins σ H s)(h:SqL X.K H a xs)(h':SqL X.K H a ys):xs=ys:=by
 obtain⟨its,r,⟨o,n,e,_,_,d⟩,_⟩:=I.list h;obtain⟨its',r',⟨o',n',e',_,_,d'⟩,_⟩:=I.list h';rw [e] at e';cases e';rw [d] at d';injection d' with d1 _
 have:its=its':=by simpa using congrArg Array.toList d1
 subst this;exact r.inj r'
end
abbrev Cx.wish (X:Cx)(E:Value->Shared->Prop):Cx:={X with xe:=E}
abbrev Cx.nox (X:Cx):Cx:=X.wish λ _ _=>False
theorem Cx.Ok.wish {X:Cx}(ok:X.Ok)(E:Value->Shared->Prop):(X.wish E).Ok:=
 ⟨ok.mod,ok.kind,ok.glob,ok.blt,ok.above,ok.inj,ok.has,ok.cab,ok.hd,ok.frames,ok.stk,ok.exf,ok.bs,ok.bsz,ok.noex,ok.exfs,ok.funs,ok.frf⟩
theorem Cx.Ok.unwish {X:Cx}{E:Value->Shared->Prop}(ok:(X.wish E).Ok):X.Ok:=
 ⟨ok.mod,ok.kind,ok.glob,ok.blt,ok.above,ok.inj,ok.has,ok.cab,ok.hd,ok.frames,ok.stk,ok.exf,ok.bs,ok.bsz,ok.noex,ok.exfs,ok.funs,ok.frf⟩
section
variable {X : Cx} {pins : List (Addr × Obj)} {σ : St} {H : Hp} {s : Shared} {E : Value -> Shared -> Prop}
theorem Inv.wish (I:Inv X pins σ H s)(E:Value->Shared->Prop):Inv (X.wish E) pins σ H s:=⟨I.ok.wish E,I.os,I.bare,I.base,I.loc,I.cell,I.free,I.freeC,I.pin,I.hok,I.len⟩
theorem Inv.unwish (I:Inv (X.wish E) pins σ H s):Inv X pins σ H s:=⟨I.ok.unwish,I.os,I.bare,I.base,I.loc,I.cell,I.free,I.freeC,I.pin,I.hok,I.len⟩
theorem SP.unwish {D:Ends}{f:Flow}{s':Shared}(h:SP (X.wish E) pins D f s'):SP X pins D f s':=by
 cases f with
 |next=>obtain⟨σ',H',I,q⟩:=h;exact⟨σ',H',I.unwish,q⟩
 |brk=>obtain⟨σ',H',I,q⟩:=h;exact⟨σ',H',I.unwish,q⟩
 |cont=>obtain⟨σ',H',I,q⟩:=h;exact⟨σ',H',I.unwish,q⟩
 |ret u=>obtain⟨v,σ',H',I,r,q⟩:=h;exact⟨v,σ',H',I.unwish,r,q⟩
theorem PE.nox {e:Expr}{t:TE}(h:PE X.nox e t):PE X e t:=λ pins s σ H Q I hw=>
 wpAny_mono (h pins s σ H Q (I.wish _) hw) (λ _ _ ⟨v,H',I',r,q⟩=>⟨v,H',I'.unwish,r,q⟩) λ _ _ z=>False.elim z
theorem PT.nox {e:Expr}{t:TT}(h:PT X.nox e t):PT X e t:=λ pins s σ H Q I hw=>
 wpAny_mono (h pins s σ H Q (I.wish _) hw) (λ _ _ ⟨H',I',q⟩=>⟨H',I'.unwish,q⟩) λ _ _ z=>False.elim z
theorem PSs.nox {st:List Stmt}{t:TS}(h:PSs X.nox st t):PSs X st t:=λ pins s σ H D I hw=>
 wpAny_mono (h pins s σ H D (I.wish _) hw) (λ _ _ q=>q.unwish) λ _ _ z=>False.elim z
end
section
variable {X : Cx} {st : Stmt} {rest : List Stmt} {t u : TS} {e : Expr} {te : TE} {pos : Pos}
def w6:TS:=λ D σ H=>D.nx σ H
def wz (t u:TS):TS:=λ D σ H=>t {D with nx:=u D} σ H
theorem aB:PSs X [] w6:=λ _ _ σ H _ I h=>wpAny_execs_nil ⟨σ,H,I,h⟩
theorem ac (h1:PS X st t)(h2:PSs X rest u):PSs X (st::rest) (wz t u):=by
 intro pins s σ H D I h;refine wpAny_execs_cons (thn (h1 pins s σ H {D with nx:=u D} I h) λ f s1 q=>?_);cases f with
 |next=>
  obtain⟨σ',H',I',q⟩:=q;exact h2 pins s1 σ' H' D I' q
 |ret v=>exact q
 |brk=>exact q
 |cont=>exact q
theorem ag (h1:PS X st t):PSs X [st] t:=by
 intro pins s σ H D I h;refine wpAny_execs_cons (thn (h1 pins s σ H D I h) λ f s1 q=>?_);cases f with
 |next=>exact wpAny_execs_nil q
 |ret v=>exact q
 |brk=>exact q
 |cont=>exact q
def vm:TS:=λ D σ H=>D.bk σ H
theorem qW:PS X (.Break pos) vm:=λ _ _ σ H _ I h=>wpAny_Break ⟨σ,H,I,h⟩
theorem Inv.quiet {pins:List (Addr×Obj)}{σ:St}{H:Hp}{s:Shared}(I:Inv X pins σ H s):interactive X.env=false:=by simp [interactive,I.ok.kind]
def wG (te:TE):TS:=λ D σ H=>te σ H λ _ H1=>D.nx σ H1
theorem aD (he:PE X e te)(hs:swapsWith e none pos.line X.env=pure false:=by rfl):PS X (.Expr e pos) (wG te):=by
 intro pins s σ H D I h;exact wpAny_Expr_any (thn (he pins s σ H _ I h) λ v s1 ⟨x,H1,I1,r1,q1⟩=>⟨σ,H1,I1,q1⟩) I.quiet hs
def xX (te:TE):TS:=λ D σ H=>te σ H D.rt
theorem az (he:PE X e te):PS X (.Return (some e) pos) (xX te):=by
 intro pins s σ H D I h;exact wpAny_Return_some (thn (he pins s σ H _ I h) λ v s1 ⟨x,H1,I1,r1,q1⟩=>⟨x,σ,H1,I1,r1,q1⟩)
def xC (c:TT)(t u:TS):TS:=λ D σ H=>c σ H λ b H1=>if b=true then t D σ H1 else u D σ H1
theorem aM {c:Expr}{a b:List Stmt}{tc:TT}(hc:PT X c tc)(ha:PSs X a t)(hb:PSs X b u):PS X (.If c a b pos) (xC tc t u):=by
 intro pins s σ H D I h;refine wpAny_If (thn (hc pins s σ H _ I h) λ d s1 ⟨H1,I1,q1⟩=>?_);cases d with
 |true=>exact ha pins s1 σ H1 D I1 q1
 |false=>exact hb pins s1 σ H1 D I1 q1
def qm:TS:=λ _ _ _=>False
theorem aT:PS X st qm:=λ _ _ _ _ _ _ h=>h.elim
theorem pb {sts:List Stmt}:PSs X sts qm:=λ _ _ _ _ _ _ h=>h.elim
end
abbrev TG:=V->St->Hp->(St->Hp->Prop)->Prop
abbrev TGs:=List V->St->Hp->(St->Hp->Prop)->Prop
def PG (X:Cx)(target:Expr)(t:TG):Prop:=
 ∀(pins:List (Addr×Obj)) (s:Shared) (σ:St) (H:Hp) (v:V) (u:Value) (Q:St->Hp->Prop),Inv X pins σ H s->RelV v u->t v σ H Q->
  wpAny (model X.prog X.w) X.A (assign target X.env u) (λ _ s'=>∃σ' H',Inv X pins σ' H' s'/\Q σ' H') X.xe s
def PGs (X:Cx)(ts:List Expr)(t:TGs):Prop:=
 ∀(pins:List (Addr×Obj)) (s:Shared) (σ:St) (H:Hp) (vs:List V) (us:List Value) (Q:St->Hp->Prop),Inv X pins σ H s->Vals vs us->t vs σ H Q->
  wpAny (model X.prog X.w) X.A (assignInOrder ((assignEach ts X.env).map (·.2)) us) (λ _ s'=>∃σ' H',Inv X pins σ' H' s'/\Q σ' H') X.xe s
abbrev vV:=V->V->V->Hp->(Hp->Prop)->Prop
def wu (X:Cx)(t:vV):Prop:=
 ∀(pins:List (Addr×Obj)) (s:Shared) (σ:St) (H:Hp) (o i v:V) (ov iv u:Value) (Q:Hp->Prop),Inv X pins σ H s->RelV o ov->RelV i iv->RelV v u->t o i v H Q->
  wpAny (model X.prog X.w) X.A (setItem ov iv u) (λ _ s'=>∃H',Inv X pins σ H' s'/\Q H') X.xe s
section
variable {X : Cx} {pos : Pos}
def bZ (i:Nat):TG:=λ v σ H Q=>Q (σ.set i (some v)) H
theorem aF {i:Nat}{x:Str}(hN:X.N.Nodup)(hi:X.N[i]?=some x)(hx:Loc X.env.scope x)(hf:X.fn x=true\/X.env.scope.names.lookup x=some .local:=by first|exact .inl rfl|exact .inr rfl|assumption):PG X (.Name x pos) (bZ i):=by
 intro pins s σ H v u Q I r h;exact wpAny_assign_Name (store_ok I hN hi hx r (λ s' I'=>⟨_,H,I',h⟩) hf)
def vz:TGs:=λ vs σ H Q=>vs=[]/\Q σ H
def jP (t:TG)(u:TGs):TGs:=λ vs σ H Q=>∃v r,vs=v::r/\t v σ H λ σ' H'=>u r σ' H' Q
theorem ee:PGs X [] vz:=by
 intro pins s σ H vs us Q I r h;obtain⟨e,h⟩:=h;subst e;cases r;exact assignInOrder_nil ⟨σ,H,I,h⟩
theorem bH {e:Expr}{es:List Expr}{t:TG}{u:TGs}(h1:PG X e t)(h2:PGs X es u)
  (hs:(assignEach (e::es) X.env).map (·.2)=assign e X.env::(assignEach es X.env).map (·.2):=by rfl):PGs X (e::es) (jP t u):=by
 intro pins s σ H vs us Q I r h;obtain⟨v,vr,e1,h⟩:=h;subst e1;cases r with
 |cons r rr=>
  rw [hs];refine assignInOrder_cons (thn (h1 pins s σ H _ _ _ I r h) λ _ s1 ⟨σ1,H1,I1,q1⟩=>?_);exact h2 pins s1 σ1 H1 _ _ Q I1 rr q1
def vR (K:PySem.W.Frag)(n:Nat)(t:TGs):TG:=λ v σ H Q=>∃a xs,v=.ref a/\SqT K H a xs/\xs.length=n/\t xs σ H Q
theorem gY {es:List Expr}{k:Nat}{t:TGs}{n:Nat}(hc:X.calm=true)(h:PGs X es t)
  (hn:(assignEach es X.env).length=n:=by rfl) (hst:(assignEach es X.env).findIdx? (·.1)=none:=by rfl):PG X (.Tuple es k pos) (vR X.K n t):=by
 intro pins s σ H v u Q I r hw;obtain⟨a,xs,e1,hq,hl,hw⟩:=hw;subst e1;cases r;obtain⟨its,rv,ht,hz⟩:=I.tuple hq;refine QQ.assign_Tuple_q I.hq ht (by simp [hn,<-hl,rv.length]) hst λ h' hx=>?_
 have I1:Inv X pins σ H {s with heap:=h'}:=I.kept (t':=s.toks) λ b o e=>hx b o (Nat.ne_of_lt (Heap.lt_size e)) e
 exact h pins _ σ H xs _ Q I1 (by simpa using rv) hw
def gSub (to ti:TE)(t:vV):TG:=λ v σ H Q=>to σ H λ o H1=>ti σ H1 λ i H2=>t o i v H2 λ H3=>Q σ H3
theorem fw {o i:Expr}{to ti:TE}{t:vV}(ho:PE X o to)(hi:PE X i ti)(hs:wu X t)
    (ha:∀v,assign (.Subscript o i pos) X.env v=(do
      let ov<-holding [v] (eval o X.env)
      let iv<-holding [v,ov] (eval i X.env)
      standAt pos
      holding [v,ov,iv] (setItem ov iv v)
      release [v,ov,iv] []):=by intro _;rfl):PG X (.Subscript o i pos) (gSub to ti t):=by
  intro pins s σ H v u Q I r h
  rw [ha]
  refine wpAny_bind (wpAny_holding (thn (ho pins s σ H _ I h) λ ov s1 ⟨x,H1,I1,r1,q1⟩=>?_))
  refine wpAny_bind (wpAny_holding (thn (hi pins s1 σ H1 _ I1 q1) λ iv s2 ⟨y,H2,I2,r2,q2⟩=>?_))
  refine wpAny_bind (wpAny_standAt (wpAny_bind (wpAny_holding (thn (hs pins s2 σ H2 x y v ov iv u _ I2 r1 r2 r q2) λ _ s3 ⟨H3,I3,q3⟩=>?_))))
  exact wpAny_release ⟨σ,H3,I3,q3⟩
def xf (te:TE)(g:TG):TS:=λ D σ H=>te σ H λ x H1=>g x σ H1 D.nx
theorem dX {tg e:Expr}{te:TE}{g:TG}(he:PE X e te)(hg:PG X tg g)(hs:swapsWithSole [tg] e pos.line X.env=pure false:=by rfl)(hw:swappedStores [tg] e X.env=pure none:=by rfl)
  (h1:(assignEach [tg] X.env).map (·.2)=[assign tg X.env]:=by rfl):PS X (.Assign [tg] e pos) (xf te g):=by
 intro pins s σ H D I h;refine wpAny_Assign_stores (thn (he pins s σ H _ I h) λ v s1 ⟨x,H1,I1,r1,q1⟩=>?_) hs hw;rw [h1];exact thn (hg pins s1 σ H1 x v _ I1 r1 q1) λ _ s2 q=>q
theorem aj {i:Nat}{x:Str}{e:Expr}{te:TE}{pos':Pos}(hN:X.N.Nodup)(hi:X.N[i]?=some x)(hx:Loc X.env.scope x)(he:PE X e te)(hs:swapsWith e (some (.Name x pos')) pos.line X.env=pure false:=by rfl)(hf:X.fn x=true\/X.env.scope.names.lookup x=some .local:=by first|exact .inl rfl|exact .inr rfl|assumption):
  PS X (.Assign [.Name x pos'] e pos) (xf te (bZ i)):=by
 intro pins s σ H D I h;refine wpAny_Assign_Name (thn (he pins s σ H _ I h) λ v s1 ⟨y,H1,I1,r1,q1⟩=>?_) hs;exact store_ok I1 hN hi hx r1 (λ s2 I2=>⟨_,H1,I2,q1⟩) hf
def uW (c:TT)(tb:TS):TS:=λ D σ H=>∃W:Nat->St->Hp->Prop,(∃m,W m σ H)/\∀m σ H,W m σ H->
 c σ H λ b H1=>if b=true then∃N:St->Hp->Prop,(∀σ' H',N σ' H'->∃m',m'<m/\W m' σ' H')/\tb {D with nx:=N,ct:=N,bk:=D.nx} σ H1 else D.nx σ H1
theorem bF {c:Expr}{body:List Stmt}{tc:TT}{tb:TS}(hp:PassesOwn (model X.prog X.w) X.A X.env X.xe)(hc:PT X c tc)(hb:PSs X body tb):PS X (.While c body [] pos) (uW tc tb):=by
 intro pins s σ H D I h;obtain⟨W,⟨m0,w0⟩,turn⟩:=h;refine wpAny_While (codeAny_whileLoop (λ n s'=>∃σ' H',Inv X pins σ' H' s'/\W n σ' H') ?_ m0 ⟨σ,H,I,w0⟩);rintro n s1 ⟨σ1,H1,I1,w1⟩;refine wpAny_passesOwn hp (thn (hc pins s1 σ1 H1 _ I1 (turn n σ1 H1 w1)) λ b s2 ⟨H2,I2,q2⟩=>?_);cases b with
 |true=>
  obtain⟨N,hN,q2⟩:=q2;rw [if_pos rfl];refine wpAny_passesOwn hp (thn (hb pins s2 σ1 H2 _ I2 q2) λ f s3 q3=>?_);cases f with
  |next=>
   obtain⟨σ3,H3,I3,n3⟩:=q3;obtain⟨m',hm,w3⟩:=hN σ3 H3 n3;exact⟨m',hm,σ3,H3,I3,w3⟩
  |cont=>
   obtain⟨σ3,H3,I3,n3⟩:=q3;obtain⟨m',hm,w3⟩:=hN σ3 H3 n3;exact⟨m',hm,σ3,H3,I3,w3⟩
  |brk=>exact q3
  |ret v=>exact q3
 |false=>
  rw [if_neg Bool.false_ne_true];exact wpAny_execs_nil ⟨σ1,H2,I2,q2⟩
end
structure It where
 go:Nat->Hp->Prop
 yld:Nat->Hp->V->Hp->Prop
 stop:Nat->Hp->Prop
def FpOk (X:Cx)(pins:List (Addr×Obj))(H:Hp)(b:Addr):Prop:=
 H b=none/\b≠X.env.locals/\b∉X.fs/\(b∈X.ex\/X.s₀.heap.objs.size≤b)/\(∀x c,X.env.cells.lookup x=some c->c≠b)/\∀p∈X.pn++pins,p.1≠b
theorem Inv.fpOk {X:Cx}{pins:List (Addr×Obj)}{σ:St}{H H':Hp}{s:Shared}{b:Addr}(I:Inv X pins σ H s)(hb:s.heap.objs.size≤b)(hn:H' b=none):FpOk X pins H' b:=by
 refine⟨hn,Nat.ne_of_gt (Nat.lt_of_lt_of_le I.lt hb),I.nofs hb,.inr (Nat.le_trans I.sz hb),λ x c e z=>?_,λ p hp z=>?_⟩
 ·obtain⟨v,q⟩:=I.cell x c e;exact absurd (Nat.lt_of_lt_of_le q.lt (by rw [z];exact hb)) (Nat.lt_irrefl _)
 ·exact absurd (Nat.lt_of_lt_of_le (Heap.lt_size (I.pin p hp).1) (by rw [z];exact hb)) (Nat.lt_irrefl _)
structure Turn (P:Program)(w:World)(K:PySem.W.Frag)(tg:Expr)(J:It)(fp:List Addr)(it:Addr)(tn:Nat->Heap->Prop):Prop where
 mem:it∈fp
 obj:∀i h,tn i h->∀b∈fp,∃o,h.get? b=some o/\∀v,o.data≠ .cell v
 keep:∀i h h',tn i h->(∀b∈fp,∀o,h.get? b=some o->h'.get? b=some o)->tn i h'
 item:∀(X:Cx),X.prog=P->X.w=w->X.K=K->X.calm=true->∀(i:Nat) (pins:List (Addr×Obj)) (s:Shared) (σ:St) (H:Hp) (E:Value->Shared->Prop),Inv X pins σ H s->(∀b∈fp,FpOk X pins H b)->tn i s.heap->J.go i H->
  wpAny (model P w) X.A (pyNext (.ref it)) (λ r s1=>∃u,r=some u/\
   wpAny (model P w) X.A (letOwnedTupleGo tg (.ref it) u) (λ _ s2=>∃x H',Inv X pins σ H' s2/\RelV x u/\J.yld i H x H'/\tn (i+1) s2.heap/\∀b∈fp,H' b=none) E s1) E s
 done:∀(X:Cx),X.prog=P->X.w=w->X.K=K->X.calm=true->∀(i:Nat) (pins:List (Addr×Obj)) (s:Shared) (σ:St) (H:Hp) (E:Value->Shared->Prop),Inv X pins σ H s->(∀b∈fp,FpOk X pins H b)->tn i s.heap->J.stop i H->
  wpAny (model P w) X.A (pyNext (.ref it)) (λ r s1=>r=none/\Inv X pins σ H s1) E s
 self:∀(A:Around) (i:Nat) (s:Shared) (Q:Value->Shared->Prop) (E:Value->Shared->Prop),tn i s.heap->Q (.ref it) s->wpAny (model P w) A (pyIter (.ref it)) Q E s
abbrev TI:=St->Hp->(It->Hp->Prop)->Prop
def PIE (X:Cx)(pins:List (Addr×Obj))(σ:St)(tg:Expr)(R:It->Hp->Prop)(itv:Value)(s2:Shared):Prop:=
 ∃(it:Addr) (fp:List Addr) (tn:Nat->Heap->Prop) (J:It) (H':Hp),itv=.ref it/\Inv X pins σ H' s2/\Turn X.prog X.w X.K tg J fp it tn/\tn 0 s2.heap/\(∀b∈fp,FpOk X pins H' b)/\R J H'
def PI (X:Cx)(tg iter:Expr)(wi:TI):Prop:=
 ∀(pins:List (Addr×Obj)) (s:Shared) (σ:St) (H:Hp) (R:It->Hp->Prop),Inv X pins σ H s->wi σ H R->
  wpAny (model X.prog X.w) X.A (eval iter X.env) (λ v s1=>wpAny (model X.prog X.w) X.A (pyIter v) (PIE X pins σ tg R) X.xe s1) X.xe s
theorem kO {M:Model}{A:Around}{E:Value->Shared->Prop}{s:Shared}{tg:Expr}{it:Addr}{u:Value}{o:Obj}{n:String}{vs:Array Value}{Q:Unit->Shared->Prop}(ho:s.heap.get? it=some o)(hc:o.cls=.type n)(hd:o.data=.fields vs)
  (hn: ["enumerate","zip","dict_itemiterator","dict_reverseitemiterator","odict_iterator","itertools.zip_longest","itertools.pairwise"].contains n=false) (hQ:Q () s):wpAny M A (letOwnedTupleGo tg (.ref it) u) Q E s:=by
 unfold letOwnedTupleGo;cases tg<;>first
  |exact wpAny_pure hQ
  |(cases u<;>first
    |exact wpAny_pure hQ
    |(refine wpAny_bind (wpAny_load ho ?_)
      rw [hc,hd];show wpAny M A (if(["enumerate","zip","dict_itemiterator","dict_reverseitemiterator","odict_iterator","itertools.zip_longest","itertools.pairwise"].contains n&&vs[0]?==some (rawInt _))=true then _ else _) Q E s;rw [if_neg (by intro h;rw [hn,Bool.false_and] at h;cases h)];exact wpAny_pure hQ))
def Itl (K:PySem.W.Frag)(a:Addr):It:=
 ⟨λ i H=>∃xs x,SqL K H a xs/\xs[i]?=some x,λ i H x H'=>H'=H/\∀xs,SqL K H a xs->xs[i]?=some x,λ i H=>∃xs,SqL K H a xs/\xs.length≤i⟩
def Itr (lo:Int)(n:Nat):It:=⟨λ i _=>i<n,λ i H x H'=>H'=H/\x=.int (lo+i),λ i _=>n≤i⟩
theorem pj {P:Program}{w:World}{K:PySem.W.Frag}{tg:Expr}(a it:Addr):Turn P w K tg (Itl K a) [it] it (λ i h=>h.IsListIter it a i) where
 mem:=by simp
 obj:=λ i h st b hb=>by
  have e:b=it:=by simpa using hb
  subst e;obtain⟨o,e,c,d⟩:=st;exact⟨o,e,λ v z=>by rw [d] at z;cases z⟩
 keep:=λ i h h' st k=>st.at λ o e=>k it (by simp) o e
 item:=by
  intro X hP hw hK hc i pins s σ H E I hf st hg;subst hP hw hK;obtain⟨xs,x,hq,hx⟩:=hg;obtain⟨its,rv,p,hz⟩:=I.list hq;obtain⟨u,hu,ru⟩:=rv.get hx;obtain⟨f0,f1,f2,f3,f4,f5⟩:=hf it (by simp);refine wpAny_pyNext_list_item st p.isList (x:=u) (by simpa using hu) λ h' st' sb=>?_
  have I1:Inv X pins σ H {s with heap:=h'}:=I.turned (t':=s.toks) (λ b o hb e=>(sb.2 b hb).trans e) f0 f1 f3 f4 f5;obtain⟨o,e,c,d⟩:=id st';exact⟨u,rfl,kO (s:={s with heap:=h'}) e c d (by decide) ⟨x,H,I1,ru,⟨rfl,λ ys hy=>by rw [I.list_inj hy hq];exact hx⟩,st',λ b hb=>(hf b hb).1⟩⟩
 done:=by
  intro X hP hw hK hc i pins s σ H E I hf st hg;subst hP hw hK;obtain⟨xs,hq,hx⟩:=hg;obtain⟨its,rv,p,hz⟩:=I.list hq;obtain⟨f0,f1,f2,f3,f4,f5⟩:=hf it (by simp);have hl:=rv.length;exact QQ.list_end_q I.hq st p.isList (by simp;lia) λ h' eb=>⟨rfl,I.turned (t':=s.toks) (λ b o hb e=>eb b o hb e) f0 f1 f3 f4 f5⟩
 self:=λ _ _ _ _ _ st h=>wpAny_pyIter_listiter st h
theorem mC {P:Program}{w:World}{K:PySem.W.Frag}{tg:Expr}(it:Addr)(lo:Int)(n:Nat):Turn P w K tg (Itr lo n) [it] it (λ i h=>IsRangeIter h it (lo+(i:Nat)*1) ((n:Int)-(i:Nat)) 1) where
 mem:=by simp
 obj:=λ i h st b hb=>by
  have e:b=it:=by simpa using hb
  subst e;exact⟨_,st,λ v z=>by
   have z':Data.fields _=Data.cell v:=z;cases z'⟩
 keep:=λ i h h' st k=>k it (by simp) _ st
 item:=by
  intro X hP hw hK hc i pins s σ H E I hf st hg;subst hP hw hK;obtain⟨f0,f1,f2,f3,f4,f5⟩:=hf it (by simp);refine wpAny_pyNext_range_item st (by have:i<n:=hg;lia) λ h' st1 sb=>?_
  have st':IsRangeIter h' it (lo+((i+1:Nat):Int)*1) ((n:Int)-((i+1:Nat):Int)) 1:=by
   have e1:lo+((i+1:Nat):Int)*1=lo+(i:Int)*1+1:=by lia
   have e2:(n:Int)-((i+1:Nat):Int)=(n:Int)-(i:Int)-1:=by lia
   rw [e1,e2];exact st1
  have I1:Inv X pins σ H {s with heap:=h',toks:=s.toks+1}:=I.turned (λ b o hb e=>sb.extBut b o hb e) f0 f1 f3 f4 f5;refine⟨_,rfl,kO (s:={s with heap:=h',toks:=s.toks+1}) (n:="range_iterator") st' rfl rfl (by decide) ⟨.int (lo+i),H,I1,⟨s.toks,?_⟩,⟨rfl,rfl⟩,st',λ b hb=>(hf b hb).1⟩⟩;rw [Int.mul_one]
 done:=by
  intro X hP hw hK hc i pins s σ H E I hf st hg;subst hP hw hK;obtain⟨f0,f1,f2,f3,f4,f5⟩:=hf it (by simp);exact QQ.range_end_q I.hq st (by have:n≤i:=hg;lia) λ h' eb=>⟨rfl,I.turned (t':=s.toks) (λ b o hb e=>eb b o hb e) f0 f1 f3 f4 f5⟩
 self:=λ _ _ _ _ _ st h=>wpAny_pyIter_rangeiter st h
section
variable {X : Cx} {tg : Expr}
def w4 (K:PySem.W.Frag)(tl:TE):TI:=λ σ H R=>tl σ H λ x H1=>∃a,x=.ref a/\(∃xs,SqL K H1 a xs)/\R (Itl K a) H1
theorem bf {l:Expr}{tl:TE}(hl:PE X l tl):PI X tg l (w4 X.K tl):=by
 intro pins s σ H R I h;refine thn (hl pins s σ H _ I h) λ v s1 ⟨x,H1,I1,r1,q1⟩=>?_
 obtain⟨a,e,⟨xs,hq⟩,q⟩:=q1;subst e;cases r1;obtain⟨its,rv,p,hz⟩:=I1.list hq;refine wpAny_pyIter_list p.isList ?_;refine⟨s1.heap.objs.size,[s1.heap.objs.size],_,_,H1,rfl,I1.kept (t':=s1.toks) λ b o e=>Heap.get?_push_of_some _ e,pj a _,⟨_,Heap.get?_push_size _ rfl,rfl,rfl⟩,λ b hb=>?_,q⟩;have e:b=s1.heap.objs.size:=by simpa using hb
 subst e;exact I1.fpOk (Nat.le_refl _) (I1.hok.fresh (Nat.le_refl _))
theorem ke {pins:List (Addr×Obj)}{σ:St}{H:Hp}{s:Shared}{R:It->Hp->Prop}{E:Value->Shared->Prop}{lo hi:Int}{t u v:Tok}{tk:Nat}(I:Inv X pins σ H s)(h1:-(2^62)≤lo)(h2:lo<2^62)(h3:-(2^62)≤hi)(h4:hi<2^62)
  (q:R (Itr lo (hi-lo).toNat) H):wpAny (model X.prog X.w) X.A (pyIter (.ref s.heap.objs.size)) (PIE X pins σ tg R) E {s with heap:=s.heap.push {cls:=.type "range",data:=.fields #[.int lo t,.int hi u,.int 1 v]},toks:=tk}:=by
 refine wpAny_pyIter_range (IsRange.new ..) (small_one h1 h2 h3 h4) ?_;have I1:Inv X pins σ H {s with heap:=s.heap.push {cls:=.type "range",data:=.fields #[.int lo t,.int hi u,.int 1 v]},toks:=tk}:=I.kept λ b o e=>Heap.get?_push_of_some _ e
 refine⟨(s.heap.push {cls:=.type "range",data:=.fields #[.int lo t,.int hi u,.int 1 v]}).objs.size,[(s.heap.push {cls:=.type "range",data:=.fields #[.int lo t,.int hi u,.int 1 v]}).objs.size],_,_,H,rfl,
  I1.kept (t':=tk) λ b o e=>Heap.get?_push_of_some _ e,mC _ lo (hi-lo).toNat,?_,λ b hb=>?_,q⟩
 ·have e1:lo+((0:Nat):Int)*1=lo:=by simp
  have e2:(((hi-lo).toNat:Nat):Int)-((0:Nat):Int)=Builtin.Range.rangeSize lo hi 1:=by rw [rangeSize_one];split<;>lia
  show IsRangeIter _ _ (lo+((0:Nat):Int)*1) ((((hi-lo).toNat:Nat):Int)-((0:Nat):Int)) 1;rw [e1,e2];exact Heap.get?_push_size _ rfl
 ·have e:b=(s.heap.push {cls:=.type "range",data:=.fields #[.int lo t,.int hi u,.int 1 v]}).objs.size:=by simpa using hb
  subst e;exact I1.fpOk (Nat.le_refl _) (I1.hok.fresh (Nat.le_refl _))
def wE (ta:TA):TI:=λ σ H R=>ta σ H λ vs H1=>∃j:Int,vs=[.int j]/\-(2^62)≤j/\j<2^62/\R (Itr 0 j.toNat) H1
def wT (ta:TA):TI:=λ σ H R=>ta σ H λ vs H1=>∃i j:Int,vs=[.int i,.int j]/\(-(2^62)≤i/\i<2^62/\-(2^62)≤j/\j<2^62)/\R (Itr i (j-i).toNat) H1
theorem bw {a:Expr}{ta:TA}{p pos:Pos}(hg:Gl X "range")(hm:X.mg "range"=none)(ha:PA X [a] ta)(hs:starEach [a] X.env=[(false,eval a X.env)]:=by rfl):PI X tg (.Call (.Name "range" p) [a] [] pos) (wE ta):=by
 intro pins s σ H R I h;refine Call_ (ld_blt I hg hm boot_range (PyProof.Rows.callWith_type1 (thn (ha pos pins s σ H _ I h) λ us s1 ⟨vs,H1,I1,r1,q1⟩=>?_) hs rfl));obtain⟨j,e,q1,q2,q⟩:=q1;subst e;cases r1 with
 |cons r rr=>
  cases rr;obtain⟨t,rfl⟩:=r;exact call_range_1 (ke I1 (by lia) (by lia) q1 q2 (by simpa using q))
theorem dC {a b:Expr}{ta:TA}{p pos:Pos}(hg:Gl X "range")(hm:X.mg "range"=none)(ha:PA X [a,b] ta)(hs:starEach [a,b] X.env=[(false,eval a X.env),(false,eval b X.env)]:=by rfl)(hs2:starEach [b] X.env=[(false,eval b X.env)]:=by rfl):
  PI X tg (.Call (.Name "range" p) [a,b] [] pos) (wT ta):=by
 intro pins s σ H R I h;refine Call_ (ld_blt I hg hm boot_range (PyProof.Rows.callWith_type1 (thn (ha pos pins s σ H _ I h) λ us s1 ⟨vs,H1,I1,r1,q1⟩=>?_) (by rw [hs,hs2]) (by rw [hs2];rfl)));obtain⟨i,j,e,⟨q1,q2,q3,q4⟩,q⟩:=q1;subst e;cases r1 with
 |cons r rr=>
  cases rr with
  |cons r' rr=>
   cases rr;obtain⟨t,rfl⟩:=r;obtain⟨t',rfl⟩:=r';exact call_range_2 (ke I1 q1 q2 q3 q4 q)
def tFor (wi:TI)(g:TG)(tb:TS):TS:=λ D σ H=>wi σ H λ J H1=>∃W:Nat->Nat->St->Hp->Prop,(∃m,W 0 m σ H1)/\∀i m σ H,W i m σ H->
 (J.stop i H/\D.nx σ H)\/(J.go i H/\∃N:St->Hp->Prop,(∀σ' H',N σ' H'->∃m',m'<m/\W (i+1) m' σ' H')/\∀x H',J.yld i H x H'->g x σ H' λ σ2 H2=>tb {D with nx:=N,ct:=N,bk:=D.nx} σ2 H2)
def i8 (fp:List Addr)(h:Heap):List (Addr×Obj):=fp.filterMap λ b=>(h.get? b).map λ o=>(b,o)
theorem aX {fp:List Addr}{h:Heap}{b:Addr}{o:Obj}(hb:b∈fp)(e:h.get? b=some o):(b,o)∈i8 fp h:=List.mem_filterMap.mpr ⟨b,hb,by rw [e];rfl⟩
theorem oY {fp:List Addr}{h:Heap}{p:Addr×Obj}(hp:p∈i8 fp h):p.1∈fp/\h.get? p.1=some p.2:=by
 obtain⟨b,hb,e⟩:=List.mem_filterMap.mp hp;cases q:h.get? b with
 |none=>rw [q] at e;cases e
 |some o=>
  rw [q] at e;have e':(b,o)=p:=Option.some.inj e;subst e';exact⟨hb,q⟩
theorem Inv.pinned {pins:List (Addr×Obj)}{σ:St}{H:Hp}{s:Shared}{fp:List Addr}(I:Inv X pins σ H s)(hf:∀b∈fp,FpOk X pins H b)(ho:∀b∈fp,∃o,s.heap.get? b=some o/\∀v,o.data≠ .cell v):Inv X (pins++i8 fp s.heap) σ H s:=
 I.pins_of λ p hp=>(List.mem_append.mp hp).elim (λ z=>I.pin p (List.mem_append_right _ z)) λ z=>by
  obtain⟨hb,e⟩:=oY z;obtain⟨f0,f1,f2,_⟩:=hf p.1 hb;obtain⟨o,e',d⟩:=ho p.1 hb;rw [e] at e';cases e';exact⟨e,f0,f1,f2,d⟩
theorem Inv.unpinned {pins pl:List (Addr×Obj)}{σ:St}{H:Hp}{s:Shared}(I:Inv X (pins++pl) σ H s):Inv X pins σ H s:=I.pins_of λ p hp=>I.pin p (List.mem_append_right _ (List.mem_append_left _ hp))
theorem aS {iter:Expr}{body:List Stmt}{wi:TI}{g:TG}{tb:TS}{pos:Pos}(hp:PassesOwn (model X.prog X.w) X.A X.env X.xe)(hc:X.calm=true)(hi:PI X tg iter wi)(hg:PG X tg g)(hb:PSs X body tb)
  (hs:∀x,foldedSetIterable iter X.env x=pure x:=by intro _;rfl):PS X (.For tg iter body [] pos) (tFor wi g tb):=by
 intro pins s σ H D I h;refine wpAny_For (thn (hi pins s σ H _ I h) λ v s1 h1=>thn h1 λ itv s2 h2=>?_) hs;obtain⟨it,fp,tn,J,H2,e,I2,T,st2,f2,W,⟨m0,w0⟩,turn⟩:=h2;subst e;have stat:∀{H':Hp},(∀b∈fp,H' b=none)->∀b∈fp,FpOk X pins H' b:=λ hn b hb=>⟨hn b hb,(f2 b hb).2⟩
 refine codeAny_forLoop_any (λ n s'=>∃i σ' H',Inv X pins σ' H' s'/\tn i s'.heap/\(∀b∈fp,H' b=none)/\W i n σ' H') ?_ m0 ⟨0,σ,H2,I2,st2,λ b hb=>(f2 b hb).1,w0⟩;rintro n s3 ⟨i,σ3,H3,I3,st3,fr3,w3⟩;rcases turn i n σ3 H3 w3 with⟨stop,qn⟩|⟨go,N,hN,step⟩
 ·refine wpAny_passesOwn hp (thn (T.done X rfl rfl rfl hc i pins s3 σ3 H3 X.xe I3 (stat fr3) st3 stop) λ r s4 ⟨hr,I4⟩=>?_);subst hr;exact wpAny_execs_nil ⟨σ3,H3,I4,qn⟩
 ·refine wpAny_passesOwn hp (thn (T.item X rfl rfl rfl hc i pins s3 σ3 H3 X.xe I3 (stat fr3) st3 go) λ r s4 ⟨u,hr,h4⟩=>?_);subst hr;refine wpAny_passesOwn hp (thn h4 λ _ s5 ⟨x,H5,I5,r5,y5,st5,fr5⟩=>?_);have I5':=I5.pinned (stat fr5) (T.obj _ _ st5);refine wpAny_passesOwn hp (thn (hg _ s5 σ3 H5 x u _ I5' r5 (step x H5 y5)) λ _ s6 ⟨σ6,H6,I6,q6⟩=>?_);refine wpAny_passesOwn hp (thn (hb _ s6 σ6 H6 _ I6 q6) λ f s7 q7=>?_);have again:∀{σ7:St} {H7:Hp},Inv X (pins++i8 fp s5.heap) σ7 H7 s7->N σ7 H7->∃m,m<n/\∃i σ' H',Inv X pins σ' H' s7/\tn i s7.heap/\(∀b∈fp,H' b=none)/\W i m σ' H':=λ {σ7 H7} I7 n7=>by
   obtain⟨m',hm,w7⟩:=hN σ7 H7 n7;refine⟨m',hm,i+1,σ7,H7,I7.unpinned,T.keep _ _ _ st5 λ b hb o e=>(I7.pin (b,o) (List.mem_append_right _ (List.mem_append_right _ (aX hb e)))).1,λ b hb=>?_,w7⟩;obtain⟨o,e,d⟩:=T.obj _ _ st5 b hb;exact(I7.pin (b,o) (List.mem_append_right _ (List.mem_append_right _ (aX hb e)))).2.1
  cases f with
  |next=>obtain⟨σ7,H7,I7,n7⟩:=q7;exact again I7 n7
  |cont=>obtain⟨σ7,H7,I7,n7⟩:=q7;exact again I7 n7
  |brk=>obtain⟨σ7,H7,I7,q7⟩:=q7;exact⟨σ7,H7,I7.unpinned,q7⟩
  |ret v=>obtain⟨x7,σ7,H7,I7,r7,q7⟩:=q7;exact⟨x7,σ7,H7,I7.unpinned,r7,q7⟩
end
theorem bE {K:PySem.W.Frag}{a:Addr}{xs:List V}{g:TG}{tb:TS}{D:Ends}{σ:St}{H:Hp}(Pv:Nat->St->Hp->Prop)(h0:Pv 0 σ H)(hl:∀i σ H,i≤xs.length->Pv i σ H->SqL K H a xs)
  (hs:∀i x σ H,xs[i]?=some x->Pv i σ H->g x σ H λ σ2 H2=>tb {D with nx:=Pv (i+1),ct:=Pv (i+1),bk:=D.nx} σ2 H2) (hd:∀σ H,Pv xs.length σ H->D.nx σ H):
  ∃W:Nat->Nat->St->Hp->Prop,(∃m,W 0 m σ H)/\∀i m σ H,W i m σ H->
   ((Itl K a).stop i H/\D.nx σ H)\/((Itl K a).go i H/\∃N:St->Hp->Prop,(∀σ' H',N σ' H'->∃m',m'<m/\W (i+1) m' σ' H')/\∀x H',(Itl K a).yld i H x H'->g x σ H' λ σ2 H2=>tb {D with nx:=N,ct:=N,bk:=D.nx} σ2 H2):=by
 refine⟨λ i m σ H=>m=xs.length-i/\i≤xs.length/\Pv i σ H,⟨xs.length,by simp,Nat.zero_le _,h0⟩,?_⟩;rintro i m σ H ⟨rfl,hi,p⟩;have q:=hl i σ H hi p;by_cases hlt:i<xs.length
 ·refine .inr ⟨⟨xs,xs[i],q,by simp [hlt]⟩,Pv (i+1),λ σ' H' p'=>⟨xs.length-(i+1),by lia,rfl,hlt,p'⟩,λ x H' y=>?_⟩;obtain⟨e,y⟩:=y;subst e;exact hs i x σ _ (y xs q) p
 ·have e:i=xs.length:=by lia
  subst e;exact .inl ⟨⟨xs,q,Nat.le_refl _⟩,hd σ H p⟩
theorem bc {lo:Int}{n:Nat}{g:TG}{tb:TS}{D:Ends}{σ:St}{H:Hp}(Pv:Nat->St->Hp->Prop)(h0:Pv 0 σ H)
  (hs:∀i σ H,i<n->Pv i σ H->g (.int (lo+i)) σ H λ σ2 H2=>tb {D with nx:=Pv (i+1),ct:=Pv (i+1),bk:=D.nx} σ2 H2) (hd:∀σ H,Pv n σ H->D.nx σ H):
  ∃W:Nat->Nat->St->Hp->Prop,(∃m,W 0 m σ H)/\∀i m σ H,W i m σ H->
   ((Itr lo n).stop i H/\D.nx σ H)\/((Itr lo n).go i H/\∃N:St->Hp->Prop,(∀σ' H',N σ' H'->∃m',m'<m/\W (i+1) m' σ' H')/\∀x H',(Itr lo n).yld i H x H'->g x σ H' λ σ2 H2=>tb {D with nx:=N,ct:=N,bk:=D.nx} σ2 H2):=by
 refine⟨λ i m σ H=>m=n-i/\i≤n/\Pv i σ H,⟨n,by simp,Nat.zero_le _,h0⟩,?_⟩;rintro i m σ H ⟨rfl,hi,p⟩;by_cases hlt:i<n
 ·refine .inr ⟨hlt,Pv (i+1),λ σ' H' p'=>⟨n-(i+1),by lia,rfl,hlt,p'⟩,λ x H' y=>?_⟩;obtain⟨e,y⟩:=y;subst e y;exact hs i σ _ hlt p
 ·have e:i=n:=by lia
  subst e;exact .inl ⟨Nat.le_refl _,hd σ H p⟩
abbrev R2:=V->V->Hp->VK->Prop
def OpR (X:Cx)(f:Value->Value->Sem Value)(r:R2):Prop:=
 ∀(pins:List (Addr×Obj)) (s:Shared) (σ:St) (H:Hp) (x y:V) (v u:Value) (Q:VK),Inv X pins σ H s->RelV x v->RelV y u->r x y H Q->
  wpAny (model X.prog X.w) X.A (f v u) (EP X pins σ Q) X.xe s
def UnR (X:Cx)(f:Value->Sem Value)(r:V->Hp->VK->Prop):Prop:=
 ∀(pins:List (Addr×Obj)) (s:Shared) (σ:St) (H:Hp) (x:V) (v:Value) (Q:VK),Inv X pins σ H s->RelV x v->r x H Q->
  wpAny (model X.prog X.w) X.A (f v) (EP X pins σ Q) X.xe s
def CallR (X:Cx)(f:Value)(r:List V->Hp->VK->Prop):Prop:=
 ∀(pins:List (Addr×Obj)) (s:Shared) (σ:St) (H:Hp) (xs:List V) (us:List Value) (Q:VK),Inv X pins σ H s->Vals xs us->r xs H Q->
  wpAny (model X.prog X.w) X.A (call f us) (EP X pins σ Q) X.xe s
def tOp (r:R2)(ta tb:TE):TE:=λ σ H Q=>ta σ H λ x H1=>tb σ H1 λ y H2=>r x y H2 Q
def tUn (r:V->Hp->VK->Prop)(ta:TE):TE:=λ σ H Q=>ta σ H λ x H1=>r x H1 Q
def rI (C:Int->Int->Prop)(g:Int->Int->V):R2:=λ x y H Q=>∃i j,x=.int i/\y=.int j/\C i j/\Q (g i j) H
def rI0 (g:Int->Int->V):R2:=λ x y H Q=>∃i j,x=.int i/\y=.int j/\Q (g i j) H
def rU (g:Int->V):V->Hp->VK->Prop:=λ x H Q=>∃i,x=.int i/\Q (g i) H
section
variable {X : Cx} {a b c : Expr} {ta tb tc : TE} {pos : Pos}
theorem binT (ha:PE X a ta)(hb:PE X b tb){pins:List (Addr×Obj)}{s:Shared}{σ:St}{H:Hp}{R:V->V->Hp->Prop}(I:Inv X pins σ H s)
  (h:ta σ H λ x H1=>tb σ H1 λ y H2=>R x y H2) {Q:Value->Shared->Prop} {f:Value->Value->Sem Value}
  (hf:∀v u s2 x y H2,Inv X pins σ H2 s2->RelV x v->RelV y u->R x y H2->wpAny (model X.prog X.w) X.A (f v u) Q X.xe s2):
  wpAny (model X.prog X.w) X.A (eval a X.env) (λ v s₁=>wpAny (model X.prog X.w) X.A (eval b X.env) (λ u s₂=>wpAny (model X.prog X.w) X.A (f v u) Q X.xe s₂) X.xe s₁) X.xe s:=by
 refine thn (ha pins s σ H _ I h) λ v s1 ⟨x,H1,I1,r1,q1⟩=>?_
 refine thn (hb pins s1 σ H1 _ I1 q1) λ u s2 ⟨y,H2,I2,r2,q2⟩=>?_
 exact hf v u s2 x y H2 I2 r1 r2 q2
theorem ai {op:Operator}{r:R2}(ho:OpR X (binaryOp op) r)(ha:PE X a ta)(hb:PE X b tb):PE X (.BinOp a op b pos) (tOp r ta tb):=by
 intro pins s σ H Q I h;exact wpAny_BinOp (binT ha hb I h λ v u s2 x y H2 I2 rx ry q=>ho pins s2 σ H2 x y v u Q I2 rx ry q)
theorem uP {op:UnaryOp}{r:V->Hp->VK->Prop}(ho:UnR X (unaryOp op) r)(ha:PE X a ta):PE X (.UnaryOp op a pos) (tUn r ta):=by
 intro pins s σ H Q I h;exact UnaryOp_ (thn (ha pins s σ H _ I h) λ v s1 ⟨x,H1,I1,r1,q1⟩=>ho pins s1 σ H1 x v Q I1 r1 q1)
theorem opI {f:Value->Value->Sem Value}{C:Int->Int->Prop}{g:Int->Int->Int}
  (rule:∀(i j:Int) (t u:Tok) (s:Shared) (Q:Value->Shared->Prop) (E:Value->Shared->Prop),C i j->Q (.int (g i j) s.toks) {s with toks:=s.toks+1}->wpAny (model X.prog X.w) X.A (f (.int i t) (.int j u)) Q E s):
  OpR X f (rI C λ i j=>.int (g i j)):=by
 intro pins s σ H x y v u Q I rx ry h;obtain⟨i,j,rfl,rfl,hc,q⟩:=h;obtain⟨t,rfl⟩:=rx;obtain⟨t',rfl⟩:=ry;exact rule i j t t' s _ _ hc ⟨.int (g i j),H,I.tok _,⟨_,rfl⟩,q⟩
theorem tF {f:Value->Value->Sem Value}{g:Int->Int->Int}
  (rule:∀(i j:Int) (t u:Tok) (s:Shared) (Q:Value->Shared->Prop) (E:Value->Shared->Prop),Q (.int (g i j) s.toks) {s with toks:=s.toks+1}->wpAny (model X.prog X.w) X.A (f (.int i t) (.int j u)) Q E s):
  OpR X f (rI0 λ i j=>.int (g i j)):=by
 intro pins s σ H x y v u Q I rx ry h;obtain⟨i,j,rfl,rfl,q⟩:=h;obtain⟨t,rfl⟩:=rx;obtain⟨t',rfl⟩:=ry;exact rule i j t t' s _ _ ⟨.int (g i j),H,I.tok _,⟨_,rfl⟩,q⟩
theorem sr {f:Value->Value->Sem Value}{g:Int->Int->Bool}
  (rule:∀(i j:Int) (t u:Tok) (s:Shared) (Q:Value->Shared->Prop) (E:Value->Shared->Prop),Q (.bool (g i j)) s->wpAny (model X.prog X.w) X.A (f (.int i t) (.int j u)) Q E s):
  OpR X f (rI0 λ i j=>.bl (g i j)):=by
 intro pins s σ H x y v u Q I rx ry h;obtain⟨i,j,rfl,rfl,q⟩:=h;obtain⟨t,rfl⟩:=rx;obtain⟨t',rfl⟩:=ry;exact rule i j t t' s _ _ ⟨.bl (g i j),H,I,rfl,q⟩
def xB (i j:Int):Prop:=0<j/\j<1073741824
def wN (i j:Int):Prop:=0≤j/\j≤1000000/\i.natAbs<2^64
def CMul (i j:Int):Prop:=(-(2^64)<i/\i<2^64)\/(-(2^64)<j/\j<2^64)
theorem CMul.ok {i j:Int}(h:CMul i j):IntMulOk i j:=by
 rcases h with⟨h1,h2⟩|⟨h1,h2⟩
 ·exact .of_left (intBits_le_64 h1 h2)
 ·exact .of_right (intBits_le_64 h1 h2)
theorem lL (k:Nat):(0:Int)≤2^k:=by
 rw [two_pow_cast];exact Int.natCast_nonneg _
theorem aA:OpR X (binaryOp .Add) (rI0 λ i j=>.int (i+j)):=tF λ _ _ _ _ _ _ _ q=>add_int q
theorem aY:OpR X (binaryOp .Sub) (rI0 λ i j=>.int (i-j)):=tF λ _ _ _ _ _ _ _ q=>sub_int q
theorem cy:OpR X (binaryOp .Mult) (rI CMul λ i j=>.int (i*j)):=opI λ _ _ _ _ _ _ _ hc q=>mul_int q hc.ok
theorem a8:OpR X (binaryOp .FloorDiv) (rI xB λ i j=>.int (i/j)):=opI λ i j _ _ _ _ _ hc q=>by
 have h1:(0:Int)<j:=hc.1;have h2:j<1073741824:=hc.2;exact floordiv_int (by lia) (by rw [Int.fdiv_eq_ediv_of_nonneg i (by lia)];exact q) (.inl (PyProof.noPylong_small (by lia)))
theorem aQ:OpR X (binaryOp .Mod) (rI (λ _ j=>0<j) λ i j=>.int (i%j)):=opI λ i j _ _ _ _ _ hc q=>by
 have h1:(0:Int)<j:=hc;exact mod_int' (by lia) (by rw [Int.fmod_eq_emod_of_nonneg i (by lia)];exact q)
theorem cQ:OpR X (binaryOp .LShift) (rI wN λ i j=>.int (i*2^j.toNat)):=opI λ _ _ _ _ _ _ _ hc q=>lshift_int_small hc.1 hc.2.1 hc.2.2 q
theorem li:OpR X (binaryOp .RShift) (rI (λ _ j=>0≤j) λ i j=>.int (i/2^j.toNat)):=opI λ i j _ _ _ _ _ hc q=>
 rshift_int hc (by rw [Int.fdiv_eq_ediv_of_nonneg i (lL _)];exact q)
theorem qY:OpR X (binaryOp .BitAnd) (rI0 λ i j=>.int (Builtin.bitAnd i j)):=tF λ _ _ _ _ _ _ _ q=>and_int q
theorem rL:OpR X (binaryOp .BitOr) (rI0 λ i j=>.int (Builtin.bitOr i j)):=tF λ _ _ _ _ _ _ _ q=>or_int q
theorem unI {f:Value->Sem Value}{g:Int->Int}
  (rule:∀(i:Int) (t:Tok) (s:Shared) (Q:Value->Shared->Prop) (E:Value->Shared->Prop),Q (.int (g i) s.toks) {s with toks:=s.toks+1}->wpAny (model X.prog X.w) X.A (f (.int i t)) Q E s):
  UnR X f (rU λ i=>.int (g i)):=by
 intro pins s σ H x v Q I rx h;obtain⟨i,rfl,q⟩:=h;obtain⟨t,rfl⟩:=rx;exact rule i t s _ _ ⟨.int (g i),H,I.tok _,⟨_,rfl⟩,q⟩
theorem rZ:UnR X (unaryOp .USub) (rU λ i=>.int (-i)):=unI λ _ _ _ _ _ q=>neg_int q
end
def wA:V->V->Bool
 | .non,.non=>true| .non,.int _=>true| .int _,.non=>true| .non,.bl _=>true| .bl _,.non=>true| .non,.str _=>true| .str _,.non=>true
 | .int _,.int _=>true| .bl _,.bl _=>true| .str _,.str _=>true| .byt _,.byt _=>true
 | .int _,.str _=>true| .str _,.int _=>true| .bl _,.str _=>true| .str _,.bl _=>true
 |_,_=>false
def rEq:R2:=λ x y H Q=>wA x y=true/\Q (.bl (decide (x=y))) H
def rNe:R2:=λ x y H Q=>wA x y=true/\Q (.bl (!decide (x=y))) H
theorem oi {i j:Int}:decide (V.int i=V.int j)=(i==j):=by
 rw [Bool.eq_iff_iff];simp
theorem pK {i j:Bool}:decide (V.bl i=V.bl j)=(i==j):=by
 rw [Bool.eq_iff_iff];simp
theorem nO {i j:Str}:decide (V.str i=V.str j)=(i==j):=by
 rw [Bool.eq_iff_iff];simp
theorem om {i j:Array UInt8}:decide (V.byt i=V.byt j)=(i.toList==j.toList):=by
 rw [Bool.eq_iff_iff];cases i;cases j;simp
section
variable {X : Cx} {a b c : Expr} {ta tb tc : TE} {pos : Pos}
theorem aP {pins:List (Addr×Obj)}{σ:St}{H:Hp}{s:Shared}{Q:VK}{k k':Bool}(I:Inv X pins σ H s)(q:Q (.bl k) H)(e:k=k'):EP X pins σ Q (.bool k') s:=by
 subst e;exact⟨.bl k,H,I,rfl,q⟩
theorem bh:OpR X (compareOp .Eq) rEq:=by
 intro pins s σ H x y v u Q I rx ry h;obtain⟨hs,q⟩:=h;cases x with
 |non=>
  cases rx;cases y with
  |non=>cases ry;exact PySem.EqNone.eq_none_none (aP I q (by simp))
  |bl j=>cases ry;exact PySem.EqNone.eq_none_bool (aP I q (by simp))
  |int j=>obtain⟨t',rfl⟩:=ry;exact PySem.EqNone.eq_none_int (aP I q (by simp))
  |str j=>obtain⟨t',rfl⟩:=ry;exact PySem.EqNone.eq_none_str (aP I q (by simp))
  |_=>exact absurd (show false=true from hs) Bool.false_ne_true
 |bl i=>
  cases rx;cases y with
  |non=>cases ry;exact PySem.EqNone.eq_bool_none (aP I q (by simp))
  |bl j=>cases ry;exact eq_bool (aP I q pK)
  |str j=>obtain⟨t',rfl⟩:=ry;exact PySem.EqMixed.eq_bool_str (aP I q (by simp))
  |_=>exact absurd (show false=true from hs) Bool.false_ne_true
 |int i=>
  obtain⟨t,rfl⟩:=rx;cases y with
  |non=>cases ry;exact PySem.EqNone.eq_int_none (aP I q (by simp))
  |int j=>obtain⟨t',rfl⟩:=ry;exact eq_int (aP I q oi)
  |str j=>obtain⟨t',rfl⟩:=ry;exact PySem.EqMixed.eq_int_str (aP I q (by simp))
  |_=>exact absurd (show false=true from hs) Bool.false_ne_true
 |str i=>
  obtain⟨t,rfl⟩:=rx;cases y with
  |non=>cases ry;exact PySem.EqNone.eq_str_none (aP I q (by simp))
  |bl j=>cases ry;exact PySem.EqMixed.eq_str_bool (aP I q (by simp))
  |int j=>obtain⟨t',rfl⟩:=ry;exact PySem.EqMixed.eq_str_int (aP I q (by simp))
  |str j=>obtain⟨t',rfl⟩:=ry;exact eq_str (aP I q nO)
  |_=>exact absurd (show false=true from hs) Bool.false_ne_true
 |byt i=>
  obtain⟨t,rfl⟩:=rx;cases y with
  |byt j=>obtain⟨t',rfl⟩:=ry;exact PySem.W.eq_bytes (aP I q om)
  |_=>exact absurd (show false=true from hs) Bool.false_ne_true
 |_=>cases y<;>exact absurd (show false=true from hs) Bool.false_ne_true
theorem og:OpR X (compareOp .NotEq) rNe:=by
 intro pins s σ H x y v u Q I rx ry h;obtain⟨hs,q⟩:=h;cases x with
 |non=>
  cases rx;cases y with
  |non=>cases ry;exact PySem.EqNone.ne_none_none (aP I q (by simp))
  |bl j=>cases ry;exact PySem.EqNone.ne_none_bool (aP I q (by simp))
  |int j=>obtain⟨t',rfl⟩:=ry;exact PySem.EqNone.ne_none_int (aP I q (by simp))
  |str j=>obtain⟨t',rfl⟩:=ry;exact PySem.EqNone.ne_none_str (aP I q (by simp))
  |_=>exact absurd (show false=true from hs) Bool.false_ne_true
 |bl i=>
  cases rx;cases y with
  |non=>cases ry;exact PySem.EqNone.ne_bool_none (aP I q (by simp))
  |bl j=>cases ry;exact ne_bool (aP I q (congrArg not pK))
  |str j=>obtain⟨t',rfl⟩:=ry;exact PySem.EqMixed.ne_bool_str (aP I q (by simp))
  |_=>exact absurd (show false=true from hs) Bool.false_ne_true
 |int i=>
  obtain⟨t,rfl⟩:=rx;cases y with
  |non=>cases ry;exact PySem.EqNone.ne_int_none (aP I q (by simp))
  |int j=>obtain⟨t',rfl⟩:=ry;exact ne_int (aP I q (congrArg not oi))
  |str j=>obtain⟨t',rfl⟩:=ry;exact PySem.EqMixed.ne_int_str (aP I q (by simp))
  |_=>exact absurd (show false=true from hs) Bool.false_ne_true
 |str i=>
  obtain⟨t,rfl⟩:=rx;cases y with
  |non=>cases ry;exact PySem.EqNone.ne_str_none (aP I q (by simp))
  |bl j=>cases ry;exact PySem.EqMixed.ne_str_bool (aP I q (by simp))
  |int j=>obtain⟨t',rfl⟩:=ry;exact PySem.EqMixed.ne_str_int (aP I q (by simp))
  |str j=>obtain⟨t',rfl⟩:=ry;exact ne_str (aP I q (congrArg not nO))
  |_=>exact absurd (show false=true from hs) Bool.false_ne_true
 |byt i=>
  obtain⟨t,rfl⟩:=rx;cases y with
  |byt j=>obtain⟨t',rfl⟩:=ry;exact PySem.W.ne_bytes (aP I q (congrArg not om))
  |_=>exact absurd (show false=true from hs) Bool.false_ne_true
 |_=>cases y<;>exact absurd (show false=true from hs) Bool.false_ne_true
theorem df:OpR X (compareOp .Lt) (rI0 λ i j=>.bl (decide (i<j))):=sr λ _ _ _ _ _ _ _ q=>lt_int q
theorem kG:OpR X (compareOp .LtE) (rI0 λ i j=>.bl (decide (i≤j))):=sr λ _ _ _ _ _ _ _ q=>le_int q
theorem cz:OpR X (compareOp .Gt) (rI0 λ i j=>.bl (decide (j<i))):=sr λ _ _ _ _ _ _ _ q=>gt_int q
theorem rm:OpR X (compareOp .GtE) (rI0 λ i j=>.bl (decide (j≤i))):=sr λ _ _ _ _ _ _ _ q=>ge_int q
theorem iW:OpR X (compareOp .Is) (λ x y H Q=>y=.non/\Q (.bl (decide (x=.non))) H):=by
 intro pins s σ H x y v u Q I rx ry h;obtain⟨rfl,q⟩:=h;cases ry;refine is_none_gen (aP I q ?_);cases x<;>first
  |(cases rx;rfl)
  |(obtain⟨t,rfl⟩:=rx;rfl)
theorem tG:OpR X (compareOp .IsNot) (λ x y H Q=>y=.non/\Q (.bl (!decide (x=.non))) H):=by
 intro pins s σ H x y v u Q I rx ry h;obtain⟨rfl,q⟩:=h;cases ry;refine isnot_none_gen (aP I q ?_);cases x<;>first
  |(cases rx;rfl)
  |(obtain⟨t,rfl⟩:=rx;rfl)
theorem OpR.or {f:Value->Value->Sem Value}{r r':R2}(h:OpR X f r)(h':OpR X f r'):OpR X f (λ x y H Q=>r x y H Q\/r' x y H Q):=by
 intro pins s σ H x y v u Q I rx ry q;rcases q with q|q
 ·exact h pins s σ H x y v u Q I rx ry q
 ·exact h' pins s σ H x y v u Q I rx ry q
theorem ax (b:Expr){op:CmpOp}(h:op≠ .In:=by decide)(h2:op≠ .NotIn:=by decide):behindInMarks op b=false:=by
 have e1:(op==CmpOp.In)=false:=by cases op<;>first|rfl|exact absurd rfl h
 have e2:(op==CmpOp.NotIn)=false:=by cases op<;>first|rfl|exact absurd rfl h2
 cases b<;>simp [behindInMarks,e1,e2]
theorem dJ {op:CmpOp}{r:R2}(ho:OpR X (compareOp op) r)(ha:PE X a ta)(hb:PE X b tb)(hm:behindInMarks op b=false):PE X (.Compare a [op] [b] pos) (tOp r ta tb):=by
 intro pins s σ H Q I h;exact wpAny_Compare1 (binT ha hb I h λ v u s2 x y H2 I2 rx ry q=>ho pins s2 σ H2 x y v u Q I2 rx ry q) hm
def jF (t:TE):TT:=λ σ H Q=>t σ H λ x H'=>∃k,x=.bl k/\Q k H'
theorem ar {op:CmpOp}{r:R2}(ho:OpR X (compareOp op) r)(ha:PE X a ta)(hb:PE X b tb)(hm:behindInMarks op b=false):PT X (.Compare a [op] [b] pos) (jF (tOp r ta tb)):=by
 intro pins s σ H Q I h;refine wpAny_isTrue_Compare1 (thn (ha pins s σ H _ I h) λ v s1 ⟨x,H1,I1,r1,q1⟩=>thn (hb pins s1 σ H1 _ I1 q1) λ u s2 ⟨y,H2,I2,r2,q2⟩=>
  thn (ho pins s2 σ H2 x y v u _ I2 r1 r2 q2) λ c s3 ⟨z,H3,I3,r3,k,e,q3⟩=>?_) hm
 subst e;cases r3;exact wpAny_truthy_bool ⟨H3,I3,q3⟩
def vI (r r':R2)(ta tb tc:TE):TE:=λ σ H Q=>ta σ H λ x H1=>tb σ H1 λ y H2=>r x y H2 λ z H3=>∃k,z=.bl k/\
 (if k=true then tc σ H3 λ w' H4=>r' y w' H4 Q else Q (.bl false) H3)
theorem kE {op op':CmpOp}{r r':R2}(ho:OpR X (compareOp op) r)(ho':OpR X (compareOp op') r')(ha:PE X a ta)(hb:PE X b tb)(hc:PE X c tc)
  (hm:lastMarks [op,op'] [b,c]=false:=by with_unfolding_all rfl):PE X (.Compare a [op,op'] [b,c] pos) (vI r r' ta tb tc):=by
 intro pins s σ H Q I h;refine Compare_chain (thn (ha pins s σ H _ I h) λ v s1 ⟨x,H1,I1,r1,q1⟩=>chain_link (thn (hb pins s1 σ H1 _ I1 q1) λ u s2 ⟨y,H2,I2,r2,q2⟩=>
  thn (ho pins s2 σ H2 x y v u _ I2 r1 r2 q2) λ d s3 ⟨z,H3,I3,r3,k,e,q3⟩=>?_)) hm
 subst e;cases r3;refine wpAny_truthy_bool ?_;cases k with
 |false=>exact ite_ff ⟨.bl false,H3,I3,rfl,q3⟩
 |true=>exact ite_tt (chain_last (thn (hc pins s3 σ H3 _ I3 q3) λ w' s4 ⟨z',H4,I4,r4,q4⟩=>ho' pins s4 σ H4 y z' u w' Q I4 r2 r4 q4))
theorem fg:(sizeLine:Nat)<2^63:=by rw [sizeLine_eq];decide
theorem cH:OpR X (binaryOp .Add) (λ x y H Q=>∃i j,x=.str i/\y=.str j/\i.length+j.length≤sizeLine/\Q (.str (i++j)) H):=by
 intro pins s σ H x y v u Q I rx ry h;obtain⟨i,j,rfl,rfl,hz,q⟩:=h;obtain⟨t,rfl⟩:=rx;obtain⟨t',rfl⟩:=ry;exact add_str (λ t' tk=>⟨.str (i++j),H,I.tok _,⟨_,rfl⟩,q⟩) hz
theorem eA {x:V}{us:List Value}(r:Vals [x] us):∃u,us=[u]/\RelV x u:=by
 cases r with
 |cons r1 r2=>cases r2;exact⟨_,rfl,r1⟩
theorem ni {x y:V}{us:List Value}(r:Vals [x,y] us):∃u w',us=[u,w']/\RelV x u/\RelV y w':=by
 cases r with
 |cons r1 r2=>
  cases r2 with
  |cons r3 r4=>cases r4;exact⟨_,_,rfl,r1,r3⟩
theorem io (hc:X.A.handled=none):CallR X (.builtin "max") (λ xs H Q=>∃i j,xs=[.int i,.int j]/\Q (.int (if j>i then j else i)) H):=by
 intro pins s σ H xs us Q I r h;obtain⟨i,j,rfl,q⟩:=h;obtain⟨u,w',rfl,⟨t,rfl⟩,⟨t',rfl⟩⟩:=ni r;refine max_two_ints hc λ h' tk k=>⟨_,H,I.kept k,?_,q⟩
 by_cases hj:j>i
 ·rw [if_pos hj,if_pos hj];exact⟨_,rfl⟩
 ·rw [if_neg hj,if_neg hj];exact⟨_,rfl⟩
theorem cC (hc:X.A.handled=none):CallR X (.builtin "min") (λ xs H Q=>∃i j,xs=[.int i,.int j]/\Q (.int (if j<i then j else i)) H):=by
 intro pins s σ H xs us Q I r h;obtain⟨i,j,rfl,q⟩:=h;obtain⟨u,w',rfl,⟨t,rfl⟩,⟨t',rfl⟩⟩:=ni r;refine min_two_ints hc λ h' tk k=>⟨_,H,I.kept k,?_,q⟩
 by_cases hj:j<i
 ·rw [if_pos hj,if_pos hj];exact⟨_,rfl⟩
 ·rw [if_neg hj,if_neg hj];exact⟨_,rfl⟩
theorem oR:CallR X (.type "int") (λ xs H Q=>(∃i,xs=[.int i]/\Q (.int i) H)\/∃k,xs=[.bl k]/\Q (.int (if k then 1 else 0)) H):=by
 intro pins s σ H xs us Q I r h;rcases h with⟨i,rfl,q⟩|⟨k,rfl,q⟩
 ·obtain⟨u,rfl,t,rfl⟩:=eA r;exact call_int_int ⟨.int i,H,I,⟨_,rfl⟩,q⟩
 ·obtain⟨u,rfl,r1⟩:=eA r;cases r1;exact call_int_bool ⟨.int (if k then 1 else 0),H,I.tok _,⟨_,rfl⟩,q⟩
end
structure ObjM (h:Heap)(x dx C:Addr)(mA:Str->Option Value):Prop where
 obj:h.get? x=some (PySem.W.instObj C dx)
 ns:h.Ns1 dx mA
 ne:dx≠x
theorem oN {h:Heap}{dx:Addr}{mA:Str->Option Value}(n:h.Ns1 dx mA):∃od,h.get? dx=some od/\∀name,PySem.W.lookIn name od=some (mA name):=by
 obtain⟨o,es,ep,ho,hd,hk,_,hm⟩:=n;refine⟨o,ho,λ name=>?_⟩;have e:=hm name;unfold nsFind findBy at e;rw [<-Array.find?_toList] at e;unfold PySem.W.lookIn;rw [hd];dsimp only
 split
 ·rename_i y q
  rw [q] at e;exact congrArg some e
 ·rename_i q
  rw [q] at e;have a:es.toList.any (·.refKey)=false:=by
   rw [List.any_eq_false];intro y hy;obtain⟨z,t,hkey⟩:=hk y (Array.mem_toList_iff.mp hy);simp [DictEntry.refKey,hkey]
  have a':¬es.toList.any (·.refKey)=true:=by rw [a];exact Bool.false_ne_true
  rw [if_neg a'];exact congrArg some e
theorem ObjM.look {h:Heap}{x dx C:Addr}{mA:Str->Option Value}(I:ObjM h x dx C mA):∃od,PySem.W.InstAt h x (PySem.W.instObj C dx) C (some od)/\∀name,PySem.W.lookIn name od=some (mA name):=
 let⟨od,ho,hl⟩:=oN I.ns
 ⟨od,⟨I.obj,rfl,rfl,ho⟩,hl⟩
section
variable {prog : Program} {w : World} {A : Around} {E : Value -> Shared -> Prop} {s : Shared} {K : PySem.W.Frag} {x dx C f : Addr} {mA : Str -> Option Value} {name : Str} {v : Value}
theorem t7 {expr:Bool}{Q:Value->Shared->Prop}(X:K.In s.heap)(I:ObjM s.heap x dx C mA)(hg:PySem.W.plainGet K C name=true)(hh:PySem.W.hasDictIn K C=true)
  (ha:PySem.W.findIn K (.ref C) name=some none) (hv:mA name=some v) (hv':PySem.W.handedIn v=true) (h:Q v {s with toks:=s.toks+1}):
  wpAny (model prog w) A (getAttr (.ref x) name expr) Q E s:=by
 obtain⟨od,J,hl⟩:=I.look;exact PySem.W.get_value X J (PySem.W.plainGet_of hg).1 (PySem.W.findObj_own hh ha rfl (by rw [hl,hv])) hv' h
theorem rK {pl:Sem Bool}{Q:Value×List Value->Shared->Prop}(X:K.In s.heap)(I:ObjM s.heap x dx C mA)(hg:PySem.W.plainGet K C name=true)
  (hf:PySem.W.findIn K (.ref C) name=some (some (.ref f))) (ht:PySem.W.isFn K (.ref f)=true) (hv:mA name=none) (h:Q (.ref f,[.ref x]) s):
  wpAny (model prog w) A (getMethod (.ref x) name pl) Q E s:=by
 obtain⟨od,J,hl⟩:=I.look;exact PySem.W.method_fn X J (PySem.W.plainGet_of hg).1 (PySem.W.plainGet_of hg).2 hf (beq_iff_eq.mp ht) (by show(PySem.W.lookIn name od).map (·.isSome)=some false;rw [hl,hv];rfl) h
theorem tL {ns:List Str}{Q:Unit->Shared->Prop}(X:K.In s.heap)(I:ObjM s.heap x dx C mA)
  (hs:PySem.W.findIn K (.ref C) "__setattr__"=some (some (.builtin "object.__setattr__"))) (hp:PySem.W.plainOver K C=true) (ht:PySem.W.takerIn K C name=some none) (hh:PySem.W.hasDictIn K C=true)
  (hw:PySem.Within mA ns) (hsz:ns.length≤sizeLine)
  (h:∀h',ObjM h' x dx C (λ y=>if y=name then some v else mA y)->Heap.SameBut dx s.heap h'->Q () {s with heap:=h',toks:=s.toks+2}):
  wpAny (model prog w) A (setAttr (.ref x) name v) Q E s:=by
 obtain⟨od,J,hl⟩:=I.look;refine PySem.W.set_plain X J hs (PySem.W.osa_open (s:={s with toks:=s.toks+1}) (r:=none) X J hp ht λ b=>?_);obtain⟨cd,hc,hd'⟩:=PySem.W.any_some hh;have hx:s.heap.get? x=some ⟨.ref C,some dx,.plain,#[]⟩:=I.obj;refine wpAny_bind (wpAny_pure (wpAny_bind (wpAny_bind (wpAny_loadPart hx (wpAny_bind (PySem.W.Looks.here (s:={s with toks:=s.toks+1}) (PySem.W.looks_clsIn X hc) ?_))))));rw [hd'];refine wpAny_pure (a:=some dx) (wpAny_bind (wpAny_pure (wpAny_bind ?_)));refine wpAny_nsSet1 (s:={s with toks:=s.toks+1}) I.ns λ h' hn2 hs2=>?_
 obtain⟨oD,esD,epD,hoD,hdD,hcD⟩:=hn2.count (PySem.Within.cons name v hw);refine wpAny_bind (wpAny_lookBehind hoD (by rw [hdD];exact pastItsLine_dict (Nat.le_trans hcD (by rw [List.length_cons];lia))) ?_);exact wpAny_pure (h _ ⟨(hs2.2 _ (Ne.symm I.ne)).trans I.obj,hn2,I.ne⟩ hs2)
theorem qj {R:Result->Shared->Prop}{vs:List Value}{kw:List (Str×Value)}(X:K.In s.heap)(hm:PySem.W.makesIn K C=true)
  (hi:PySem.W.findIn K (.ref C) "__init__"=some (some (.ref f))) (hf:PySem.W.typeIn K (.ref f)=some (.type "function"))
  (h:codeAny (model prog w) (A.under (.builtin "type.__call__" ⟨.ref C::vs,kw⟩)) (.call (.ref f) ⟨.ref (s.heap.objs.size+1)::vs,kw⟩) (PySem.W.InitBack (s.heap.objs.size+1) R)
   {s with heap:=(s.heap.push PySem.W.emptyDict).push (PySem.W.instObj C s.heap.objs.size)}):
  codeAny (model prog w) A (.call (.ref C) ⟨vs,kw⟩) R s:=by
 obtain⟨hh,g,d,t,os⟩:=s;exact PySem.W.make_core (PySem.W.makes_of X hm) (PySem.W.looks_findIn X hi) (λ self=>PySem.W.bind_fn X self hf) (.inl rfl) h
theorem pq {R:Result->Shared->Prop}(X:K.In s.heap)(hm:PySem.W.makesIn K C=true)
  (hi:PySem.W.findIn K (.ref C) "__init__"=some (some (.builtin "object.__init__")))
  (hb:∀self,PySem.W.Looks (model prog w) s.heap (bindSpecial (.builtin "object.__init__") self) (.builtin "object.__init__",[self]))
  (h:codeAny (model prog w) (A.under (.builtin "type.__call__" ⟨[.ref C],[]⟩)) (.call (.builtin "object.__init__") ⟨[.ref (s.heap.objs.size+1)],[]⟩) (PySem.W.InitBack (s.heap.objs.size+1) R)
   {s with heap:=(s.heap.push PySem.W.emptyDict).push (PySem.W.instObj C s.heap.objs.size)}):
  codeAny (model prog w) A (.call (.ref C) ⟨[],[]⟩) R s:=by
 obtain⟨hh,g,d,t,os⟩:=s;exact PySem.W.make_core (PySem.W.makes_of X hm) (PySem.W.looks_findIn X hi) hb (.inr ⟨rfl,rfl⟩) h
end
def putF (f:Str)(v:V):List (Str×V)->List (Str×V)
 | []=>[(f,v)]
 |(g,x)::r=>if g=f then(g,v)::r else(g,x)::putF f v r
theorem aG (f g:Str)(v:V):∀fs:List (Str×V),(putF f v fs).lookup g=if g=f then some v else fs.lookup g
 | []=>by
  show List.lookup g [(f,v)]=_;by_cases h:g=f
  ·have hb:(g==f)=true:=beq_iff_eq.mpr h;simp only [List.lookup,hb,if_pos h]
  ·have hb:(g==f)=false:=beq_eq_false_iff_ne.mpr h;simp only [List.lookup,hb,if_neg h]
 |(k,x)::r=>by
  have ih:=aG f g v r;rw [show putF f v ((k,x)::r)=(if k=f then(k,v)::r else(k,x)::putF f v r) from rfl];by_cases hk:k=f
  ·rw [if_pos hk];by_cases h:g=k
   ·have hb:(g==k)=true:=beq_iff_eq.mpr h;simp only [List.lookup,hb,if_pos (h.trans hk)]
   ·have hb:(g==k)=false:=beq_eq_false_iff_ne.mpr h;simp only [List.lookup,hb,if_neg (λ e:g=f=>h (e.trans hk.symm))]
  ·rw [if_neg hk];by_cases h:g=k
   ·have hb:(g==k)=true:=beq_iff_eq.mpr h;simp only [List.lookup,hb,if_neg (λ e:g=f=>hk (h.symm.trans e))]
   ·have hb:(g==k)=false:=beq_eq_false_iff_ne.mpr h;simp only [List.lookup,hb];exact ih
theorem ff (f:Str)(v:V):∀fs:List (Str×V),f∈(putF f v fs).map (·.1)/\∀g,g∈fs.map (·.1)->g∈(putF f v fs).map (·.1)
 | []=>⟨by simp [putF],λ g h=>by simp at h⟩
 |(k,x)::r=>by
  obtain⟨i1,i2⟩:=ff f v r;rw [show putF f v ((k,x)::r)=(if k=f then(k,v)::r else(k,x)::putF f v r) from rfl];by_cases hk:k=f
  ·rw [if_pos hk];subst hk;exact⟨by simp,λ g h=>by simpa using h⟩
  ·rw [if_neg hk];refine⟨?_,λ g h=>?_⟩
   ·rw [List.map_cons];exact List.mem_cons_of_mem _ i1
   ·rw [List.map_cons] at h ⊢;rcases List.mem_cons.mp h with e|e
    ·exact List.mem_cons.mpr (.inl e)
    ·exact List.mem_cons_of_mem _ (i2 g e)
theorem fG (f:Str)(v:V):∀fs:List (Str×V),(putF f v fs).length≤fs.length+1
 | []=>by simp [putF]
 |(k,x)::r=>by
  have ih:=fG f v r;rw [show putF f v ((k,x)::r)=(if k=f then(k,v)::r else(k,x)::putF f v r) from rfl];by_cases hk:k=f
  ·rw [if_pos hk,List.length_cons,List.length_cons];lia
  ·rw [if_neg hk,List.length_cons,List.length_cons];lia
theorem RelO.some_of {v:V}{o:Option Value}(r:RelO (some v) o):∃u,o=some u/\RelV v u:=by
 cases o with
 |none=>exact(show False from r).elim
 |some u=>exact⟨u,rfl,r⟩
theorem RelO.none_of {o:Option Value}(r:RelO none o):o=none:=by
 cases o with
 |none=>rfl
 |some u=>exact(show False from r).elim
theorem oB {v:V}{u:Value}(r:RelV v u):PySem.W.handedIn u=true:=by
 cases v with
 |non=>cases(show u=Value.none from r);rfl
 |bl b=>cases(show u=Value.bool b from r);rfl
 |int i=>obtain⟨t,e⟩:=(show∃t,u=Value.int i t from r);cases e;rfl
 |str x=>obtain⟨t,e⟩:=(show∃t,u=Value.str x t from r);cases e;rfl
 |byt b=>obtain⟨t,e⟩:=(show∃t,u=Value.bytes b t from r);cases e;rfl
 |flt b=>obtain⟨t,e⟩:=(show∃t,u=Value.float b t from r);cases e;rfl
 |ref a=>cases(show u=Value.ref a from r);rfl
 |ty n=>cases(show u=Value.type n from r);rfl
section
variable {P : Program} {w : World} {H H' : Hp} {h h' : Heap} {a C dx : Addr} {fs fs' : List (Str × V)}
theorem f9 (hok:HOk P w H h)(e:H a=some (.ins C dx fs)):∃mA,ObjM h a dx C mA/\(∀f,RelO (fs.lookup f) (mA f))/\PySem.Within mA (fs.map (·.1))/\fs.length≤1000/\H dx=some (.own a):=by
 obtain⟨d,z,ne,ob,mA,n,r,q⟩:=(show ObjOk P w H h a (.ins C dx fs) from hok a _ e);exact⟨mA,⟨ob,n,ne⟩,r,q,z,d⟩
end
structure Cls (K:PySem.W.Frag)(C:Addr):Prop where
 pg:PySem.W.plainGet K C Str.empty=true
 hd:PySem.W.hasDictIn K C=true
 po:PySem.W.plainOver K C=true
 sa:PySem.W.findIn K (.ref C) "__setattr__"=some (some (.builtin "object.__setattr__"))
theorem Cls.get {K:PySem.W.Frag}{C:Addr}(c:Cls K C)(f:Str):PySem.W.plainGet K C f=true:=c.pg
def NoAttr (K:PySem.W.Frag)(C:Addr)(f:Str):Prop:=PySem.W.findIn K (.ref C) f=some none
theorem NoAttr.taker {K:PySem.W.Frag}{C:Addr}{f:Str}(n:NoAttr K C f):PySem.W.takerIn K C f=some none:=by
 unfold PySem.W.takerIn;rw [show PySem.W.findIn K (.ref C) f=some none from n];rfl
structure Con (K:PySem.W.Frag)(C:Addr)(f:Str)(v:V)(u:Value):Prop where
 at_:PySem.W.findIn K (.ref C) f=some (some u)
 rel:RelV v u
 get:PySem.W.specialIn K u "__get__"=some none
 cp:PySem.W.copiedNames.contains f=false
structure Meth (K:PySem.W.Frag)(C:Addr)(m:Str)(f:Addr):Prop where
 at_:PySem.W.findIn K (.ref C) m=some (some (.ref f))
 fn:PySem.W.isFn K (.ref f)=true
 kp:PySem.W.keepIn K (.ref f)=true
section
variable {X : Cx} {pins : List (Addr × Obj)} {σ : St} {H : Hp} {s : Shared} {a C dx : Addr} {fs : List (Str × V)} {f : Str} {v : V} {A : Around} {E : Value -> Shared -> Prop}
theorem mh {b:Bool}{Q:Value->Shared->Prop}(I:Inv X pins σ H s)(e:H a=some (.ins C dx fs))(c:Cls X.K C)(n:NoAttr X.K C f)(l:fs.lookup f=some v)
  (h:∀u s',Inv X pins σ H s'->RelV v u->Q u s'):wpAny (model X.prog X.w) A (getAttr (.ref a) f b) Q E s:=by
 obtain⟨mA,O,r,_,_,_⟩:=f9 I.hok e;obtain⟨u,hu,ru⟩:=RelO.some_of (v:=v) (o:=mA f) (by rw [<-l];exact r f);exact t7 I.kIn O (c.get f) c.hd n hu (oB ru) (h u _ (I.tok _) ru)
theorem gH {m:Str}{g:Addr}{pl:Sem Bool}{Q:Value×List Value->Shared->Prop}(I:Inv X pins σ H s)(e:H a=some (.ins C dx fs))(c:Cls X.K C)(k:Meth X.K C m g)(l:fs.lookup m=none)
  (h:Q (.ref g,[.ref a]) s):wpAny (model X.prog X.w) A (getMethod (.ref a) m pl) Q E s:=by
 obtain⟨mA,O,r,_,_,_⟩:=f9 I.hok e;have hn:mA m=none:=RelO.none_of (by rw [<-l];exact r m);exact rK I.kIn O (c.get m) k.at_ k.fn hn h
theorem lH {y:V}{u:Value}{Q:Unit->Shared->Prop}(I:Inv X pins σ H s)(e:H a=some (.ins C dx fs))(c:Cls X.K C)(n:NoAttr X.K C f)(hl:fs.length<1000)(ry:RelV y u)
  (h:∀s',Inv X pins σ (upd H a (.ins C dx (putF f y fs))) s'->Q () s'):wpAny (model X.prog X.w) A (setAttr (.ref a) f u) Q E s:=by
 obtain⟨mA,O,r,wi,_,ho⟩:=f9 I.hok e;have hz:(fs.map (·.1)).length≤sizeLine:=by rw [List.length_map,sizeLine_eq];lia
 refine tL I.kIn O c.sa c.po n.taker c.hd wi hz λ h' O' sb=>h _ ?_
 have hd:∃o,h'.get? dx=some o:=let⟨o,_,_,e',_⟩:=O'.ns;⟨o,e'⟩;refine I.write (x:=a) (e:=dx) (by rw [e];exact True.intro) (.inr ho) (λ b q hb z=>(sb.2 b hb).trans z) hd ?_;refine⟨by rw [upd_ne O.ne];exact ho,?_,O.ne,O'.obj,_,O'.ns,λ g=>?_,λ g hg=>?_⟩
 ·have:=fG f y fs;lia
 ·show RelO ((putF f y fs).lookup g) (if g=f then some u else mA g);rw [aG];by_cases q:g=f
  ·rw [if_pos q,if_pos q];exact ry
  ·rw [if_neg q,if_neg q];exact r g
 ·by_cases q:g=f
  ·rw [q];exact(ff f y fs).1
  ·refine(ff f y fs).2 g (wi g λ z=>hg ?_);show(if g=f then some u else mA g)=none;rw [if_neg q];exact z
theorem Inv.made (I:Inv X pins σ H s):Inv X pins σ (upd (upd H s.heap.objs.size (.own (s.heap.objs.size+1))) (s.heap.objs.size+1) (.ins C s.heap.objs.size []))
  {s with heap:=(s.heap.push PySem.W.emptyDict).push (PySem.W.instObj C s.heap.objs.size)}:=by
 have e1:(s.heap.push PySem.W.emptyDict).get? s.heap.objs.size=some PySem.W.emptyDict:=Heap.get?_push_size s.heap rfl;have e2:((s.heap.push PySem.W.emptyDict).push (PySem.W.instObj C s.heap.objs.size)).get? (s.heap.objs.size+1)=some (PySem.W.instObj C s.heap.objs.size):=by
  have:=Heap.get?_push_size (s.heap.push PySem.W.emptyDict) (o:=PySem.W.instObj C s.heap.objs.size) rfl
  rwa [Heap.size_push] at this
 have e3:(s.heap.push PySem.W.emptyDict).Ns s.heap.objs.size (λ _=>none):=⟨PySem.W.emptyDict,#[],_,e1,rfl,(λ e he=>absurd he (by simp)),λ _=>rfl⟩;have I1:=I.laid (a:=s.heap.objs.size) (o:=.own (s.heap.objs.size+1)) (h':=s.heap.push PySem.W.emptyDict) (t':=s.toks) (λ b u q=>Heap.get?_push_of_some _ q) (Nat.le_refl _) ⟨_,e1⟩;refine I1.laid (a:=s.heap.objs.size+1) (o:=.ins C s.heap.objs.size []) (t':=s.toks) (λ b u q=>Heap.get?_push_of_some _ q) (Nat.le_of_eq (Heap.size_push _ _)) ?_;have ne:s.heap.objs.size≠s.heap.objs.size+1:=Nat.ne_of_lt (Nat.lt_succ_self _);refine⟨by rw [upd_ne ne,upd_same],Nat.zero_le _,ne,e2,λ _=>none,(Heap.Ns1.of_empty e3).at λ o q=>Heap.get?_push_of_some _ q,λ _=>True.intro,λ y hy=>absurd rfl hy⟩
theorem attr_of {prog:Program}{w:World}{env:Env}{e:Expr}{f:Str}{pos:Pos}{s:Shared}{Q:Value->Shared->Prop}(hb:attributeBase e f env (eval e env)=eval e env)
  (h:wpAny (model prog w) A (eval e env) (λ o s₁=>wpAny (model prog w) A (getAttr o f true) Q E s₁) E s):wpAny (model prog w) A (eval (.Attribute e f pos) env) Q E s:=
 Attribute_any_ h (by rw [arm_eval_Attribute,hb])
end
def xR (K:PySem.W.Frag)(ta:TE)(f:Str):TE:=λ σ H Q=>ta σ H λ x H1=>∃a C dx fs v,x=.ref a/\H1 a=some (.ins C dx fs)/\Cls K C/\NoAttr K C f/\fs.lookup f=some v/\Q v H1
def xE (K:PySem.W.Frag)(ta tv:TE)(f:Str):TS:=λ D σ H=>tv σ H λ y H1=>ta σ H1 λ x H2=>∃a C dx fs,x=.ref a/\H2 a=some (.ins C dx fs)/\Cls K C/\NoAttr K C f/\fs.length<1000/\
 D.nx σ (upd H2 a (.ins C dx (putF f y fs)))
section
variable {X : Cx} {o e value : Expr} {f : Str} {pos pos' tpos : Pos} {ta tv : TE}
theorem aR (he:PE X e ta)(hb:attributeBase e f X.env (eval e X.env)=eval e X.env):PE X (.Attribute e f pos) (xR X.K ta f):=by
 intro pins s σ H Q I h;refine attr_of hb (thn (he pins s σ H _ I h) λ u s1 ⟨x,H1,I1,rx,a,C,dx,fs,v,ex,ea,c,n,l,q⟩=>?_);subst ex;obtain rfl:u=Value.ref a:=rx;exact mh I1 ea c n l λ u' s2 I2 ru=>⟨v,H1,I2,ru,q⟩
theorem cg (ha:PE X o ta)(hv:PE X value tv)(hs:swapsWith value (some (.Attribute o f pos')) pos.line X.env=pure false):PS X (.Assign [.Attribute o f pos'] value pos) (xE X.K ta tv f):=by
 intro pins s σ H D I h;refine plainObj_wpAny_Assign_Attribute (thn (hv pins s σ H _ I h) λ u s1 ⟨y,H1,I1,ry,q⟩=>thn (ha pins s1 σ H1 _ I1 q) λ ov s2 ⟨x,H2,I2,rx,a,C,dx,fs,ex,ea,c,n,l,q2⟩=>?_) hs;subst ex;obtain rfl:ov=Value.ref a:=rx;exact lH I2 ea c n l ry λ s3 I3=>⟨σ,_,I3,q2⟩
end
section
variable {X : Cx} {pins : List (Addr × Obj)} {σ : St} {H : Hp} {s : Shared} {A : Around} {E : Value -> Shared -> Prop} {Q : Value -> Shared -> Prop} {c : Value} {b : Bool}
inductive TyOf (K:PySem.W.Frag) (H:Hp):V->Value->Prop where
 |non:TyOf K H .non (.type "NoneType")
 |bl (x:Bool):TyOf K H (.bl x) (.type "bool")
 |int (i:Int):TyOf K H (.int i) (.type "int")
 |str (x:Str):TyOf K H (.str x) (.type "str")
 |flt (x:UInt64):TyOf K H (.flt x) (.type "float")
 |lst {a:Addr} {xs:List V} (e:H a=some (.lst xs)):TyOf K H (.ref a) (.type "list")
 |frz {a:Addr} {o:Obj} {xs:List V} (e:H a=some (.frz o (.lst xs))):TyOf K H (.ref a) (.type "list")
 |tup {a:Addr} {xs:List V} (e:H a=some (.tup xs)):TyOf K H (.ref a) (.type "tuple")
 |dK {a:Addr} {kvs:List (Key×V)} (e:H a=some (.dK kvs)):TyOf K H (.ref a) (.type "dict")
 |dT {a:Addr} {kvs:List (List Key×V)} (e:H a=some (.dT kvs)):TyOf K H (.ref a) (.type "dict")
 |ins {a C dx:Addr} {fs:List (Str×V)} (e:H a=some (.ins C dx fs)) (cl:Cls K C) (ha:PySem.W.findIn K (.ref C) "__class__"=some (some (.builtin "object.__class__")))
   (hn:PySem.W.specialIn K (.builtin "object.__class__") "__get__"=some (some (.builtin "getset_descriptor.__get__"))) (htk:PySem.W.takesIn K (.builtin "object.__class__")=some true)
   (hm:PySem.W.mroIn K C (.type "object")=some true):TyOf K H (.ref a) (.ref C)
theorem iS {x:V}{u t:Value}(I:Inv X pins σ H s)(rx:RelV x u)(ty:TyOf X.K H x t)(e:PySem.W.kitOne X.K t c=some b)(h:∀tk,Q (.bool b) {s with toks:=tk}):
  wpAny (model X.prog X.w) A (call (.builtin "isinstance") [u,c]) Q E s:=by
 cases ty with
 |non=>cases(show u=Value.none from rx);exact PySem.W.kia_one PySem.W.kitx_none I.kIn True.intro e (λ z=>nomatch z) h
 |bl y=>cases(show u=Value.bool y from rx);exact PySem.W.kia_one PySem.W.kitx_bool I.kIn True.intro e (λ z=>nomatch z) h
 |int i=>obtain⟨t,q⟩:=(show∃t,u=Value.int i t from rx);cases q;exact PySem.W.kia_one PySem.W.kitx_int I.kIn True.intro e (λ z=>nomatch z) h
 |str y=>obtain⟨t,q⟩:=(show∃t,u=Value.str y t from rx);cases q;exact PySem.W.kia_one PySem.W.kitx_str I.kIn True.intro e (λ z=>nomatch z) h
 |flt y=>obtain⟨t,q⟩:=(show∃t,u=Value.float y t from rx);cases q;exact PySem.W.kia_one PySem.W.kitx_float I.kIn True.intro e (λ z=>nomatch z) h
 | @lst a xs ea=>
  cases(show u=Value.ref a from rx);obtain⟨_,_,n,_,h1⟩:=(show ObjOk X.prog X.w H s.heap a (.lst xs) from I.hok a _ ea);exact PySem.W.kia_one PySem.W.kitx_list I.kIn ⟨_,h1,rfl⟩ e (λ z=>nomatch z) h
 | @frz a ob xs ea=>
  cases(show u=Value.ref a from rx);obtain⟨_,_,_,n,_,h1⟩:=(show ObjOk X.prog X.w H s.heap a (.frz ob (.lst xs)) from I.hok a _ ea);exact PySem.W.kia_one PySem.W.kitx_list I.kIn ⟨_,h1,rfl⟩ e (λ z=>nomatch z) h
 | @tup a xs ea=>
  cases(show u=Value.ref a from rx);obtain⟨_,_,_,p⟩:=(show ObjOk X.prog X.w H s.heap a (.tup xs) from I.hok a _ ea);obtain⟨o,h1,h2,_⟩:=p;exact PySem.W.kia_one PySem.W.kitx_tuple I.kIn ⟨o,h1,h2⟩ e (λ z=>nomatch z) h
 | @dK a kvs ea=>
  cases(show u=Value.ref a from rx);obtain⟨_,_,vs,_,p⟩:=(show ObjOk X.prog X.w H s.heap a (.dK kvs) from I.hok a _ ea);obtain⟨o,es,ep,h1,h2,_⟩:=p;exact PySem.W.kia_one PySem.W.kitx_dict I.kIn ⟨o,h1,h2.1⟩ e (λ z=>nomatch z) h
 | @dT a kvs ea=>
  cases(show u=Value.ref a from rx);obtain⟨_,_,xs,_,o,es,ep,h1,h2,_⟩:=(show ObjOk X.prog X.w H s.heap a (.dT kvs) from I.hok a _ ea);exact PySem.W.kia_one PySem.W.kitx_dict I.kIn ⟨o,h1,h2.1⟩ e (λ z=>nomatch z) h
 | @ins a C dx fs ea cl ha hn htk hm=>
  cases(show u=Value.ref a from rx);obtain⟨mA,O,_⟩:=f9 I.hok ea;obtain⟨od,J,_⟩:=O.look;exact PySem.W.kia_one (PySem.W.kitx_own (cl.get _) cl.hd ha hn htk hm) I.kIn J e (λ z=>nomatch z) h
end
structure Room (k:Nat)(A:Around):Prop where
 hd:30≤k->A.handled=none
 dp:A.depth+3*k+5<recursionLimit
 un:A.units+16*k+200<cLine
theorem Room.mono {j k:Nat}{A:Around}(r:Room k A)(h:j≤k):Room j A:=⟨λ z=>r.hd (by lia),by have:=r.dp;lia,by have:=r.un;lia⟩
theorem Room.deeper {k:Nat}{A:Around}(r:Room (k+1) A)(env:Env):Room k (A.deeper env):=
 ⟨λ z=>r.hd (by lia),by have:=r.dp;show A.depth+1+3*k+5<_;lia,by have:=r.un;show A.units+3+16*k+200<_;lia⟩
theorem Room.in1 {k:Nat}{A:Around}(r:Room (k+1) A):Room k A.in1:=
 ⟨λ z=>r.hd (by lia),by have:=r.dp;show A.depth+3*k+5<_;lia,by have:=r.un;show A.units+1+16*k+200<_;lia⟩
theorem lG {A:Around}{C:Addr}{us:List Value}{kw:List (Str×Value)}:(A.under (.builtin "type.__call__" ⟨.ref C::us,kw⟩)).depth=A.depth+1:=by
 first|rfl|simp [Around.under,Code.weight,Code.isCreation,Code.isGuard,Code.isCaller,Code.frames,Code.isFrame,guardIds]
theorem lB {A:Around}{C:Addr}{us:List Value}{kw:List (Str×Value)}:(A.under (.builtin "type.__call__" ⟨.ref C::us,kw⟩)).units=A.units+1:=by
 first|rfl|simp [Around.under,Code.cUnits,Code.frames,Code.isFrame]
theorem Room.make {k:Nat}{A:Around}(r:Room (k+1) A)(C:Addr)(us:List Value)(kw:List (Str×Value)):Room k (A.under (.builtin "type.__call__" ⟨.ref C::us,kw⟩)):=
 ⟨λ z=>r.hd (by lia),by have:=r.dp;rw [lG];lia,by have:=r.un;rw [lB];lia⟩
theorem Room.depth {k:Nat}{A:Around}(r:Room k A):A.depth<recursionLimit:=by have:=r.dp;lia
theorem Room.units {k:Nat}{A:Around}(r:Room k A):A.units+64<cLine:=by have:=r.un;lia
def i4:TA:=λ _ H Q=>Q [] H
def dt (ta:TE)(tr:TA):TA:=λ σ H Q=>ta σ H λ x H1=>tr σ H1 λ xs H2=>Q (x::xs) H2
section
variable {X : Cx} {e : Expr} {es : List Expr} {te : TE} {t : TA} {pos : Pos}
theorem ad:PA X [] i4:=λ _ _ _ _ H Q I h=>Calls.spliced_nil ⟨[],H,I,.nil,h⟩
theorem aa (ha:PE X e te)(hr:PA X es t)(hs:starEach (e::es) X.env=(false,eval e X.env)::starEach es X.env:=by rfl):PA X (e::es) (dt te t):=by
 intro pos pins s σ H Q I h;rw [hs];show wpAny _ _ (spliced ((false,eval e X.env)::backTo pos (starEach es X.env))) _ _ s;refine Calls.spliced_cons (thn (ha pins s σ H _ I h) λ u s1 ⟨x,H1,I1,r1,q1⟩=>?_);exact thn (hr pos pins s1 σ H1 _ I1 q1) λ us s2 ⟨xs,H2,I2,r2,q2⟩=>⟨x::xs,H2,I2,.cons r1 r2,q2⟩
def tj (t:TA):TE:=λ σ H Q=>t σ H λ xs H1=>xs.length≤sizeLine/\∀p,H1 p=none->Q (.ref p) (upd H1 p (.tup xs))
def wD (t:TA):TE:=λ σ H Q=>t σ H λ xs H1=>xs.length≤sizeLine/\∀p,H1 p=none->Q (.ref p) (upd H1 p (.lst xs))
theorem bB {x1}(h:PA X es t):PE X (.Tuple es x1 pos) (tj t):=by
 intro pins s σ H Q I hq;refine wpAny_Tuple_spliced (thn (h pos pins s σ H _ I hq) λ us s1 ⟨xs,H1,I1,r,z,q⟩=>⟨by rw [<-r.length];exact z,?_⟩);have hf:H1 s1.heap.objs.size=none:=I1.hok.fresh (Nat.le_refl _);refine⟨.ref s1.heap.objs.size,upd H1 s1.heap.objs.size (.tup xs),I1.laid (t':=s1.toks) (λ b u e=>Heap.get?_push_of_some _ e) (Nat.le_refl _) ?_,rfl,q _ hf⟩;exact⟨z,us,r,⟨_,Heap.get?_push_size _ rfl,rfl,_,rfl⟩⟩
theorem aV (h:PA X es t):PE X (.List es pos) (wD t):=by
 intro pins s σ H Q I hq;refine wpAny_List_spliced (thn (h pos pins s σ H _ I hq) λ us s1 ⟨xs,H1,I1,r,z,q⟩=>⟨by rw [<-r.length];exact z,?_⟩);have hf:H1 s1.heap.objs.size=none:=I1.hok.fresh (Nat.le_refl _);refine⟨.ref s1.heap.objs.size,upd H1 s1.heap.objs.size (.lst xs),I1.laid (t':=s1.toks) (λ b u e=>Heap.get?_push_of_some _ e) (Nat.le_refl _) ?_,rfl,q _ hf⟩;exact⟨z,us,0,r,Heap.get?_push_size _ rfl⟩
end
abbrev Sp:=List V->Hp->VK->XK->Prop
abbrev CXT:=List Env->Hp->Shared->XK->Value->Shared->Prop
structure Env0 (P:Program)(w:World)(K:PySem.W.Frag)(mg:Str->Option Value)(base:Heap)(A:Around)(outer:List Env)(s:Shared)(H:Hp):Prop where
 frames:A.frames=some outer
 mod:Mod K mg base
 bs:∀b o,base.get? b=some o->s.heap.get? b=some o/\H b=none
 bsz:base.objs.size≤s.heap.objs.size
 funs:s.heap.FunFrames base outer
 frf:∀b∈frs outer,H b=none
 hok:HOk P w H s.heap
 bare:AllBare s.gens
 qt:Qt A H
def CE (outer:List Env)(P:Program)(w:World)(H:Hp)(s:Shared)(Q:VK)(u:Value)(s':Shared):Prop:=
 ∃v H',s'.os=s.os/\AllBare s'.gens/\Un (frs outer) [] H H' s.heap s'.heap/\HOk P w H' s'.heap/\RelV v u/\Q v H'
def CR (CX:CXT)(outer:List Env)(P:Program)(w:World)(H:Hp)(s:Shared)(Q:VK)(E:XK)(r:Result)(s':Shared):Prop:=
 match r with
 | .ok (.ret u)=>CE outer P w H s Q u s'
 | .ok _=>False
 | .error e=>CX outer H s E e s'
structure FnOk (P:Program)(w:World)(K:PySem.W.Frag)(mg:Str->Option Value)(base:Heap)(CX:CXT)(k:Nat)(f:Addr)(fd:FuncData)(ps:List Str)(sp:Sp):Prop where
 len:∀vs H Q E,sp vs H Q E->vs.length=ps.length
 run:∀(A:Around) (outer:List Env) (s:Shared) (H:Hp) (args:Args) (us:List Value) (vs:List V) (Q:VK) (E:XK),Room k A->Env0 P w K mg base A outer s H->BindsTo s fd args (ps.zip us)->Vals vs us->sp vs H Q E->
  codeAny (model P w) A (.call (.ref f) args) (CR CX outer P w H s Q E) s
theorem FnOk.mono {P:Program}{w:World}{K:PySem.W.Frag}{mg:Str->Option Value}{base:Heap}{CX:CXT}{j k:Nat}{f:Addr}{fd:FuncData}{ps:List Str}{sp:Sp}(F:FnOk P w K mg base CX j f fd ps sp)(h:j≤k):
  FnOk P w K mg base CX k f fd ps sp:=⟨F.len,λ A outer s H args us vs Q E hr=>F.run A outer s H args us vs Q E (hr.mono h)⟩
theorem FnOk.imp {P:Program}{w:World}{K:PySem.W.Frag}{mg:Str->Option Value}{base:Heap}{CX:CXT}{k:Nat}{f:Addr}{fd:FuncData}{ps:List Str}{sp sp':Sp}(F:FnOk P w K mg base CX k f fd ps sp)
  (h:∀vs H Q E,sp' vs H Q E->sp vs H Q E):FnOk P w K mg base CX k f fd ps sp':=
 ⟨λ vs H Q E q=>F.len vs H Q E (h _ _ _ _ q),λ A outer s H args us vs Q E hr he hb hv hs=>F.run A outer s H args us vs Q E hr he hb hv (h _ _ _ _ hs)⟩
theorem Env0.make {P:Program}{w:World}{K:PySem.W.Frag}{mg:Str->Option Value}{base:Heap}{A:Around}{outer:List Env}{s:Shared}{H:Hp}(e:Env0 P w K mg base A outer s H)(C:Addr)(us:List Value)(kw:List (Str×Value)):
  Env0 P w K mg base (A.under (.builtin "type.__call__" ⟨.ref C::us,kw⟩)) outer s H:=⟨by first|exact e.frames|(simpa [Around.under,Code.envs,Code.isFrame,pushEnvs] using e.frames),e.mod,e.bs,e.bsz,e.funs,e.frf,e.hok,e.bare,e.qt⟩
theorem Env0.in1 {P:Program}{w:World}{K:PySem.W.Frag}{mg:Str->Option Value}{base:Heap}{A:Around}{outer:List Env}{s:Shared}{H:Hp}(e:Env0 P w K mg base A outer s H):
  Env0 P w K mg base A.in1 outer s H:=⟨e.frames,e.mod,e.bs,e.bsz,e.funs,e.frf,e.hok,e.bare,e.qt⟩
section
variable {X : Cx} {pins : List (Addr × Obj)} {σ : St} {H : Hp} {s s' : Shared}
theorem Inv.env0 (I:Inv X pins σ H s):Env0 X.prog X.w X.K X.mg X.base X.A X.stack s H:=
 ⟨I.ok.frames,I.ok.mod,I.bs,Nat.le_trans I.ok.bsz I.sz,I.stack,I.stkFree,I.hok,I.bare,I.qt⟩
theorem Inv.after {Q:VK}{u:Value}(I:Inv X pins σ H s)(h:CE X.stack X.prog X.w H s Q u s'):EP X pins σ Q u s':=by
 obtain⟨v,H',os,bare,un,hok,r,q⟩:=h;obtain⟨hh,g,d,t,os'⟩:=s';obtain rfl:os'=s.os:=os;exact⟨v,H',I.call (h':=hh) (g':=g) (d':=d) (t':=t) (ch:=[]) un hok bare (λ b z=>absurd z (by simp)),r,q⟩
end
def rF (sp:Sp)(dvs:List V)(E:XK)(t:TA):TE:=λ σ H Q=>t σ H λ vs H1=>sp (vs++dvs) H1 Q E
def uL (C:Addr)(m:Str)(sp:Sp)(dvs:List V)(E:XK)(ta:TE)(t:TA):TE:=λ σ H Q=>ta σ H λ x H1=>∃a dx fs,x=.ref a/\H1 a=some (.ins C dx fs)/\fs.lookup m=none/\
 t σ H1 λ vs H2=>sp (x::(vs++dvs)) H2 Q E
def uN (C:Addr)(sp:Sp)(dvs:List V)(E:XK)(t:TA):TE:=λ σ H Q=>t σ H λ vs H1=>∀x dx,H1 x=none->H1 dx=none->dx≠x->
 sp (.ref x::(vs++dvs)) (upd (upd H1 dx (.own x)) x (.ins C dx [])) (λ v H2=>v=.non/\Q (.ref x) H2) E
def Binds (K:PySem.W.Frag)(fd:FuncData)(ps:List Str)(ds:List Value):Prop:=
 ∀(s:Shared) (us:List Value),K.In s.heap->(us++ds).length=ps.length->BindsTo s fd ⟨us,[]⟩ (ps.zip (us++ds))
theorem Binds.all {K:PySem.W.Frag}{fd:FuncData}{ps:List Str}(h:∀us:List Value,us.length=ps.length->bindArgs fd ⟨us,[]⟩=pure (ps.zip us)):Binds K fd ps []:=λ s us _ hl=>by
 rw [List.append_nil] at hl ⊢;exact .of_eq (h us hl)
def dk (CX:CXT)(X:Cx)(E:XK):Prop:=∀(pins:List (Addr×Obj)) (σ:St) (H:Hp) (s:Shared) (e:Value) (s':Shared),Inv X pins σ H s->CX X.stack H s E e s'->X.xe e s'
section
variable {X : Cx} {CX : CXT} {k : Nat} {f C : Addr} {fd : FuncData} {ps : List Str} {sp : Sp} {dvs : List V} {ds : List Value} {E : XK} {x m : Str} {p pos apos : Pos} {e o : Expr} {es : List Expr} {ta : TE} {t : TA}
theorem md {pins:List (Addr×Obj)}{σ:St}{H:Hp}{s:Shared}{Q:VK}{us:List Value}{vs:List V}(F:FnOk X.prog X.w X.K X.mg X.base CX k f fd ps sp)(hr:Room k X.A)(hb:Binds X.K fd ps ds)(hd:Vals dvs ds)(hx:dk CX X E)
  (I:Inv X pins σ H s) (r:Vals vs us) (h:sp (vs++dvs) H Q E):wpAny (model X.prog X.w) X.A (call (.ref f) us) (EP X pins σ Q) X.xe s:=by
 have r2:Vals (vs++dvs) (us++ds):=r.append hd;have hl:(us++ds).length=ps.length:=by rw [<-r2.length];exact F.len _ _ _ _ h
 refine wpAny_call (codeAny_mono (F.run X.A X.stack s H ⟨us,[]⟩ (us++ds) (vs++dvs) Q E hr I.env0 (hb s us I.kIn hl) r2 h) λ r s' hq=>?_);cases r with
 |error e=>exact hx pins σ H s e s' I hq
 |ok fl=>
  cases fl with
  |ret u=>exact I.after hq
  |next=>exact False.elim hq
  |brk=>exact False.elim hq
  |cont=>exact False.elim hq
theorem am (F:FnOk X.prog X.w X.K X.mg X.base CX k f fd ps sp)(hr:Room k X.A)(hg:Gl X x)(hm:X.mg x=some (.ref f))(hk:PySem.W.keepIn X.K (.ref f)=true)(hb:Binds X.K fd ps ds)(hd:Vals dvs ds)(hx:dk CX X E)
  (ha:PA X (e::es) t) (hdb:(x==("__debug__":Str))=false:=by decide) (he:starEach (e::es) X.env=(false,eval e X.env)::starEach es X.env:=by rfl) (hpl:(backTo pos (starEach es X.env)).any (·.1)=false:=by rfl):
  PE X (.Call (.Name x p) (e::es) [] pos) (rF sp dvs E t):=by
 intro pins s σ H Q I h;refine wpAny_Call_Name_kw (ld_glob I hg hm ?_ hdb);refine PySem.W.callWith_K (h₀:=X.base) I.ok.mod.kin hk (thn (ha pos pins s σ H _ I h) λ us s1 ⟨vs,H1,I1,r,q⟩=>⟨I1.kIn,?_⟩) he hpl;exact md F hr hb hd hx I1 r q
theorem a6 {pl:Sem Bool}(he:PE X o ta)(c:Cls X.K C)(hm:Meth X.K C m f)(F:FnOk X.prog X.w X.K X.mg X.base CX k f fd ps sp)(hr:Room k X.A)(hb:Binds X.K fd ps ds)(hd:Vals dvs ds)(hx:dk CX X E)(ha:PA X (e::es) t)
    (hst:starEach (e::es) X.env=(false,eval e X.env)::starEach es X.env:=by rfl) (hpl:(backTo pos (starEach es X.env)).any (·.1)=false:=by rfl)
    (ht:eval (.Call (.Attribute o m apos) (e::es) [] pos) X.env=(do
      let ov<-eval o X.env
      standAt apos.atName
      let(f,first)<-holding [ov] (getMethod ov m pl)
      callWith pos f first (backTo pos (starEach (e::es) X.env)) (backToKw pos (keywordEach [] X.env))):=by rfl):
    PE X (.Call (.Attribute o m apos) (e::es) [] pos) (uL C m sp dvs E ta t):=by
  intro pins s σ H Q I h
  refine PySem.W.methodCall_KW (pl:=pl) (thn (he pins s σ H _ I h) λ u s1 ⟨x,H1,I1,rx,a,dx,fs,ex,ea,l,q⟩=>?_) ht
  subst ex
  obtain rfl:u=Value.ref a:=rx
  refine gH I1 ea c hm l ?_
  refine PySem.W.callWith_K (first:=[.ref a]) (h₀:=X.base) I.ok.mod.kin hm.kp (thn (ha pos pins s1 σ H1 _ I1 q) λ us s2 ⟨vs,H2,I2,r,q2⟩=>⟨I2.kIn,?_⟩) hst hpl
  exact md (us:=.ref a::us) (vs:=.ref a::vs) F hr hb hd hx I2 (.cons rfl r) q2
theorem bi {pl:Sem Bool}(he:PE X o ta)(c:Cls X.K C)(hm:Meth X.K C m f)(F:FnOk X.prog X.w X.K X.mg X.base CX k f fd ps sp)(hr:Room k X.A)(hb:Binds X.K fd ps ds)(hd:Vals dvs ds)(hx:dk CX X E)
    (ht:eval (.Call (.Attribute o m apos) [] [] pos) X.env=(do
      let ov<-eval o X.env
      standAt apos.atName
      let(f,first)<-holding [ov] (getMethod ov m pl)
      callWith pos f first (backTo pos (starEach [] X.env)) (backToKw pos (keywordEach [] X.env))):=by rfl):
    PE X (.Call (.Attribute o m apos) [] [] pos) (uL C m sp dvs E ta i4):=by
  intro pins s σ H Q I h
  refine PySem.W.methodCall_KW (pl:=pl) (thn (he pins s σ H _ I h) λ u s1 ⟨x,H1,I1,rx,a,dx,fs,ex,ea,l,q⟩=>?_) ht
  subst ex
  obtain rfl:u=Value.ref a:=rx
  refine gH I1 ea c hm l ?_
  exact PySem.W.callWith_K0 (first:=[.ref a]) I1.kIn hm.kp (md (us:=[.ref a]) (vs:=[.ref a]) F hr hb hd hx I1 (.cons rfl .nil) q)
structure Mk (K:PySem.W.Frag)(C f:Addr):Prop where
 makes:PySem.W.makesIn K C=true
 init:PySem.W.findIn K (.ref C) "__init__"=some (some (.ref f))
 fn:PySem.W.isFn K (.ref f)=true
 kp:PySem.W.keepIn K (.ref C)=true
theorem run_make {pins:List (Addr×Obj)}{σ:St}{H:Hp}{s:Shared}{Q:VK}{us:List Value}{vs:List V}(M:Mk X.K C f)(F:FnOk X.prog X.w X.K X.mg X.base CX k f fd ps sp)(hr:Room (k+1) X.A)(hb:Binds X.K fd ps ds)(hd:Vals dvs ds)
  (hx:dk CX X E) (I:Inv X pins σ H s) (r:Vals vs us)
  (h:∀x dx,H x=none->H dx=none->dx≠x->sp (.ref x::(vs++dvs)) (upd (upd H dx (.own x)) x (.ins C dx [])) (λ v H2=>v=.non/\Q (.ref x) H2) E):
  wpAny (model X.prog X.w) X.A (call (.ref C) us) (EP X pins σ Q) X.xe s:=by
 have hq:=h (s.heap.objs.size+1) s.heap.objs.size (I.hok.fresh (Nat.le_succ _)) (I.hok.fresh (Nat.le_refl _)) (Nat.ne_of_lt (Nat.lt_succ_self _));have I2:=Inv.made (C:=C) I;have r2:Vals (V.ref (s.heap.objs.size+1)::(vs++dvs)) (Value.ref (s.heap.objs.size+1)::(us++ds)):=.cons rfl (r.append hd);have hl:(Value.ref (s.heap.objs.size+1)::us++ds).length=ps.length:=by
  have e:=r2.length;rw [F.len _ _ _ _ hq] at e;exact e.symm
 refine wpAny_call (qj (f:=f) I.kIn M.makes M.init (beq_iff_eq.mp M.fn) (codeAny_mono (F.run _ X.stack _ _ ⟨Value.ref (s.heap.objs.size+1)::us,[]⟩ (Value.ref (s.heap.objs.size+1)::(us++ds)) _ _ E (hr.make C us [])
  (I2.env0.make C us []) (hb _ (Value.ref (s.heap.objs.size+1)::us) I2.kIn hl) r2 hq) λ r s' hq'=>?_))
 cases r with
 |error e=>exact hx pins σ _ _ e s' I2 hq'
 |ok fl=>
  cases fl with
  |ret u=>
   obtain⟨v,H',I3,rv,ev,q3⟩:=I2.after hq';subst ev;exact⟨rv,⟨V.ref (s.heap.objs.size+1),H',I3,rfl,q3⟩⟩
  |next=>exact False.elim hq'
  |brk=>exact False.elim hq'
  |cont=>exact False.elim hq'
theorem nQ (M:Mk X.K C f)(F:FnOk X.prog X.w X.K X.mg X.base CX k f fd ps sp)(hr:Room (k+1) X.A)(hg:Gl X x)(hm:X.mg x=some (.ref C))(hb:Binds X.K fd ps ds)(hd:Vals dvs ds)(hx:dk CX X E)
  (ha:PA X (e::es) t) (hdb:(x==("__debug__":Str))=false:=by decide) (he:starEach (e::es) X.env=(false,eval e X.env)::starEach es X.env:=by rfl) (hpl:(backTo pos (starEach es X.env)).any (·.1)=false:=by rfl):
  PE X (.Call (.Name x p) (e::es) [] pos) (uN C sp dvs E t):=by
 intro pins s σ H Q I h;refine wpAny_Call_Name_kw (ld_glob I hg hm ?_ hdb);refine PySem.W.callWith_K (h₀:=X.base) I.ok.mod.kin M.kp (thn (ha pos pins s σ H _ I h) λ us s1 ⟨vs,H1,I1,r,q⟩=>⟨I1.kIn,?_⟩) he hpl;exact run_make M F hr hb hd hx I1 r q
theorem gm (M:Mk X.K C f)(F:FnOk X.prog X.w X.K X.mg X.base CX k f fd ps sp)(hr:Room (k+1) X.A)(hg:Gl X x)(hm:X.mg x=some (.ref C))(hb:Binds X.K fd ps ds)(hd:Vals dvs ds)(hx:dk CX X E)
  (hdb:(x==("__debug__":Str))=false:=by decide):PE X (.Call (.Name x p) [] [] pos) (uN C sp dvs E i4):=by
 intro pins s σ H Q I h;refine wpAny_Call_Name_kw (ld_glob I hg hm ?_ hdb);exact PySem.W.callWith_K0 I.kIn M.kp (run_make (us:=[]) M F hr hb hd hx I .nil h)
end
section
variable {X : Cx} {CX : CXT} {k : Nat} {f C : Addr} {fd : FuncData} {ps ks : List Str} {sp : Sp} {E : XK} {x m : Str} {p pos apos kpos : Pos} {e o : Expr} {es : List Expr} {kws : List Keyword} {te ta : TE} {t tk : TA} {nm : Option Str}
structure KBinds (K:PySem.W.Frag)(fd:FuncData)(ps ks:List Str)(g:List Value->List Value->List Value)(gV:List V->List V->List V):Prop where
 to:∀(s:Shared) (us ws:List Value),K.In s.heap->(g us ws).length=ps.length->BindsTo s fd ⟨us,ks.zip ws⟩ (ps.zip (g us ws))
 rel:∀{vs:List V} {us:List Value} {zs:List V} {ws:List Value},Vals vs us->Vals zs ws->Vals (gV vs zs) (g us ws)
variable {g : List Value -> List Value -> List Value} {gV : List V -> List V -> List V}
end
structure FnScope (N P:List Str)(sc:Scope):Prop where
 kind:sc.kind=.function
 co:sc.isCoroutine=false
 gen:sc.isGenerator=false
 nd:N.Nodup
 pre:N.take P.length=P
 par:∀x∈P,sc.names.lookup x=some .local\/sc.names.lookup x=some .cell
 nofree:∀y∈sc.names,y.2≠ .free
theorem iy {kindOf:Str->Option NameKind}{x:Str}:∀{binds:List (Str×Value)} {m:Str->Option Value},(∀v,(x,v)∉binds)->bindL kindOf binds m x=m x
 | [],_,_=>rfl
 |(n,v)::r,m,h=>by
  unfold bindL;rw [iy λ w hw=>h w (List.mem_cons_of_mem _ hw)]
  split
  ·have:x≠n:=by rintro rfl;exact h v List.mem_cons_self
   simp [this]
  ·rfl
theorem iu {kindOf:Str->Option NameKind}{x:Str}:∀{binds:List (Str×Value)} {m:Str->Option Value},(∀v,(x,v)∉binds)->bindC kindOf binds m x=m x
 | [],_,_=>rfl
 |(n,v)::r,m,h=>by
  unfold bindC;rw [iu λ w hw=>h w (List.mem_cons_of_mem _ hw)]
  split
  ·rfl
  ·have:x≠n:=by rintro rfl;exact h v List.mem_cons_self
   simp [this]
theorem iR {kindOf:Str->Option NameKind}{x:Str}{v:Value}:∀{P:List Str} {vs:List Value} {i:Nat} {m:Str->Option Value},P.Nodup->P[i]?=some x->vs[i]?=some v->kindOf x=some .local->
  bindL kindOf (P.zip vs) m x=some v
 | [],_,_,_,_,h,_,_=>by simp at h
 |_::_,[],_,_,_,_,h,_=>by simp at h
 |p::P,w::vs,0,m,nd,h1,h2,hk=>by
  simp at h1 h2;subst h1;subst h2;show bindL kindOf ((p,w)::P.zip vs) m p=_;unfold bindL;rw [iy λ v hv=>(List.nodup_cons.mp nd).1 (List.of_mem_zip hv).1,if_pos hk];simp
 |p::P,w::vs,i+1,m,nd,h1,h2,hk=>by
  show bindL kindOf ((p,w)::P.zip vs) m x=_;unfold bindL;exact iR (i:=i) (List.nodup_cons.mp nd).2 (by simpa using h1) (by simpa using h2) hk
theorem ix {kindOf:Str->Option NameKind}{x:Str}{v:Value}:∀{P:List Str} {vs:List Value} {i:Nat} {m:Str->Option Value},P.Nodup->P[i]?=some x->vs[i]?=some v->kindOf x≠some .local->
  bindC kindOf (P.zip vs) m x=some v
 | [],_,_,_,_,h,_,_=>by simp at h
 |_::_,[],_,_,_,_,h,_=>by simp at h
 |p::P,w::vs,0,m,nd,h1,h2,hk=>by
  simp at h1 h2;subst h1;subst h2;show bindC kindOf ((p,w)::P.zip vs) m p=_;unfold bindC;rw [iu λ v hv=>(List.nodup_cons.mp nd).1 (List.of_mem_zip hv).1,if_neg hk];simp
 |p::P,w::vs,i+1,m,nd,h1,h2,hk=>by
  show bindC kindOf ((p,w)::P.zip vs) m x=_;unfold bindC;exact ix (i:=i) (List.nodup_cons.mp nd).2 (by simpa using h1) (by simpa using h2) hk
def start (N:List Str)(vs:List V):St:=vs.map some++List.replicate (N.length-vs.length) none
def cxOf (CX:CXT)(P:Program)(w:World)(K:PySem.W.Frag)(mg:Str->Option Value)(base:Heap)(N:List Str)(qual:Str)(scope:Scope)(f:Addr)(cd:Value)(A:Around)(outer:List Env)(s:Shared)(H:Hp)(E:XK):Cx where
 prog:=P
 w:=w
 K:=K
 mg:=mg
 base:=base
 A:=A.deeper (envOfC qual scope s.heap.objs.size f cd)
 N:=N
 s₀:=s
 H₀:=H
 env:=envOfC qual scope s.heap.objs.size f cd
 outer:=outer
 stack:=envOfC qual scope s.heap.objs.size f cd::outer
 ex:=[]
 calm:=true
 fn:=λ _=>true
 pn:=[]
 xe:=λ e s'=>wpAny (model P w) (A.deeper (envOfC qual scope s.heap.objs.size f cd)) (leaving (envOfC qual scope s.heap.objs.size f cd) e) (λ _ s''=>CX outer H s E e s'') (λ e' s''=>CX outer H s E e' s'') s'
theorem ki {sc:Scope}{n:Nat}{x:Str}(h:sc.names.lookup x=some .cell):∃c,(cellsFrom n sc.names []).lookup x=some c:=by
 have q:=PySem.W.cellsFrom_some sc.names n [] (.inl h);exact Option.isSome_iff_exists.mp q
theorem iI {CX:CXT}{P:Program}{w:World}{K:PySem.W.Frag}{mg:Str->Option Value}{base:Heap}{N ps:List Str}{qual:Str}{scope:Scope}{f:Addr}{cd:Value}{A:Around}{outer:List Env}{s s1:Shared}{H:Hp}{E:XK}{us:List Value}{vs:List V}
  (S:FnScope N ps scope) (e0:Env0 P w K mg base A outer s H) (hl:vs.length=ps.length) (r:Vals vs us)
  (x:InCallC s s.heap.objs.size (bindL (envOfC qual scope s.heap.objs.size f cd).kindOf (ps.zip us) λ _=>none) (cellsFrom (s.heap.objs.size+1) scope.names []) (bindC (envOfC qual scope s.heap.objs.size f cd).kindOf (ps.zip us) λ _=>none) s1):
  Inv (cxOf CX P w K mg base N qual scope f cd A outer s H E) [] (start N vs) H s1:=by
 have hpl:ps.length≤N.length:=by have:=congrArg List.length S.pre;rw [List.length_take] at this;lia
 obtain⟨h1,tk,rfl,hk⟩:=x.done;have noA:∀b:Addr,b∉(cxOf CX P w K mg base N qual scope f cd A outer s H E).ex:=λ b z=>absurd (show b∈([]:List Addr) from z) (by simp)
 refine⟨⟨e0.mod,S.kind,rfl,rfl,Nat.le_refl _,λ y z c h1 h2=>?_,λ y hy=>?_,λ y c _ h=>?_,e0.qt,Around.frames_deeper e0.frames,.inr ⟨rfl,rfl⟩,λ b z=>absurd z (noA b),e0.bs,e0.bsz,λ b _ _=>noA b,λ b z=>absurd z (noA b),e0.funs,e0.frf⟩,
  rfl,e0.bare,Un.kept hk,⟨_,x.toInCall.ns,λ i y v h1 h2 h3=>?_⟩,λ y c h=>⟨_,x.cell y c h⟩,e0.hok.fresh (Nat.le_refl _),λ y c h=>?_,λ p hp=>absurd (show p∈([]:List (Addr×Obj)) from hp) (by simp),e0.hok.kept hk,?_⟩
 ·exact name_of_addr x.apart (PySem.mem_of_lookup h1) (PySem.mem_of_lookup h2)
 ·have hy:scope.names.lookup y=some .cell\/scope.names.lookup y=some .free:=hy;rcases hy with hy|hy
  ·exact ki hy
  ·exact absurd rfl (S.nofree _ (PySem.mem_of_lookup hy))
 ·exact Nat.le_of_lt (x.above y c (PySem.mem_of_lookup h))
 ·have hi:i<vs.length:=by
   unfold start at h2;by_cases hi:i<vs.length
   ·exact hi
   ·rw [List.getElem?_append_right (by simpa using hi)] at h2;rw [List.getElem?_replicate] at h2
    split at h2<;>cases h2
  have ha:vs[i]?=some v:=by
   unfold start at h2;rw [List.getElem?_append_left (by simpa using hi),List.getElem?_map] at h2;cases e:vs[i]? with
   |none=>rw [e] at h2;cases h2
   |some a=>rw [e] at h2;cases h2;rfl
  obtain⟨u,hu,rv⟩:=r.get ha;have hp:ps[i]?=some y:=by
   rw [<-S.pre,List.getElem?_take_of_lt (by lia)];exact h1
  have ndP:ps.Nodup:=by rw [<-S.pre];exact S.nd.sublist (List.take_sublist _ _)
  refine⟨u,rv,?_⟩;rcases S.par y (List.mem_of_getElem? hp) with k|k
  ·exact .inl ⟨k,iR ndP hp hu k⟩
  ·obtain⟨c,e⟩:=ki (n:=s.heap.objs.size+1) k;refine .inr ⟨.inl k,c,e,?_⟩;have q:=x.cell y c e;rw [ix ndP hp hu (by show scope.names.lookup y≠_;rw [k];decide)] at q;exact q
 ·exact e0.hok.fresh (Nat.le_of_lt (x.above y c (PySem.mem_of_lookup h)))
 ·unfold start;show _=N.length;rw [List.length_append,List.length_map,List.length_replicate];lia
theorem uH {CX:CXT}{P:Program}{w:World}{K:PySem.W.Frag}{mg:Str->Option Value}{base:Heap}{k:Nat}{f:Addr}{name qual:Str}{params:Arguments}{body:List Stmt}{scope:Scope}{dV kV doc pm cdv ct oc:Value}{an od:Option Addr}
  {osl:Array (Option Value)} {N ps:List Str} {sp:Sp} (lk:K.lookup f=some ⟨oc,od,.func (PySem.W.fnOf name qual params body scope dV kV doc pm an cdv ct),osl⟩) (hcd:PySem.W.codeIn K cdv qual=true) (S:FnScope N ps scope)
  (len:∀vs H Q E,sp vs H Q E->vs.length=ps.length)
  (hbody:∀(A:Around) (outer:List Env) (s:Shared) (H:Hp) (vs:List V) (Q:VK) (E:XK),Room k (A.deeper (envOfC qual scope s.heap.objs.size f cdv))->sp vs H Q E->
   ∃t,PSs (cxOf CX P w K mg base N qual scope f cdv A outer s H E) body t/\t {nx:=λ _ H'=>Q .non H',rt:=Q} (start N vs) H):
  FnOk P w K mg base CX (k+1) f (PySem.W.fnOf name qual params body scope dV kV doc pm an cdv ct) ps sp:=by
 refine⟨len,λ A outer s H args us vs Q E hr e0 hb r hsp=>?_⟩;have hl:=len _ _ _ _ hsp;have KX:K.In s.heap:=e0.mod.kin.keeps λ b o e=>(e0.bs b o e).1
 have lim:s.heap.NoLimit:=e0.mod.nolimit.keeps λ b o e=>(e0.bs b o e).1
 have hkind:∀y∈ps.zip us,scope.names.lookup y.1=some .local\/(scope.names.lookup y.1=some .cell/\((cellsFrom (s.heap.objs.size+1) scope.names []).lookup y.1).isSome=true):=λ⟨n,v⟩ hy=>by
  rcases S.par n (List.of_mem_zip hy).1 with q|q
  ·exact .inl q
  ·exact .inr ⟨q,PySem.W.cellsFrom_some _ _ _ (.inl q)⟩
 refine codeAny_call_function hr.depth (KX _ _ lk) rfl S.co S.gen rfl (PySem.W.codeRec_of KX hcd) (hb _ _ _ _ ?_);refine wpAny_newFunctionEnv_cells S.kind hkind λ env he s1 x=>?_
 subst he;refine⟨lim.keeps x.toInCall.keep,codeAny_func ?_⟩;obtain⟨t,ht,hq⟩:=hbody A outer s H vs Q E (hr.deeper _) hsp;have I:Inv (cxOf CX P w K mg base N qual scope f cdv A outer s H E) [] (start N vs) H s1:=iI S e0 hl r x;refine wpAny_mono (ht [] s1 (start N vs) H _ I hq) (λ fl s' hs=>?_) λ e s' hs=>hs
 have fin:∀{σ':St} {H':Hp} {v:V} {u:Value},Inv (cxOf CX P w K mg base N qual scope f cdv A outer s H E) [] σ' H' s'->RelV v u->Q v H'->CE outer P w H s Q u s':=
  λ {σ' H' v u} J rv q=>⟨v,H',J.os,J.bare,J.base,J.hok,rv,q⟩
 cases fl with
 |ret u=>
  obtain⟨v,σ',H',J,rv,q⟩:=hs;exact fin J rv q
 |next=>
  obtain⟨σ',H',J,q⟩:=hs;exact fin (v:=V.non) (u:=Value.none) J rfl q
 |brk=>
  obtain⟨_,_,_,q⟩:=hs;exact False.elim q
 |cont=>
  obtain⟨_,_,_,q⟩:=hs;exact False.elim q
section
variable {X : Cx} {x : Str} {p pos : Pos} {e : Expr} {es : List Expr} {t : TA} {id T : String} {r : List V -> Hp -> VK -> Prop}
def tCB (r:List V->Hp->VK->Prop)(t:TA):TE:=λ σ H Q=>t σ H λ vs H1=>r vs H1 Q
theorem aq (hc:CallR X (.builtin id) r)(hg:Gl X x)(hm:X.mg x=none)(hv:bootBuiltins x=some (.builtin id))(ha:PA X (e::es) t)(hn:x≠ "__name__":=by decide)(hdb:(x==("__debug__":Str))=false:=by decide)
  (he:starEach (e::es) X.env=(false,eval e X.env)::starEach es X.env:=by rfl) (hpl:(backTo pos (starEach es X.env)).any (·.1)=false:=by rfl):PE X (.Call (.Name x p) (e::es) [] pos) (tCB r t):=by
 intro pins s σ H Q I h;refine wpAny_Call_Name_kw (ld_blt I hg hm hv ?_ hn hdb);exact PyProof.Rows.callWith_builtin1 (thn (ha pos pins s σ H _ I h) λ us s1 ⟨vs,H1,I1,r1,q1⟩=>hc pins s1 σ H1 vs us Q I1 r1 q1) he hpl
theorem bj (hc:CallR X (.type T) r)(hg:Gl X x)(hm:X.mg x=none)(hv:bootBuiltins x=some (.type T))(ha:PA X (e::es) t)(hn:x≠ "__name__":=by decide)(hdb:(x==("__debug__":Str))=false:=by decide)
  (he:starEach (e::es) X.env=(false,eval e X.env)::starEach es X.env:=by rfl) (hpl:(backTo pos (starEach es X.env)).any (·.1)=false:=by rfl):PE X (.Call (.Name x p) (e::es) [] pos) (tCB r t):=by
 intro pins s σ H Q I h;refine wpAny_Call_Name_kw (ld_blt I hg hm hv ?_ hn hdb);exact PyProof.Rows.callWith_type1 (thn (ha pos pins s σ H _ I h) λ us s1 ⟨vs,H1,I1,r1,q1⟩=>hc pins s1 σ H1 vs us Q I1 r1 q1) he hpl
end
end L2
namespace HT
open PySem PyProof.Rows
section
open PySem.SeqAt
open PySem.AutoSeq1 (wpAny_loadPart')
open PySem.MeetsSeq PySem.MeetsSeq2 PySem.MeetsSeq3
end
section
variable {prog : Program} {w : World} {A : Around} {E : Value -> Shared -> Prop} {s : Shared}
def sIx (n d:Nat):Option Int->Nat
 |none=>d
 |some v=>if v<0 then(v+(n:Int)).toNat else min v.toNat n
theorem sIx_none (n d:Nat):sIx n d none=d:=rfl
theorem sIx_nat (n d k:Nat):sIx n d (some (k:Int))=min k n:=by
 show(if(k:Int)<0 then((k:Int)+(n:Int)).toNat else min (k:Int).toNat n)=min k n;rw [if_neg (by lia),Int.toNat_natCast]
end
end HT
namespace L2
open PySem PySem.Spec PyProof.Rows
abbrev TO:=St->Hp->(Option Int->Hp->Prop)->Prop
def PO (X:Cx)(e:Option Expr)(t:TO):Prop:=
 ∀(pins:List (Addr×Obj)) (s:Shared) (σ:St) (H:Hp) (Q:Option Int->Hp->Prop),Inv X pins σ H s->t σ H Q->
  wpAny (model X.prog X.w) X.A (evalPart e X.env) (λ u s'=>∃o H',Inv X pins σ H' s'/\IsPart u o/\Q o H') X.xe s
def uG:TO:=λ _ H Q=>Q none H
def wQ (t:TE):TO:=λ σ H Q=>t σ H λ x H1=>∃i,x=.int i/\Q (some i) H1
theorem cb {ns:List Int}:∀{us:List Value},Vals (ns.map V.int) us->IntsAre us ns:=by
 induction ns with
 |nil=>intro us r;rw [List.map_nil] at r;cases r;exact .nil
 |cons n ns ih=>
  intro us r;rw [List.map_cons] at r;cases r with
  |cons r1 r2=>
   obtain⟨t,e⟩:=r1;subst e;exact .cons n t (ih r2)
section
variable {X : Cx} {e : Expr} {te : TE} {lo hi : Option Expr} {tl th : TO} {pos p2 : Pos}
theorem gh:PO X none uG:=by
 intro pins s σ H Q I h;rw [evalPart_none];exact wpAny_pure ⟨none,H,I,.none,h⟩
theorem cN (h:PE X e te):PO X (some e) (wQ te):=by
 intro pins s σ H Q I hw;rw [evalPart_some];refine thn (h pins s σ H _ I hw) λ u s1 ⟨x,H1,I1,r1,q1⟩=>?_
 obtain⟨i,rfl,q⟩:=q1;obtain⟨t,rfl⟩:=r1;exact⟨some i,H1,I1,.int i t,q⟩
def SlR (X:Cx)(r:V->Option Int->Option Int->Hp->VK->Prop):Prop:=
 ∀(pins:List (Addr×Obj)) (s:Shared) (σ:St) (H:Hp) (x:V) (v vl vu:Value) (lo hi:Option Int) (sl:Addr) (Q:VK),Inv X pins σ H s->RelV x v->s.heap.IsSliceOf sl vl vu .none->IsPart vl lo->IsPart vu hi->r x lo hi H Q->
  ∃T id,typeLookup (.type T) "__getitem__"=pure (some (.builtin id))/\s.TypeIs v T/\wpAny (model X.prog X.w) X.A (getItem v (.ref sl)) (EP X pins σ Q) X.xe s
theorem SlR.or {r r':V->Option Int->Option Int->Hp->VK->Prop}(h:SlR X r)(h':SlR X r'):SlR X (λ x lo hi H Q=>r x lo hi H Q\/r' x lo hi H Q):=by
 intro pins s σ H x v vl vu lo hi sl Q I rx hs pl pu q;rcases q with q|q
 ·exact h pins s σ H x v vl vu lo hi sl Q I rx hs pl pu q
 ·exact h' pins s σ H x v vl vu lo hi sl Q I rx hs pl pu q
def tSl (r:V->Option Int->Option Int->Hp->VK->Prop)(te:TE)(tl th:TO):TE:=λ σ H Q=>te σ H λ x H1=>tl σ H1 λ l H2=>th σ H2 λ u H3=>r x l u H3 Q
theorem cT {r:V->Option Int->Option Int->Hp->VK->Prop}(hr:SlR X r)(he:PE X e te)(hl:PO X lo tl)(hu:PO X hi th):PE X (.Subscript e (.Slice lo hi none p2) pos) (tSl r te tl th):=by
 intro pins s σ H Q I h;refine Subscript_ (thn (he pins s σ H _ I h) λ v s1 ⟨x,H1,I1,r1,q1⟩=>?_);refine wpAny_Slice (thn (hl pins s1 σ H1 _ I1 q1) λ vl s2 ⟨l,H2,I2,pl,q2⟩=>thn (hu pins s2 σ H2 _ I2 q2) λ vu s3 ⟨u,H3,I3,pu,q3⟩=>?_);rw [evalPart_none];refine wpAny_pure ?_;have I4:Inv X pins σ H3 {s3 with heap:=s3.heap.push {cls:=.type "slice",data:=.fields #[vl,vu,.none]}}:=I3.kept (t':=s3.toks) λ b ob q=>Heap.get?_push_of_some _ q
 obtain⟨T,id,hT,ht,hg⟩:=hr pins {s3 with heap:=s3.heap.push {cls:=.type "slice",data:=.fields #[vl,vu,.none]}} σ H3 x v vl vu l u s3.heap.objs.size Q I4 r1 (Heap.IsSliceOf.new ..) pl pu q3;show wpAny (model X.prog X.w) X.A (subscriptTail e (.Slice lo hi none p2) v (.ref s3.heap.objs.size)) (EP X pins σ Q) X.xe {s3 with heap:=s3.heap.push {cls:=.type "slice",data:=.fields #[vl,vu,.none]}};exact tail_any (ops:=[.ref s3.heap.objs.size,v]) ht hT hg (by with_unfolding_all rfl)
def cutV (xs:List V)(lo hi:Option Int):List V:=(xs.drop (HT.sIx xs.length 0 lo)).take (HT.sIx xs.length xs.length hi-HT.sIx xs.length 0 lo)
theorem kB (xs:List V)(lo hi:Option Int):(cutV xs lo hi).length≤xs.length:=by
 unfold cutV;rw [List.length_take,List.length_drop];lia
end
def ixN (n:Nat)(i:Int):Option Nat:=if 0≤i then(if i<n then some i.toNat else none) else if-(n:Int)≤i then some (i+n).toNat else none
def atI {α:Type}(xs:List α)(i:Int):Option α:=(ixN xs.length i).bind λ j=>xs[j]?
theorem nD {n:Nat}{i:Int}{j:Nat}(h:ixN n i=some j):seqIndex? i n=some j/\j<n/\-(n:Int)≤i/\i<n:=by
 unfold ixN at h;by_cases h0:0≤i
 ·rw [if_pos h0] at h;by_cases h1:i<n
  ·rw [if_pos h1] at h;have e:i.toNat=j:=Option.some.inj h;exact⟨by rw [seqIndex_of h0 h1,e],by lia,by lia,h1⟩
  ·rw [if_neg h1] at h;cases h
 ·rw [if_neg h0] at h;by_cases h1:-(n:Int)≤i
  ·rw [if_pos h1] at h;have e:(i+n).toNat=j:=Option.some.inj h;exact⟨by rw [seqIndex_neg (by lia) h1,e],by lia,h1,by lia⟩
  ·rw [if_neg h1] at h;cases h
theorem jo {α:Type}{xs:List α}{i:Int}{v:α}(h:atI xs i=some v):∃j,seqIndex? i xs.length=some j/\xs[j]?=some v/\j<xs.length/\-(xs.length:Int)≤i/\i<xs.length:=by
 unfold atI at h;cases e:ixN xs.length i with
 |none=>rw [e] at h;cases h
 |some j=>
  rw [e] at h;obtain⟨h1,h2,h3,h4⟩:=nD e;exact⟨j,h1,h,h2,h3,h4⟩
theorem aw {α:Type}{xs:List α}{j:Nat}{v:α}(h:xs[j]?=some v):atI xs (j:Int)=some v:=by
 have hj:j<xs.length:=(List.getElem?_eq_some_iff.mp h).1;have e:ixN xs.length (j:Int)=some j:=by
  unfold ixN;rw [if_pos (by lia),if_pos (by lia)];simp
 unfold atI;rw [e];exact h
def sF (b:Expr):Prop:=∀o i,subscripted b false o i=operate [o,i] (getItem o i)
def IxR (X:Cx)(r:R2):Prop:=
 ∀(value slice:Expr) (pins:List (Addr×Obj)) (s:Shared) (σ:St) (H:Hp) (x y:V) (v u:Value) (Q:VK),Inv X pins σ H s->RelV x v->RelV y u->r x y H Q->
  subscripted slice false v u=operate [v,u] (getItem v u)->wpAny (model X.prog X.w) X.A (subscriptTail value slice v u) (EP X pins σ Q) X.xe s
def MtR (X:Cx)(id:String)(r:V->List V->Hp->VK->Prop):Prop:=
 ∀(pins:List (Addr×Obj)) (s:Shared) (σ:St) (H:Hp) (x:V) (xs:List V) (v:Value) (us:List Value) (Q:VK),Inv X pins σ H s->RelV x v->Vals xs us->r x xs H Q->
  wpAny (model X.prog X.w) X.A (call (.builtin id) (v::us)) (EP X pins σ Q) X.xe s
section
variable {X : Cx} {a b : Expr} {ta tb : TE} {pos : Pos}
theorem IxR.or {r r':R2}(h:IxR X r)(h':IxR X r'):IxR X (λ x y H Q=>r x y H Q\/r' x y H Q):=by
 intro value slice pins s σ H x y v u Q I rx ry q hs;rcases q with q|q
 ·exact h value slice pins s σ H x y v u Q I rx ry q hs
 ·exact h' value slice pins s σ H x y v u Q I rx ry q hs
theorem MtR.or {id:String}{r r':V->List V->Hp->VK->Prop}(h:MtR X id r)(h':MtR X id r'):MtR X id (λ x xs H Q=>r x xs H Q\/r' x xs H Q):=by
 intro pins s σ H x xs v us Q I rx rs q;rcases q with q|q
 ·exact h pins s σ H x xs v us Q I rx rs q
 ·exact h' pins s σ H x xs v us Q I rx rs q
theorem aL {r:R2}(hr:IxR X r)(ha:PE X a ta)(hb:PE X b tb)(hs:sF b):PE X (.Subscript a b pos) (tOp r ta tb):=by
 intro pins s σ H Q I h;exact Subscript_ (binT ha hb I h λ v u s2 x y H2 I2 rx ry q=>hr a b pins s2 σ H2 x y v u Q I2 rx ry q (hs _ _))
def xF (K:PySem.W.Frag):R2:=λ x y H Q=>∃p xs i v,x=.ref p/\y=.int i/\SqL K H p xs/\atI xs i=some v/\Q v H
def xS (K:PySem.W.Frag):R2:=λ x y H Q=>∃p xs i v,x=.ref p/\y=.int i/\SqT K H p xs/\atI xs i=some v/\Q v H
def xW:R2:=λ x y H Q=>∃z i c,x=.str z/\y=.int i/\z.length≤sizeLine/\atI z.cps.toList i=some c/\Q (.str ⟨#[c]⟩) H
theorem aN:IxR X (xF X.K):=by
 intro value slice pins s σ H x y v u Q I rx ry h hs;obtain⟨p,xs,i,z,rfl,rfl,hq,he,q⟩:=h;cases rx;obtain⟨t,rfl⟩:=ry;obtain⟨its,r,pl,hz⟩:=I.list hq;obtain⟨j,h1,h2,h3,h4,h5⟩:=jo he;obtain⟨w,ew,rw'⟩:=r.get h2;have hl:=r.length;have hn:=fg;have fin:EP X pins σ Q w s:=⟨z,H,I,rw',q⟩;by_cases h0:0≤i
 ·have hj:i.toNat=j:=by
   rw [seqIndex_of h0 h5] at h1;exact Option.some.inj h1
  exact item_listR pl.isList h0 (by lia) (by rw [hj];simpa using ew) fin hs
 ·have hj:(i+(its.toArray.size:Int)).toNat=j:=by
   rw [seqIndex_neg (by lia) h4] at h1;rw [List.size_toArray,<-hl];exact Option.some.inj h1
  exact subscriptTail_builtinR (x:=w) pl.isList.typeIs slot_list_getitem.lookup
   (wpAny_getItem_list_neg (Q:=λ r s'=>r=w/\EP X pins σ Q r s') pl.isList (by lia) (by rw [List.size_toArray]<;>lia) (by lia) (by rw [hj];simpa using ew) ⟨rfl,fin⟩) hs
theorem a9:IxR X (xS X.K):=by
 intro value slice pins s σ H x y v u Q I rx ry h hs;obtain⟨p,xs,i,z,rfl,rfl,hq,he,q⟩:=h;cases rx;obtain⟨t,rfl⟩:=ry;obtain⟨its,r,pl,hz⟩:=I.tuple hq;obtain⟨j,h1,h2,h3,h4,h5⟩:=jo he;obtain⟨w,ew,rw'⟩:=r.get h2;have hl:=r.length;have hn:=fg;have fin:EP X pins σ Q w s:=⟨z,H,I,rw',q⟩;exact subscriptTail_builtinR (x:=w) pl.typeIs slot_tuple_getitem.lookup
  (getItem_tuple (j:=j) (Q:=λ r s'=>r=w/\EP X pins σ Q r s') pl (by lia) (by lia) (by rw [List.size_toArray,<-hl];exact h1) (by simpa using ew) ⟨rfl,fin⟩) hs
theorem vc:IxR X xW:=by
 intro value slice pins s σ H x y v u Q I rx ry h hs;obtain⟨z,i,c,rfl,rfl,hz,he,q⟩:=h;obtain⟨t,rfl⟩:=rx;obtain⟨t',rfl⟩:=ry;obtain⟨j,h1,h2,h3,h4,h5⟩:=jo he;have hl:z.cps.toList.length=z.length:=by simp [Str.length]
 rw [hl] at h1 h4 h5;have hn:=fg;exact tail_any (typeIs_str s z t) slot_str_getitem.lookup (getItem_str (c:=c) (by
  have e1:decide (i< -(2^63:Int))=false:=decide_eq_false (by lia);have e2:decide (i≥2^63)=false:=decide_eq_false (by lia);rw [e1,e2,Bool.or_false]) (by rw [h1];simpa using h2) ⟨.str ⟨#[c]⟩,H,I.tok _,⟨_,rfl⟩,q⟩) hs
theorem mz (its:List Value)(n j:Nat)(u:Value):Obj.mapSeq (·.setIfInBounds j u) {cls:=.type "list",data:=.seq its.toArray n}={cls:=.type "list",data:=.seq (its.set j u).toArray n}:=by
 simp [Obj.mapSeq]
theorem Inv.lst {pins:List (Addr×Obj)}{σ:St}{H:Hp}{s:Shared}{p:Addr}{xs:List V}(I:Inv X pins σ H s)(h:H p=some (.lst xs)):
  ∃(its:List Value) (n:Nat),Vals xs its/\s.heap.get? p=some {cls:=.type "list",data:=.seq its.toArray n}/\xs.length≤sizeLine:=by
 obtain⟨z,its,n,r,e⟩:=I.hok p _ h;exact⟨its,n,r,e,z⟩
theorem Inv.lstUpd {pins:List (Addr×Obj)}{σ:St}{H:Hp}{s:Shared}{p:Addr}{xs ys:List V}{its its':List Value}{n n':Nat}{f:Obj->Obj}(I:Inv X pins σ H s)(h:H p=some (.lst xs))
  (ho:s.heap.get? p=some {cls:=.type "list",data:=.seq its.toArray n}) (hf:f {cls:=.type "list",data:=.seq its.toArray n}={cls:=.type "list",data:=.seq its'.toArray n'}) (r:Vals ys its') (hz:ys.length≤sizeLine) (t:Nat):
  Inv X pins σ (upd H p (.lst ys)) {s with heap:=s.heap.update p f,toks:=t}:=by
 have e:(s.heap.update p f).get? p=some {cls:=.type "list",data:=.seq its'.toArray n'}:=by
  rw [Heap.get?_update_self f ho (by rw [hf]<;>rfl),hf]
 refine I.write (x:=p) (e:=p) (by rw [h];trivial) (.inl rfl) (λ b u hb q=>(Heap.get?_update_other _ _ (Ne.symm hb)).trans q) ⟨_,e⟩ ?_;exact⟨hz,its',n',r,e⟩
def wR:V->V->V->Hp->(Hp->Prop)->Prop:=λ o i v H Q=>∃p xs k j,o=.ref p/\i=.int k/\H p=some (.lst xs)/\ixN xs.length k=some j/\Q (upd H p (.lst (xs.set j v)))
theorem cW:wu X wR:=by
 intro pins s σ H o i v ov iv u Q I ro ri rv h;obtain⟨p,xs,k,j,rfl,rfl,hp,hj,q⟩:=h;cases ro;obtain⟨t,rfl⟩:=ri;obtain⟨its,n,r,ho,hz⟩:=I.lst hp;obtain⟨h1,h2,h3,h4⟩:=nD hj;have hl:=r.length;have hn:=fg;have I':Inv X pins σ (upd H p (.lst (xs.set j v))) {s with heap:=s.heap.update p (Obj.mapSeq (·.setIfInBounds j u))}:=
  I.lstUpd hp ho (mz its n j u) (r.set rv j) (by rw [List.length_set];exact hz) s.toks
 by_cases h0:0≤k
 ·have hk:k.toNat=j:=by
   rw [seqIndex_of h0 h4] at h1;exact Option.some.inj h1
  exact PySem.W.ki_setAt ho h0 (by lia) (by rw [List.size_toArray,<-hl];exact h4) (by rw [hk];exact⟨_,I',q⟩)
 ·have hk:(k+(its.toArray.size:Int)).toNat=j:=by
   rw [seqIndex_neg (by lia) h3] at h1;rw [List.size_toArray,<-hl];exact Option.some.inj h1
  exact PySem.W.ki_setBack ho (by lia) (by rw [List.size_toArray,<-hl];exact h3) (by lia) (by rw [hk];exact⟨_,I',q⟩)
theorem jA (lo hi:Option Int)(n:Nat):(sliceBounds lo hi none n).1=((HT.sIx n 0 lo:Nat):Int)/\(sliceBounds lo hi none n).2.1=((HT.sIx n n hi:Nat):Int)/\(sliceBounds lo hi none n).2.2=1:=by
 refine⟨?_,?_,rfl⟩
 ·cases lo with
  |none=>simp [sliceBounds,HT.sIx]
  |some i=>
   simp only [sliceBounds,HT.sIx,Option.getD_none,show(1:Int)>0 by decide,if_true];by_cases h:i<0
   ·simp only [h,if_true]<;>lia
   ·simp only [h,if_false]<;>lia
 ·cases hi with
  |none=>simp [sliceBounds,HT.sIx]
  |some i=>
   simp only [sliceBounds,HT.sIx,Option.getD_none,show(1:Int)>0 by decide,if_true];by_cases h:i<0
   ·simp only [h,if_true]<;>lia
   ·simp only [h,if_false]<;>lia
theorem g8 (its:List Value)(lo hi:Option Int):slicePick its.toArray lo hi none=((its.drop (HT.sIx its.length 0 lo)).take (HT.sIx its.length its.length hi-HT.sIx its.length 0 lo)).toArray:=by
 obtain⟨h1,h2,h3⟩:=jA lo hi its.toArray.size;unfold slicePick;rw [h1,h2,h3];simp only [sliceRange_one,pick_run,List.size_toArray]<;>rfl
def x3 (K:PySem.W.Frag):V->Option Int->Option Int->Hp->VK->Prop:=λ x lo hi H Q=>∃a xs,x=.ref a/\SqL K H a xs/\∀p,H p=none->Q (.ref p) (upd H p (.lst (cutV xs lo hi)))
theorem fU:SlR X (x3 X.K):=by
 intro pins s σ H x v vl vu lo hi sl Q I rx hs pl pu h;obtain⟨a,xs,rfl,hx,q⟩:=h;cases rx;obtain⟨its,r,ht,hz⟩:=I.list hx;have hlen:=r.length;refine⟨"list",_,slot_list_getitem.lookup,ht.isList.typeIs,?_⟩;refine wpAny_getItem_list_slice ht.isList hs pl pu .none (by simp) ?_ (by rw [List.size_toArray]<;>lia);rw [g8,<-hlen];refine⟨.ref s.heap.objs.size,_,I.laid (t':=s.toks) (o:=.lst (cutV xs lo hi)) (λ b ob q=>Heap.get?_push_of_some _ q) (Nat.le_refl _) ?_,rfl,q _ (I.hok.fresh (Nat.le_refl _))⟩;exact⟨Nat.le_trans (kB xs lo hi) hz,_,0,(r.drop (HT.sIx xs.length 0 lo)).take (HT.sIx xs.length xs.length hi-HT.sIx xs.length 0 lo),Heap.get?_push_size _ rfl⟩
def flatV:V->Bool
 | .non=>true
 | .bl _=>true
 | .int _=>true
 | .str _=>true
 |_=>false
def eqV:V->V->Bool
 | .non,.non=>true
 | .bl a,.bl b=>a==b
 | .bl a,.int b=>(if a then 1 else 0)==b
 | .int a,.bl b=>a==(if b then 1 else 0)
 | .int a,.int b=>a==b
 | .str a,.str b=>a==b
 |_,_=>false
theorem pJ {A:Around}{s:Shared}{y x:V}{u v:Value}(ry:RelV y u)(rx:RelV x v)(fy:flatV y=true)(fx:flatV x=true):SeqAt.EqAt A s u v (eqV y x):=by
 cases y with
 |non=>
  cases ry;cases x with
  |non=>cases rx;exact SeqAt.EqAt.same _
  |bl b=>cases rx;exact SeqAt.EqAt.none_bool b
  |int b=>obtain⟨t,rfl⟩:=rx;exact SeqAt.EqAt.none_int b t
  |str b=>obtain⟨t,rfl⟩:=rx;exact SeqAt.EqAt.none_str b t
  |_=>exact absurd (show false=true from fx) Bool.false_ne_true
 |bl a=>
  cases ry;cases x with
  |non=>cases rx;exact SeqAt.EqAt.bool_none a
  |bl b=>cases rx;exact SeqAt.EqAt.bool_bool a b
  |int b=>obtain⟨t,rfl⟩:=rx;exact SeqAt.EqAt.bool_int a b t
  |str b=>obtain⟨t,rfl⟩:=rx;exact SeqAt.EqAt.bool_str a b t
  |_=>exact absurd (show false=true from fx) Bool.false_ne_true
 |int a=>
  obtain⟨t',rfl⟩:=ry;cases x with
  |non=>cases rx;exact SeqAt.EqAt.int_none a t'
  |bl b=>cases rx;exact SeqAt.EqAt.int_bool a t' b
  |int b=>obtain⟨t,rfl⟩:=rx;exact SeqAt.EqAt.int_int a t' b t
  |str b=>obtain⟨t,rfl⟩:=rx;exact SeqAt.EqAt.int_str a t' b t
  |_=>exact absurd (show false=true from fx) Bool.false_ne_true
 |str a=>
  obtain⟨t',rfl⟩:=ry;cases x with
  |non=>cases rx;exact SeqAt.EqAt.str_none a t'
  |bl b=>cases rx;exact SeqAt.EqAt.str_bool a t' b
  |int b=>obtain⟨t,rfl⟩:=rx;exact SeqAt.EqAt.str_int a t' b t
  |str b=>obtain⟨t,rfl⟩:=rx;exact SeqAt.EqAt.str_str a t' b t
  |_=>exact absurd (show false=true from fx) Bool.false_ne_true
 |_=>exact absurd (show false=true from fy) Bool.false_ne_true
def eqU (x:V)(u:Value):Bool:=match u with
 | .none=>eqV .non x
 | .bool b=>eqV (.bl b) x
 | .int i _=>eqV (.int i) x
 | .str z _=>eqV (.str z) x
 |_=>false
theorem pL {x y:V}{u:Value}(r:RelV y u)(f:flatV y=true):eqU x u=eqV y x:=by
 cases y with
 |non=>cases r;rfl
 |bl b=>cases r;rfl
 |int i=>obtain⟨t,rfl⟩:=r;rfl
 |str z=>obtain⟨t,rfl⟩:=r;rfl
 |_=>exact absurd (show false=true from f) Bool.false_ne_true
theorem jy {x:V}:∀{xs:List V} {us:List Value},Vals xs us->xs.all flatV=true->us.any (eqU x)=xs.any λ y=>eqV y x
 |_,_,.nil,_=>rfl
 |y::xs,u::us,.cons r t,f=>by
  rw [List.all_cons,Bool.and_eq_true] at f;rw [List.any_cons,List.any_cons,pL r f.1,jy t f.2]
theorem dZ {A:Around}{s:Shared}{x:V}{v:Value}(rx:RelV x v)(fx:flatV x=true):∀{xs:List V} {us:List Value},Vals xs us->xs.all flatV=true->∀u∈us,SeqAt.EqAt A s u v (eqU x u)
 |_,_,.nil,_=>λ u hu=>by cases hu
 |y::xs,u::us,.cons r t,f=>λ u' hu=>by
  rw [List.all_cons,Bool.and_eq_true] at f;rcases List.mem_cons.mp hu with rfl|hu
  ·rw [pL r f.1];exact pJ r rx f.1 fx
  ·exact dZ rx fx t f.2 u' hu
def inV (x:V)(xs:List V):Bool:=xs.any λ y=>eqV y x
def rIn (K:PySem.W.Frag)(neg:Bool):R2:=λ x y H Q=>∃p xs,y=.ref p/\(SqL K H p xs\/SqT K H p xs)/\flatV x=true/\xs.all flatV=true/\Q (.bl (if neg then !inV x xs else inV x xs)) H
theorem jc:OpR X (compareOp .NotIn) (rIn X.K true):=by
 intro pins s σ H x y v u Q I rx ry h;obtain⟨p,xs,rfl,hq,fx,fs,q⟩:=h;cases ry;rcases hq with hq|hq
 ·obtain⟨its,r,pl,hz⟩:=I.list hq;refine SeqAt.notIn_listAt (eqU x) pl.isList (λ w hw=>dZ rx fx r fs w (by simpa using hw)) ⟨.bl _,H,I,rfl,?_⟩;rw [show its.toArray.any (eqU x)=its.any (eqU x) by simp,jy r fs];exact q
 ·obtain⟨its,r,pl,hz⟩:=I.tuple hq;refine SeqAt.notIn_tupleAt (eqU x) pl (λ w hw=>dZ rx fx r fs w (by simpa using hw)) ⟨.bl _,H,I,rfl,?_⟩;rw [show its.toArray.any (eqU x)=its.any (eqU x) by simp,jy r fs];exact q
theorem ao:CallR X (.builtin "len") (λ xs H Q=>∃p ys,xs=[.ref p]/\(SqL X.K H p ys\/SqT X.K H p ys)/\Q (.int ys.length) H):=by
 intro pins s σ H xs us Q I r h;obtain⟨p,ys,rfl,hq,q⟩:=h;obtain⟨u,rfl,rx⟩:=eA r;cases rx;have hn:=fg;rcases hq with hq|hq
 ·obtain⟨its,r',pl,hz⟩:=I.list hq;have hlen:=r'.length;exact Calls.call_len_list pl.isList (by simp only [List.size_toArray]<;>lia) ⟨.int ys.length,H,I.tok _,⟨s.toks+1,by rw [List.size_toArray,hlen]⟩,q⟩
 ·obtain⟨its,r',pl,hz⟩:=I.tuple hq;have hlen:=r'.length;exact len_tuple pl (by simp only [List.size_toArray]<;>lia) ⟨.int ys.length,H,I.tok _,⟨s.toks+1,by rw [List.size_toArray,hlen]⟩,q⟩
theorem bQ:CallR X (.builtin "len") (λ xs H Q=>∃z,xs=[.str z]/\z.length≤sizeLine/\Q (.int z.length) H):=by
 intro pins s σ H xs us Q I r h;obtain⟨z,rfl,hz,q⟩:=h;obtain⟨u,rfl,t,rfl⟩:=eA r;have hn:=fg;exact len_str (by lia) ⟨.int z.length,H,I.tok _,⟨_,rfl⟩,q⟩
theorem CallR.or {f:Value}{r r':List V->Hp->VK->Prop}(h:CallR X f r)(h':CallR X f r'):CallR X f (λ xs H Q=>r xs H Q\/r' xs H Q):=by
 intro pins s σ H xs us Q I rs q;rcases q with q|q
 ·exact h pins s σ H xs us Q I rs q
 ·exact h' pins s σ H xs us Q I rs q
theorem aZ:CallR X (.type "list") (λ xs H Q=>∃p ys,xs=[.ref p]/\(SqL X.K H p ys\/SqT X.K H p ys)/\∀l,H l=none->Q (.ref l) (upd H l (.lst ys))):=by
 intro pins s σ H xs us Q I r h;obtain⟨p,ys,rfl,hq,q⟩:=h;obtain⟨u,rfl,rx⟩:=eA r;cases rx;have fin:∀(its:List Value),Vals ys its->ys.length≤sizeLine->∀(h':Heap) (c':Nat),(∀b o',s.heap.get? b=some o'->h'.get? b=some o')->
   h'.get? s.heap.objs.size=some {cls:=.type "list",dict:=none,data:=.seq its.toArray c',slots:=#[]}->EP X pins σ Q (.ref s.heap.objs.size) {s with heap:=h'}:=λ its r' hz h' c' kp e=>
  ⟨.ref s.heap.objs.size,_,I.laid (t':=s.toks) kp (Nat.le_refl _) (show ObjOk X.prog X.w _ h' _ (.lst ys) from⟨hz,its,c',r',e⟩),rfl,q _ (I.hok.fresh (Nat.le_refl _))⟩
 rcases hq with hq|hq
 ·obtain⟨its,r',pl,hz⟩:=I.list hq;have hlen:=r'.length;obtain⟨o,ho,hc,n,hd⟩:=pl.isList;exact call_list_seq p (.inl rfl) ho hc hd (λ h' c' kp e=>fin its r' hz h' c' kp e) (by simp only [List.size_toArray]<;>lia)
 ·obtain⟨its,r',pl,hz⟩:=I.tuple hq;have hlen:=r'.length;obtain⟨o,ho,hc,n,hd⟩:=pl;exact call_list_seq p (.inr rfl) ho hc hd (λ h' c' kp e=>fin its r' hz h' c' kp e) (by simp only [List.size_toArray]<;>lia)
def tyV (K:PySem.W.Frag)(T:String)(x:V)(H:Hp):Prop:=match x with
 | .str _=>T="str"
 | .int _=>T="int"
 | .ref p=>(T="list"/\∃xs,SqL K H p xs)\/(T="tuple"/\∃o,K.lookup p=some o/\o.cls=.type "tuple"/\o.dict=none)\/
   (T="dict"/\((∃kvs,H p=some (.dK kvs))\/∃kvs,H p=some (.dT kvs)))\/(T="set"/\∃S n,H p=some (.set S n))
 |_=>False
theorem rj {pins:List (Addr×Obj)}{σ:St}{H:Hp}{s:Shared}{T:String}{x:V}{v:Value}(I:Inv X pins σ H s)(r:RelV x v)(ty:tyV X.K T x H):
  s.TypeIs v T/\∀a,v=.ref a->∃ob,s.heap.get? a=some ob/\ob.dict=none:=by
 cases x with
 |str z=>
  obtain⟨t,rfl⟩:=r;cases(show T="str" from ty);exact⟨typeIs_str s z t,λ _ e=>nomatch e⟩
 |int i=>
  obtain⟨t,rfl⟩:=r;cases(show T="int" from ty);exact⟨typeIs_int s i t,λ _ e=>nomatch e⟩
 |ref p=>
  cases r;rcases ty with⟨rfl,xs,hq⟩|⟨rfl,o,hk,hc,hd⟩|⟨rfl,hk⟩|⟨rfl,S,n,hk⟩
  ·obtain⟨its,_,pl,_⟩:=I.list hq;refine⟨pl.isList.typeIs,λ a e=>?_⟩;cases e;obtain⟨o,n,e,c,hd,_⟩:=pl;exact⟨o,e,hd⟩
  ·refine⟨⟨o,I.kIn p o hk,hc⟩,λ a e=>?_⟩;cases e;exact⟨o,I.kIn _ o hk,hd⟩
  ·have z:∃o,s.heap.get? p=some o/\o.ExactDict:=by
    rcases hk with⟨kvs,hk⟩|⟨kvs,hk⟩
    ·obtain⟨_,_,_,_,o,_,_,e,ex,_⟩:=I.hok p _ hk;exact⟨o,e,ex⟩
    ·obtain⟨_,_,_,_,o,_,_,e,ex,_⟩:=I.hok p _ hk;exact⟨o,e,ex⟩
   obtain⟨o,e,ex⟩:=z;refine⟨⟨o,e,ex.1⟩,λ a e2=>?_⟩;cases e2;exact⟨o,e,ex.2.1⟩
  ·obtain⟨o,_,_,_,e,ex,_⟩:=I.hok p _ hk;refine⟨⟨o,e,ex.1⟩,λ a e2=>?_⟩;cases e2;exact⟨o,e,ex.2.1⟩
 |_=>exact False.elim ty
def xK (K:PySem.W.Frag)(T:String)(r:V->List V->Hp->VK->Prop)(to:TE):TE:=λ σ H Q=>to σ H λ x H1=>tyV K T x H1/\r x [] H1 Q
def tBM (K:PySem.W.Frag)(T:String)(r:V->List V->Hp->VK->Prop)(to:TE)(t:TA):TE:=λ σ H Q=>to σ H λ x H1=>tyV K T x H1/\t σ H1 λ xs H2=>r x xs H2 Q
variable {o e : Expr} {es : List Expr} {to : TE} {t : TA} {name : Str} {apos cpos : Pos} {T id : String} {r : V -> List V -> Hp -> VK -> Prop}
theorem vZ (pa:PlainAttrs T)(slot:Slot T name id)(hty:typeOf (.builtin id)=pure (.type "method_descriptor"))(hm:MtR X id r)(ho:PE X o to)
  (hbase:attributeBase o name X.env (eval o X.env)=eval o X.env:=by rfl) (hline:(apos.endLine==cpos.line)=true:=by rfl):PE X (.Call (.Attribute o name apos) [] [] cpos) (xK X.K T r to):=by
 intro pins s σ H Q I h;refine wpAny_Call_method0_late hbase hline (thn (ho pins s σ H _ I h) λ v s1 ⟨x,H1,I1,r1,ty,q1⟩=>?_);obtain⟨h1,h2⟩:=rj I1 r1 ty;exact⟨T,id,pa,slot,hty,h1,h2,Calls.callWith_builtin rfl (PySem.evalArgs_none (hm pins s1 σ H1 x [] v [] Q I1 r1 .nil q1))⟩
theorem b7 (pa:PlainAttrs T)(slot:Slot T name id)(hty:typeOf (.builtin id)=pure (.type "method_descriptor"))(hm:MtR X id r)(ho:PE X o to)(ha:PA X (e::es) t)
  (hbase:attributeBase o name X.env (eval o X.env)=eval o X.env:=by rfl)
  (hfew:((backTo cpos (starEach (e::es) X.env)).all (λ x=> !x.1)&&(backToKw cpos (keywordEach [] X.env)).all (λ x=>x.1.isSome)
   &&decide ((e::es).length+([]:List Keyword).length+(if([]:List Keyword).isEmpty then 0 else 1)<30))=true:=by rfl)
  (hline:(apos.endLine==cpos.line)=true:=by rfl) (hs:starEach (e::es) X.env=(false,eval e X.env)::starEach es X.env:=by rfl) (hplain:(backTo cpos (starEach es X.env)).any (·.1)=false:=by rfl):
  PE X (.Call (.Attribute o name apos) (e::es) [] cpos) (tBM X.K T r to t):=by
 intro pins s σ H Q I h;refine wpAny_Call_method_late hbase hfew hline rfl (thn (ho pins s σ H _ I h) λ v s1 ⟨x,H1,I1,r1,ty,q1⟩=>?_);obtain⟨h1,h2⟩:=rj I1 r1 ty;refine⟨T,id,pa,slot,hty,h1,h2,?_⟩;have hA:=ha cpos pins s1 σ H1 _ I1 q1;rw [hs] at hA ⊢;refine Calls.callWith_builtin (by show(false||(backTo cpos (starEach es X.env)).any (·.1))=false;rw [hplain]<;>rfl) (Calls.evalArgs_plain ?_);exact thn hA λ us s2 ⟨vs,H2,I2,r2,q2⟩=>hm pins s2 σ H2 x vs v us Q I2 r1 r2 q2
end
def MtM (X:Cx)(id:String)(r:V->List V->Hp->VK->Prop):Prop:=
 ∀(pins:List (Addr×Obj)) (s:Shared) (σ:St) (H:Hp) (x:V) (xs:List V) (v:Value) (us:List Value) (Q:VK),Inv X pins σ H s->RelV x v->Vals xs us->r x xs H Q->
  wpAny (model X.prog X.w) X.A (call (.builtin id) (v::us)) (EP X pins σ Q) X.xe s
theorem Vals.one:∀{x:V} {us:List Value},Vals [x] us->∃u,us=[u]/\RelV x u
 |_,_,.cons r .nil=>⟨_,rfl,r⟩
theorem Vals.two:∀{x y:V} {us:List Value},Vals [x,y] us->∃u v,us=[u,v]/\RelV x u/\RelV y v
 |_,_,_,.cons r (.cons q .nil)=>⟨_,_,rfl,r,q⟩
theorem Vals.zero:∀{us:List Value},Vals [] us->us=[]
 |_,.nil=>rfl
theorem Vals.eraseIdx:∀{xs:List V} {us:List Value} (i:Nat),Vals xs us->Vals (xs.eraseIdx i) (us.eraseIdx i)
 |_,_,_,.nil=>.nil
 |_,_,0,.cons _ t=>t
 |_,_,i+1,.cons r t=>.cons r (Vals.eraseIdx i t)
theorem Vals.reverse {xs:List V}{us:List Value}(h:Vals xs us):Vals xs.reverse us.reverse:=by
 induction h with
 |nil=>exact .nil
 |cons r t ih=>rw [List.reverse_cons,List.reverse_cons];exact Vals.append ih (.cons r .nil)
theorem Vals.rep {xs:List V}{us:List Value}(h:Vals xs us):∀k:Nat,Vals (List.replicate k xs).flatten (List.replicate k us).flatten
 |0=>.nil
 |k+1=>by
  rw [List.replicate_succ,List.replicate_succ,List.flatten_cons,List.flatten_cons];exact Vals.append h (Vals.rep h k)
theorem iM (its:List Value):∀(k:Nat) (acc:List Value),
  List.foldl (λ x1 x2=>x1++x2) acc.toArray (List.replicate k its.toArray)=(acc++(List.replicate k its).flatten).toArray
 |0,acc=>by simp
 |k+1,acc=>by
  have e:acc.toArray++its.toArray=(acc++its).toArray:=by simp
  have e2:(acc++its)++(List.replicate k its).flatten=acc++(List.replicate (k+1) its).flatten:=by
   rw [List.replicate_succ,List.flatten_cons,List.append_assoc]
  rw [<-e2,<-iM its k (acc++its),<-e,List.replicate_succ,List.foldl_cons]
section
variable {X : Cx} {pins : List (Addr × Obj)} {σ : St} {H : Hp} {s : Shared} {l b : Addr} {xs ys zs : List V}
theorem Inv.lset {its its':List Value}{n:Nat}{f:Array Value->Array Value}{t':Nat}(I:Inv X pins σ H s)(hH:H l=some (.lst xs))
  (e:s.heap.get? l=some {cls:=.type "list",data:=.seq its.toArray n}) (hf:f its.toArray=its'.toArray) (hv:Vals ys its') (hz:ys.length≤sizeLine):
  Inv X pins σ (upd H l (.lst ys)) {s with heap:=s.heap.update l (Obj.mapSeq f),toks:=t'}:=by
 have q:=PySem.IsL.update e f;rw [hf] at q;refine I.write (x:=l) (e:=l) (by rw [hH];exact trivial) (.inl rfl) (λ b' u hb hu=>(Heap.get?_update_other s.heap (Obj.mapSeq f) (Ne.symm hb)).trans hu) ⟨_,q⟩ ?_;exact⟨hz,its',_,hv,q⟩
theorem Inv.lnew {its:List Value}{t':Nat}(I:Inv X pins σ H s)(hv:Vals ys its)(hz:ys.length≤sizeLine):
  Inv X pins σ (upd H s.heap.objs.size (.lst ys)) {s with heap:=s.heap.push {cls:=.type "list",data:=.seq its.toArray},toks:=t'}:=
 I.laid (λ _ _ q=>Heap.get?_push_of_some _ q) (Nat.le_refl _) ⟨hz,its,0,hv,Heap.get?_push_size _ rfl⟩
theorem Inv.fresh (I:Inv X pins σ H s):H s.heap.objs.size=none:=I.hok.fresh (Nat.le_refl _)
theorem Inv.lstM (I:Inv X pins σ H s)(hH:H l=some (.lst xs)):xs.length≤sizeLine/\∃(its:List Value) (n:Nat),Vals xs its/\xs.length=its.length/\s.heap.get? l=some {cls:=.type "list",data:=.seq its.toArray n}:=by
 obtain⟨z,its,n,r,e⟩:=I.hok l _ hH;exact⟨z,its,n,r,r.length,e⟩
theorem kY {n:Nat}(h:n≤sizeLine):Builtin.List.listTooLong n=false:=by
 unfold Builtin.List.listTooLong;exact decide_eq_false (by lia)
end
section
variable {X : Cx}
def uh:V->List V->Hp->VK->Prop:=λ x vs H Q=>∃l xs y,x=.ref l/\vs=[y]/\H l=some (.lst xs)/\xs.length<sizeLine/\Q .non (upd H l (.lst (xs++[y])))
theorem aO:MtM X "list.append" uh:=by
 intro pins s σ H x vs v us Q I rx rv h;obtain⟨l,xs,y,rfl,rfl,hH,hz,q⟩:=h;cases rx;obtain⟨u,rfl,ru⟩:=rv.one;obtain⟨z,its,n,r,hl,e⟩:=I.lstM hH;refine call_meets F.slot_list_append ⟨_,e,rfl⟩ F.entry_list_append (F.args_list_append_2 _ _) (PySem.list_append l its.toArray n u (by rw [List.size_toArray];lia)) ⟨e,?_⟩;refine⟨.non,_,I.lset (its':=its++[u]) hH e (by simp) (r.append (.cons ru .nil)) ?_,rfl,q⟩;rw [List.length_append,List.length_singleton];lia
def sf:V->List V->Hp->VK->Prop:=λ x vs H Q=>∃l b xs zs,x=.ref l/\vs=[.ref b]/\H l=some (.lst xs)/\H b=some (.lst zs)/\xs.length+zs.length≤sizeLine/\Q .non (upd H l (.lst (xs++zs)))
theorem oS:MtM X "list.extend" sf:=by
 intro pins s σ H x vs v us Q I rx rv h;obtain⟨l,b,xs,zs,rfl,rfl,hH,hB,hz,q⟩:=h;cases rx;obtain⟨u,rfl,ru⟩:=rv.one;cases ru;obtain⟨z,its,n,r,hl,e⟩:=I.lstM hH;obtain⟨z2,its2,n2,r2,hl2,e2⟩:=I.lstM hB;have hsz:its.toArray.size+its2.toArray.size≤sizeLine:=by rw [List.size_toArray,List.size_toArray];lia
 have hlong:¬(!its.toArray.isEmpty&&Builtin.List.listTooLong (its.toArray.size+its2.toArray.size))=true:=by
  rw [kY hsz,Bool.and_false];exact Bool.false_ne_true
 refine call_meets F.slot_list_extend ⟨_,e,rfl⟩ F.entry_list_extend (F.args_list_extend_2 _ _)
  (AutoSeq1.list_extend_list_list_0 l its.toArray n b its2.toArray n2 hlong (by rw [List.size_toArray];lia) (by lia)) ⟨e,e2,?_⟩
 refine⟨.non,_,I.lset (its':=its++its2) hH e (by simp) (r.append r2) ?_,rfl,q⟩;rw [List.length_append];lia
def vD:V->List V->Hp->VK->Prop:=λ x vs H Q=>∃l xs,x=.ref l/\vs=[]/\H l=some (.lst xs)/\Q .non (upd H l (.lst []))
theorem pU:MtM X "list.clear" vD:=by
 intro pins s σ H x vs v us Q I rx rv h;obtain⟨l,xs,rfl,rfl,hH,q⟩:=h;cases rx;have hus:=rv.zero;subst hus;obtain⟨z,its,n,r,hl,e⟩:=I.lstM hH;refine call_meets F.slot_list_clear ⟨_,e,rfl⟩ F.entry_list_clear (F.args_list_clear_1 _) (AutoSeq1.list_clear_list_0 l its.toArray n (by rw [List.size_toArray];lia)) ⟨e,?_⟩;exact⟨.non,_,I.lset (its':=[]) (ys:=[]) hH e rfl .nil (Nat.zero_le _),rfl,q⟩
def xZ:R2:=λ x y H Q=>∃l b xs zs,x=.ref l/\y=.ref b/\H l=some (.lst xs)/\H b=some (.lst zs)/\xs.length+zs.length≤sizeLine/\∀p,H p=none->Q (.ref p) (upd H p (.lst (xs++zs)))
theorem fz:OpR X (binaryOp .Add) xZ:=by
 intro pins s σ H x y v u Q I rx ry h;obtain⟨l,b,xs,zs,rfl,rfl,hH,hB,hz,q⟩:=h;cases rx;cases ry;obtain⟨z,its,n,r,hl,e⟩:=I.lstM hH;obtain⟨z2,its2,n2,r2,hl2,e2⟩:=I.lstM hB;refine PySem.P.add_list e e2 ?_ (by rw [List.size_toArray,List.size_toArray];lia);have ea:its.toArray++its2.toArray=(its++its2).toArray:=by simp
 rw [ea];exact⟨.ref _,_,I.lnew (t':=s.toks) (r.append r2) (by rw [List.length_append];lia),rfl,q _ I.fresh⟩
def xA:R2:=λ x y H Q=>∃l k xs,x=.ref l/\y=.int k/\H l=some (.lst xs)/\-(2^63)≤k/\k<2^63/\xs.length*k.toNat≤sizeLine/\
 ∀p,H p=none->Q (.ref p) (upd H p (.lst (List.replicate k.toNat xs).flatten))
theorem tW {α:Type}(xs:List α)(k:Nat):(List.replicate k xs).flatten.length=k*xs.length:=by
 induction k with
 |zero=>simp
 |succ k ih=>rw [List.replicate_succ,List.flatten_cons,List.length_append,ih,Nat.succ_mul,Nat.add_comm]
theorem fE:OpR X (binaryOp .Mult) xA:=by
 intro pins s σ H x y v u Q I rx ry h;obtain⟨l,k,xs,rfl,rfl,hH,h1,h2,hz,q⟩:=h;cases rx;obtain⟨t,rfl⟩:=ry;obtain⟨z,its,n,r,hl,e⟩:=I.lstM hH;have hlen:its.toArray.size*k.toNat≤sizeLine:=by rw [List.size_toArray,<-hl];exact hz
 have hcap:¬its.toArray.size*k.toNat>(2^63-1)/8:=by
  have:(sizeLine:Nat)≤(2^63-1)/8:=by decide
  lia
 have hfit:¬(!Builtin.List.listFitsIndex k)=true:=by
  rw [fitsIndex_both h1 h2];exact Bool.false_ne_true
 have hlong:¬Builtin.List.listTooLong (its.toArray.size*k.toNat)=true:=by
  rw [kY hlen];exact Bool.false_ne_true
 have hnew:List.foldl (λ x1 x2=>x1++x2) #[] (List.replicate (if its.toArray.isEmpty=true then 0 else k.toNat) its.toArray)=(List.replicate k.toNat its).flatten.toArray:=by
  have f0:∀m:Nat,List.foldl (λ x1 x2=>x1++x2) #[] (List.replicate m its.toArray)=(List.replicate m its).flatten.toArray:=λ m=>by
   have:=iM its m [];rw [List.nil_append] at this;exact this
  rw [f0];cases its with
  |nil=>simp
  |cons a r'=>rw [if_neg (by simp)]
 refine wpAny_binaryOp_repeat_ref (T:="list") (U:="int") (by decide) ⟨_,e,rfl⟩ (λ s'=>typeIs_int s' k t) noFill_list_mul F.fills_int_mul F.slot_int_rmul repeat_list F.slot_int_index.lookup
  (call_meets F.slot_int_rmul (typeIs_int s k t) F.entry_int_rmul (F.args_int_rmul_2 _ _) (int___rmul___int_list k t l its.toArray n)
   ⟨e,rfl,⟨_,e,rfl⟩,call_meets F.slot_list_mul ⟨_,e,rfl⟩ F.entry_list_mul (F.args_list_mul_2 _ _) (AutoListH.list___mul___list_int_3 l its.toArray n k t hfit hcap hlong) ⟨e,?_⟩⟩)
 rw [hnew];exact⟨.ref _,_,I.lnew (t':=s.toks) (r.rep k.toNat) (by rw [tW,Nat.mul_comm];exact hz),rfl,q _ I.fresh⟩
end
section
variable {prog : Program} {w : World} {A : Around} {E : Value -> Shared -> Prop} {s : Shared}
set_option maxRecDepth 100000 in
end
section
variable {X : Cx}
end
end L2
namespace Att
open PySem PySem.W PySem.Calls PyProof.Rows
theorem fJ {P:Params}{h:Heap}:∀(ns:List Int) (vs:List Value),WellAll P h vs (ns.map WData.int)->IntsAre vs ns:=by
 intro ns
 induction ns with
 |nil=>
  intro vs w;rw [List.map_nil] at w;cases w;exact .nil
 |cons n ns ih=>
  intro vs w;rw [List.map_cons] at w;cases w with
  |cons a b=>
   cases a;exact .cons _ _ (ih _ b)
theorem o7 {l:OpenLaw}{n:Nat}(hn:l.most=some n){P:Params}{h:Heap}{args:List WData}{vals:List Value}
  (hpre:l.row.toRowW.claim.pre args=true) (hwl:WellAll P h vals args):
  ∃a vs ns,vals=[Value.ref a]/\args=[WData.list (ns.map WData.int)]/\h.get? a=some {cls:=.type "list",data:=.seq vs.toArray}/\IntsAre vs ns/\ns.length≤n:=by
 have hsh:WShape.hasAll [] args [.list .int]=true:=(pre_splitW hpre).1;have hc:l.pre.holds [] {args:=args}=true:=(pre_splitW hpre).2;obtain⟨d,r,rfl,h1,h2⟩:=hasAllW_cons hsh;obtain rfl:=hasAllW_nil h2;obtain⟨xs,rfl,h3⟩:=hasW_list h1;obtain⟨ns,rfl⟩:=items_int h3;have hlen:ns.length≤n:=by
  unfold OpenLaw.pre at hc;have h4:(WTm.not (.lt (.lit (.int (n:Int))) (.len (.arg 0)))).holds [] {args:=[.list (ns.map .int)]}=true:=by
   have h4:=(holds_andW hc).1;rw [hn] at h4;exact h4
  have h5:=condW_of h4 (w_not (w_lt w_lit (w_len_list (w_arg rfl))));rw [List.length_map] at h5;refine Nat.le_of_not_lt λ q=>?_
  have q':(n:Int)<((ns.length:Nat):Int):=by lia
  first
   |(rw [decide_eq_true q'] at h5;exact absurd h5 (by decide))
   |(simp at h5;lia)
 cases hwl with
 |cons w1 w2=>
  cases w2;cases w1 with
  |list ho hall=>exact⟨_,_,ns,rfl,rfl,ho,fJ ns _ hall,hlen⟩
theorem oZ (l:OpenLaw)(args:List WData):l.row.toRowW.claim.post args (.bool true) args=true:=
 postW_of (r:=l.row.toRowW) (X:=(true==true))
  (show WShape.has [] (.bool true) .bool=true by first|rfl|decide|simp [WShape.has,WShape.arms,WShape.armsAll])
  (show(WTm.eq .res (.lit (.bool true))).value [] {args:=args,res:=some (.bool true),after:=args}=some (.bool (true==true)) from w_eq_bool (w_res rfl) w_lit) rfl
theorem attach_call {l:OpenLaw}{n:Nat}{q:Program}{loose:List Str}{XP:(Str->Option Value)->Heap->Prop}{YP:World->Heap->Prop}{d:DefRec}
  (hn:l.most=some n) (hdf:d.params.defaults=[])
  (call:∀(w:World) (s₀ s₁:Shared) (mg mb:Str->Option Value) (fa:Addr) (o:Obj) (pm cd doc:Value) (a:Addr) (vs:List Value) (ns:List Int),
   Ground q loose [] XP w s₀ mg mb s₁.heap->YP w s₁.heap->
   s₁.heap.get? fa=some o->o.data=.func (docDef d.name d.params d.body d.scope pm cd doc)->s₁.heap.CodeRec cd d.name->mg d.name=some (.ref fa)->
   s₁.heap.get? a=some {cls:=.type "list",data:=.seq vs.toArray}->IntsAre vs ns->ns.length≤n->s₁.gens=#[]->
   codeAny (model l.prog w) callerA (.call (.ref fa) ⟨[.ref a],[]⟩) (λ r s'=>r=.ok (.ret (.bool true))/\OldK s₁.heap s'.heap/\s'.os=s₁.os/\AllBare s'.gens) s₁):
  WalkO q loose XP YP l.row.toRowW d [] (λ f vs=>PySem.call f vs):=by
 intro w s₀ s₁ mg mb G Y fa o pm cd doc dV kV ho hd hcd hD hmg hg args vals as hpre hlay hrd hwl hlo;obtain rfl:dV=.none:=Dflts.none hD hdf;obtain rfl:kV=.none:=Dflts.noKw hD;obtain⟨a,vs,ns,rfl,rfl,hobj,hints,hlen⟩:=o7 hn hpre hwl;refine enter_call (codeAny_mono (call w s₀ s₁ mg mb fa o pm cd doc a vs ns G Y ho (fd_plain hd) hcd hmg hobj hints hlen hg) λ r s' hq=>?_);obtain⟨rfl,h2,h3,h4⟩:=hq;exact⟨.inl ⟨.bool true,.bool true,[],rfl,λ _=>rfl,.bool true,oZ l _,λ _=>⟨List.Pairwise.nil,λ _ hm=>(nomatch hm)⟩⟩,h2,h3,h4⟩
section
variable {prog : Program} {w : World} {A : Around} {E : Value -> Shared -> Prop} {s : Shared} {K : Frag}
def xu (h:Heap)(L d:Addr):List (Addr×Obj):=(List.range h.objs.size).filterMap λ a=>if a=L\/a=d then none else(h.get? a).map λ o=>(a,o)
end
end Att
namespace L2
open PySem PySem.Spec PyProof.Rows
theorem iL:∀{vs:List Value} {ns:List Int},IntsAre vs ns->Vals (ns.map V.int) vs
 |_,_,.nil=>.nil
 |_,_,.cons n t h=>.cons ⟨t,rfl⟩ (iL h)
def vv (H:Hp):Prop:=∀b,H b=none\/∃o xs,H b=some (.frz o (.lst xs))
theorem rR {P:Program}{w:World}{K:PySem.W.Frag}{mg mb:Str->Option Value}{CX:CXT}{k:Nat}{fa a:Addr}{fd:FuncData}{x:Str}{sp:Sp}{s₁:Shared}{vs:List Value}{ns:List Int}
  (KX:K.In s₁.heap) (hns:s₁.heap.Ns mainGlobals mg) (hb:s₁.heap.Ns builtinsNs mb) (hbb:∀x:Str,x≠ "__name__"->mb x=bootBuiltins x) (hlim:s₁.heap.NoLimit) (hg:s₁.gens=#[])
  (ha:s₁.heap.get? a=some {cls:=.type "list",data:=.seq vs.toArray}) (hi:IntsAre vs ns) (hl:ns.length≤sizeLine) (hr:Room k callerA)
  (F:∀base:Heap,K.In base->base.Ns mainGlobals mg->FnOk P w K mg base CX k fa fd [x] sp) (hbind:∀(s:Shared) (u:Value),BindsTo s fd ⟨[u],[]⟩ [(x,u)])
  (hsp:∀H:Hp,vv H->SqL K H a (ns.map V.int)->sp [.ref a] H (λ v _=>v=.bl true) λ _ _ _=>False)
  (hCX:∀H e s',CX [] H s₁ (λ _ _ _=>False) e s'->False):
  codeAny (model P w) callerA (.call (.ref fa) ⟨[.ref a],[]⟩) (λ r s'=>r=.ok (.ret (.bool true))/\OldK s₁.heap s'.heap/\s'.os=s₁.os/\AllBare s'.gens) s₁:=by
 have rv:=iL hi;have lenV:=hi.length;have core:∀H:Hp,vv H->SqL K H a (ns.map V.int)->HOk P w H s₁.heap->(∀b,H b≠none->b=a)->(H a≠none->K.lookup a=none)->
   codeAny (model P w) callerA (.call (.ref fa) ⟨[.ref a],[]⟩) (λ r s'=>r=.ok (.ret (.bool true))/\OldK s₁.heap s'.heap/\s'.os=s₁.os/\AllBare s'.gens) s₁:=by
  intro H hO hS hok hA hK;have base_of:∀{b:Addr} {o:Obj},s₁.heap.get? b=some o->H b=none->(hidT s₁.heap H).get? b=some o:=λ e n=>pO e n
  have noA:∀{b:Addr} {o:Obj} {es:Array DictEntry} {ep:Nat},s₁.heap.get? b=some o->o.data=.dict es ep->H b=none:=λ {b o es ep} e d=>by
   cases q:H b with
   |none=>rfl
   |some u=>
    have e':b=a:=hA b (by rw [q];simp);subst e';rw [ha] at e;cases e;have d':Data.seq vs.toArray _=Data.dict es ep:=d;cases d'
  have nsK:∀{b:Addr} {m:Str->Option Value},s₁.heap.Ns b m->(hidT s₁.heap H).Ns b m:=λ {b m} ⟨o,es,ep,e,d,r⟩=>⟨o,es,ep,base_of e (noA e d),d,r⟩
  have hKb:K.In (hidT s₁.heap H):=λ b o e=>base_of (KX b o e) (by
   cases q:H b with
   |none=>rfl
   |some u=>
    have e':b=a:=hA b (by rw [q];simp);subst e';rw [hK (by rw [q];simp)] at e;cases e)
  have hM:Mod K mg (hidT s₁.heap H):=⟨hKb,nsK hns,⟨mb,nsK hb,hbb⟩,let⟨mc,h1,h2⟩:=hlim;⟨mc,nsK h1,h2⟩⟩;have e0:Env0 P w K mg (hidT s₁.heap H) callerA [] s₁ H:=⟨rfl,hM,λ b o e=>sQ e,Nat.le_of_eq (oG _ _),trivial,λ b hb=>absurd (show b∈([]:List Addr) from hb) (by simp),hok,.of_eq hg,.inl rfl⟩;refine codeAny_mono ((F _ hKb (nsK hns)).run callerA [] s₁ H ⟨[.ref a],[]⟩ [.ref a] [.ref a] _ _ hr e0 (hbind s₁ (.ref a)) (.cons rfl .nil) (hsp H hO hS)) λ r s' h=>?_
  cases r with
  |error e=>exact(hCX H e s' h).elim
  |ok fl=>
   cases fl with
   |next=>exact False.elim h
   |brk=>exact False.elim h
   |cont=>exact False.elim h
   |ret u=>
    obtain⟨v,H',os,bare,un,hok',r',q⟩:=h;have q':v=.bl true:=q;subst q';obtain rfl:u=Value.bool true:=r';refine⟨rfl,OldK.of_keep λ b o e=>?_,os,bare⟩;cases q:H b with
    |none=>exact un.keep b o e q (by intro z;exact absurd (show b∈([]:List Addr) from z) (by simp)) (by simp)
    |some u=>
     rcases hO b with z|⟨ob,xs,z⟩
     ·rw [q] at z;cases z
     ·have z2:=un.frzs b ob _ z;obtain⟨e1,_⟩:=hok b _ z;obtain⟨e2,_⟩:=hok' b _ z2;rw [e] at e1;cases e1;exact e2
 cases hk:K.lookup a with
 |some o=>
  have e:=KX a o hk;rw [ha] at e;cases e;refine core (λ _=>none) (λ _=>.inl rfl) (.inr ⟨_,vs.toArray,_,hk,rfl,rfl,rfl,by rw [List.size_toArray,lenV];exact hl,by simpa using rv⟩) (λ b u z=>by have z':(none:Option HO)=some u:=z;cases z') (λ b z=>absurd rfl z) λ z=>absurd rfl z
 |none=>
  refine core (λ b=>if b=a then some (.frz {cls:=.type "list",data:=.seq vs.toArray} (.lst (ns.map V.int))) else none) (λ b=>?_) (.inl (.inr ⟨{cls:=.type "list",data:=.seq vs.toArray},if_pos rfl⟩)) (λ b u z=>?_) (λ b z=>?_) λ _=>hk
  ·by_cases hb:b=a
   ·exact .inr ⟨_,_,if_pos hb⟩
   ·exact .inl (if_neg hb)
  ·by_cases hb:b=a
   ·have z':=(if_pos hb).symm.trans z;cases z';subst hb;exact⟨ha,by rw [List.length_map];exact hl,vs,_,rv,ha⟩
   ·have z':=(if_neg hb).symm.trans z;cases z'
  ·by_cases hb:b=a
   ·exact hb
   ·exact absurd (if_neg hb) z
abbrev KOf {K:PySem.W.Frag}{h:Heap}(_:K.In h):PySem.W.Frag:=K
theorem walk_of {l:PySem.W.OpenLaw}{n k:Nat}{q:Program}{loose:List Str}{XP:(Str->Option Value)->Heap->Prop}{YP:World->Heap->Prop}{d:DefRec}{K:Params->PySem.W.Frag}{CX:World->CXT}{sp:World->Sp}{x:Str}
  (hn:l.most=some n) (hn2:n≤sizeLine) (hdf:d.params.defaults=[]) (hr:Room k callerA)
  (hY:∀(w:World) (h:Heap),YP w h->(K w.params).In h)
  (F:∀(w:World) (mg:Str->Option Value) (fa:Addr) (h:Heap),(K w.params).In h->h.Ns mainGlobals mg->mg d.name=some (.ref fa)->
   ∃fd:FuncData,(∀(s:Shared) (u:Value),BindsTo s fd ⟨[u],[]⟩ [(x,u)])/\
    ∀base:Heap,(K w.params).In base->base.Ns mainGlobals mg->FnOk l.prog w (K w.params) mg base (CX w) k fa fd [x] (sp w))
  (hsp:∀(w:World) (H:Hp) (a:Addr) (ns:List Int),ns.length≤n->vv H->SqL (K w.params) H a (ns.map V.int)->sp w [.ref a] H (λ v _=>v=.bl true) λ _ _ _=>False)
  (hCX:∀(w:World) (H:Hp) (s:Shared) (e:Value) (s':Shared),CX w [] H s (λ _ _ _=>False) e s'->False):
  PySem.W.WalkO q loose XP YP l.row.toRowW d [] (λ f vs=>PySem.call f vs):=by
 refine Att.attach_call hn hdf λ w s₀ s₁ mg mb fa o pm cd doc a vs ns G Y ho hd hcd hmg hobj hints hlen hg=>?_
 have KX:=hY w _ Y;obtain⟨fd,hb,hF⟩:=F w mg fa _ KX G.T.g hmg;exact rR KX G.T.g G.T.b G.T.builtins G.T.nolimit hg hobj hints (Nat.le_trans hlen hn2) hr hF hb (λ H hO hS=>hsp w H a ns hlen hO hS) λ H e s'=>hCX w H s₁ e s'
def bd (s:Stmt)(j:Nat):Stmt:=match s with
 | .ClassDef _ _ _ body _ _ _ _ _ _ _=>body.getD j (.Pass ⟨0,0,0,0⟩)
 |_=>.Pass ⟨0,0,0,0⟩
def defArgs (s:Stmt):Arguments:=match s with
 | .FunctionDef _ a _ _ _ _ _ _ _ _=>a
 |_=>{posonlyargs:=[],args:=[],vararg:=none,kwonlyargs:=[],kw_defaults:=[],kwarg:=none,defaults:=[]}
def defBody (s:Stmt):List Stmt:=match s with
 | .FunctionDef _ _ b _ _ _ _ _ _ _=>b
 |_=>[]
def defScope (s:Stmt):Scope:=match s with
 | .FunctionDef _ _ _ _ _ _ sc _ _ _=>sc
 |_=>{kind:=.function,names:=[],isGenerator:=false,isCoroutine:=false}
abbrev CX0:CXT:=λ _ _ _ _ _ _=>False
abbrev E0:XK:=λ _ _ _=>False
theorem ap {X:Cx}:dk CX0 X E0:=λ _ _ _ _ _ _ _ h=>h.elim
structure Fun (K:PySem.W.Frag)(x qual:Str)(st:Stmt)(f:Addr)(fd:FuncData):Prop where
 ex:∃(oc:Value) (od:Option Addr) (kV doc pm:Value) (an:Option Addr) (cdv ct:Value) (osl:Array (Option Value)),
  fd=PySem.W.fnOf x qual (defArgs st) (defBody st) (defScope st) .none kV doc pm an cdv ct/\K.lookup f=some ⟨oc,od,.func fd,osl⟩/\PySem.W.codeIn K cdv qual=true
 kp:PySem.W.keepIn K (.ref f)=true
section
variable {P : Program} {w : World} {K : PySem.W.Frag} {mg : Str -> Option Value} {base : Heap}
theorem Fun.ok {x qual:Str}{st:Stmt}{f:Addr}{fd:FuncData}{N ps:List Str}{k:Nat}{sp:Sp}(F:Fun K x qual st f fd)(S:FnScope N ps (defScope st))(len:∀vs H Q E,sp vs H Q E->vs.length=ps.length)
  (hbody:∀(cdv:Value) (A:Around) (outer:List Env) (s:Shared) (H:Hp) (vs:List V) (Q:VK) (E:XK),Room k (A.deeper (envOfC qual (defScope st) s.heap.objs.size f cdv))->sp vs H Q E->
   ∃t,PSs (cxOf CX0 P w K mg base N qual (defScope st) f cdv A outer s H E).nox (defBody st) t/\t {nx:=λ _ H'=>Q .non H',rt:=Q} (start N vs) H):FnOk P w K mg base CX0 (k+1) f fd ps sp:=by
 obtain⟨oc,od,kV,doc,pm,an,cdv,ct,osl,rfl,lk,hcd⟩:=F.ex;refine uH lk hcd S len λ A outer s H vs Q E hr hsp=>?_
 obtain⟨t,h,q⟩:=hbody cdv A outer s H vs Q E hr hsp;exact⟨t,h.nox,q⟩
theorem Fun.binds {x qual:Str}{st:Stmt}{f:Addr}{fd:FuncData}{ps:List Str}(F:Fun K x qual st f fd)
  (h:∀(kV doc pm:Value) (an:Option Addr) (cdv ct:Value) (us:List Value),us.length=ps.length->bindArgs (PySem.W.fnOf x qual (defArgs st) (defBody st) (defScope st) .none kV doc pm an cdv ct) ⟨us,[]⟩=pure (ps.zip us)):Binds K fd ps []:=by
 obtain⟨oc,od,kV,doc,pm,an,cdv,ct,osl,rfl,lk,hcd⟩:=F.ex;exact .all (h kV doc pm an cdv ct)
theorem jk {x qual:Str}{st:Stmt}{f:Addr}{oc:Value}{od an:Option Addr}{osl:Array (Option Value)}{kV doc pm cdv ct:Value}(l:K.lookup f=some ⟨oc,od,.func (PySem.W.fnOf x qual (defArgs st) (defBody st) (defScope st) .none kV doc pm an cdv ct),osl⟩)
  (c:PySem.W.codeIn K cdv qual=true) (k:PySem.W.keepIn K (.ref f)=true):Fun K x qual st f (PySem.W.fnOf x qual (defArgs st) (defBody st) (defScope st) .none kV doc pm an cdv ct):=⟨⟨oc,od,kV,doc,pm,an,cdv,ct,osl,rfl,l,c⟩,k⟩
end
theorem iw {n:Nat}(h:n≤1000):n<sizeLine:=Nat.lt_of_le_of_lt h (by decide)
section
variable {X : Cx}
theorem pv (i:Nat){x:Str}{pos:Pos}(hN:X.N[i]?=some x:=by rfl)(hv:Vis X.env.scope x:=by first|exact Or.inl rfl|exact Or.inr (Or.inl rfl)|exact Or.inr (Or.inr rfl))(hd:(x==("__debug__":Str))=false:=by decide)
  (hcd:(x==("__classdict__":Str))=false:=by decide):PE X (.Name x pos) (dM i):=vO hN hv hd hcd
end
theorem bL {A B:Prop}(h:B):if false=true then A else B:=by
 rw [if_neg Bool.false_ne_true];exact h
theorem pz {A B:Prop}(h:A):if true=true then A else B:=by
 rw [if_pos rfl];exact h
theorem aJ {c A B:Prop} [Decidable c] (h1:c->A)(h2:¬c->B):if c then A else B:=by
 by_cases h:c
 ·rw [if_pos h];exact h1 h
 ·rw [if_neg h];exact h2 h
theorem xj {c A B:Prop} [Decidable c] (hc:c)(h:B):if(!decide c)=true then A else B:=by
 rw [decide_eq_true hc];exact bL h
def Same (H H':Hp):Prop:=∀b o,H b=some o->H' b=some o
theorem Same.refl (H:Hp):Same H H:=λ _ _ h=>h
theorem Same.trans {H H1 H2:Hp}(a:Same H H1)(b:Same H1 H2):Same H H2:=λ c o h=>b c o (a c o h)
theorem Same.free {H H':Hp}(e:Same H H'){l:Addr}(h:H' l=Option.none):H l=Option.none:=by
 cases q:H l with
 |none=>rfl
 |some o=>
  rw [e l o q] at h;cases h
theorem Same.seq {K:PySem.W.Frag}{H H':Hp}{a:Addr}{xs:List V}(e:Same H H')(h:SqL K H a xs):SqL K H' a xs:=by
 rcases h with(h|⟨o,h⟩)|h
 ·exact .inl (.inl (e _ _ h))
 ·exact .inl (.inr ⟨o,e _ _ h⟩)
 ·exact .inr h
def a7 (X:Cx)(N:List Str)(scope:Scope)(fp:List Addr)(s:Shared)(H:Hp):Cx where
 prog:=X.prog
 w:=X.w
 K:=X.K
 mg:=X.mg
 base:=X.base
 A:=X.A
 N:=N
 s₀:=s
 H₀:=H
 env:=compEnv scope s.heap.objs.size X.env
 outer:=X.stack
 stack:=X.stack
 ex:=fp
 fn:=λ _=>true
 calm:=X.calm
 pn:=[]
 xe:=λ _ _=>False
section
variable {X : Cx} {pins : List (Addr × Obj)} {σ : St} {H : Hp} {s : Shared} {N : List Str} {scope : Scope} {fp : List Addr}
theorem bu {x:Str}{c:Addr}(e:(a7 X N scope fp s H).env.cells.lookup x=some c):False:=
 nomatch (show(none:Option Addr)=some c from e)
theorem j9 {h':Heap}{t':Nat}{m:Str->Option Value}(I:Inv X pins σ H s)(hkind:scope.kind=.function)(hfree:∀x∈scope.names,x.2≠ .free)(hcell:∀x∈scope.names,x.2≠ .cell)
  (hf:∀b∈fp,FpOk X pins H b) (hlt:∀b∈fp,b<s.heap.objs.size) (hn:h'.Ns s.heap.objs.size m) (hk:∀b o,s.heap.get? b=some o->h'.get? b=some o):
  Inv (a7 X N scope fp s H) [] (List.replicate N.length none) H {s with heap:=h',toks:=t'}:=by
 refine⟨⟨I.ok.mod,hkind,I.ok.glob,I.ok.blt,Nat.le_refl _,λ x y c e=>(bu e).elim,λ x hx=>?_,λ x c _ e=>(bu e).elim,I.qt,I.ok.frames,.inl rfl,
  λ b hb=>⟨Nat.ne_of_lt (hlt b hb),λ x c e=>(bu e).elim⟩,I.bs,Nat.le_trans I.ok.bsz I.sz,λ b o e hb=>?_,λ b hb hs=>?_,I.stack,I.stkFree⟩,
  rfl,I.bare,Un.kept hk,⟨m,hn,λ i x v h1 h2=>?_⟩,λ x c e=>(bu e).elim,I.hok.fresh (Nat.le_refl _),λ x c e=>(bu e).elim,λ p hp=>?_,I.hok.kept hk,List.length_replicate⟩
 ·have hx:scope.names.lookup x=some .cell\/scope.names.lookup x=some .free:=hx;rcases hx with hx|hx
  ·exact absurd rfl (hcell _ (PySem.mem_of_lookup hx))
  ·exact absurd rfl (hfree _ (PySem.mem_of_lookup hx))
 ·rcases(hf b hb).2.2.2.1 with z|z
  ·exact I.ok.noex b o e z
  ·exact absurd (Nat.lt_of_lt_of_le (Heap.lt_size e) (Nat.le_trans I.ok.bsz z)) (Nat.lt_irrefl _)
 ·rcases List.mem_cons.mp (I.stkSub b hs) with z|z
  ·exact(hf b hb).2.1 z
  ·exact(hf b hb).2.2.1 z
 ·rw [List.getElem?_replicate] at h2
  split at h2<;>cases h2
 ·exact absurd (show p∈([]:List (Addr×Obj)) from hp) (by simp)
theorem iD {pins':List (Addr×Obj)}{σ':St}{H':Hp}{s':Shared}(I:Inv X pins σ H s)(hf:∀b∈fp,FpOk X pins H b)(I':Inv (a7 X N scope fp s H) pins' σ' H' s'):Inv X pins σ H' s':=
 I.call' (ch:=fp) I'.os I'.base I'.hok I'.bare λ b hb=>⟨(hf b hb).2.2.2.1,(hf b hb).2.1,(hf b hb).2.2.2.2.1,(hf b hb).2.2.2.2.2⟩
end
section
variable {prog : Program} {w : World} {A : Around} {R : Result -> Shared -> Prop} {s : Shared}
theorem iH {elt target iter:Expr}{scope:Scope}{pos:Pos}{it acc:Value}{env:Env}(J:Nat->Shared->Prop)
    (turn:∀n z,J n z->wpAny (model prog w) A (pyNext it) (λ r z1=>match r with
      |none=>R (.ok .next) z1
      |some v=>wpAny (model prog w) A (letOwnedTupleGo target it v) (λ _ z2=>wpAny (model prog w) A (assign target env v) (λ _ z3=>wpAny (model prog w) A (eval elt env) (λ x z4=>
          wpAny (model prog w) A (call (.builtin "list.append") [acc,x]) (λ _ z5=>∃m,m<n/\J m z5)
            (notedBy (model prog w) A env λ e s'=>R (.error e) s') z4) (notedBy (model prog w) A env λ e s'=>R (.error e) s') z3)
            (notedBy (model prog w) A env λ e s'=>R (.error e) s') z2) (notedBy (model prog w) A env λ e s'=>R (.error e) s') z1) (notedBy (model prog w) A env λ e s'=>R (.error e) s') z)
    (n:Nat) (h:J n s):codeAny (model prog w) A (.compLoop (.ListComp elt [⟨target,iter,[],0⟩] scope pos) 0 it acc env) R s:=by
  refine codeAny_loop rfl J (λ k z hz=>?_) n h
  show wpAny _ _ ((compTurn (.ListComp elt [⟨target,iter,[],0⟩] scope pos) 0 it acc env).onRaise (λ q=>do noteFrame q env;theTreesLotGoes q)) _ _ z
  refine wpAny_noted ?_
  rw [compTurn_list1]
  refine wpAny_bind (wpAny_standAt (wpAny_bind (wpAny_mono (turn k z hz) (λ r z1 g1=>?_) λ _ _ q=>q)))
  cases r with
  |none=>exact wpAny_pure g1
  |some v=>
    refine wpAny_bind (wpAny_mono g1 (λ _ z2 g2=>wpAny_bind (wpAny_mono g2 (λ _ z3 g3=>?_) λ _ _ q=>q)) λ _ _ q=>q)
    exact wpAny_bind (wpAny_bind (wpAny_mono g3 (λ x z4 g4=>wpAny_bind (wpAny_mono g4 (λ _ z5 g5=>wpAny_pure (wpAny_pure ⟨rfl,g5⟩)) λ _ _ q=>q)) λ _ _ q=>q))
end
def uJ (n:Nat)(wi:TI)(g:TG)(te:TE):TE:=λ σ H Q=>wi σ H λ J H1=>∀l,H1 l=none->∃W:Nat->Nat->List V->St->Hp->Prop,
 (∃m,W 0 m [] (List.replicate n none) (upd H1 l (.lst [])))/\∀i m ys σ' H',W i m ys σ' H'->
  (J.stop i H'/\Q (.ref l) H')\/(J.go i H'/\∀x H2,J.yld i H' x H2->g x σ' H2 λ σ3 H3=>te σ3 H3 λ y H4=>
   H4 l=some (.lst ys)/\ys.length<sizeLine/\∃m',m'<m/\W (i+1) m' (ys++[y]) σ3 (upd H4 l (.lst (ys++[y]))))
section
variable {X : Cx} {N : List Str} {scope : Scope} {elt target iter : Expr} {pos : Pos} {wi : TI} {g : TG} {te : TE}
theorem comp_core {pins:List (Addr×Obj)}{σ:St}{H:Hp}{s:Shared}{Q:VK}{RR:Value->Env->Result->Shared->Prop}
  (hc:X.calm=true) (hkind:scope.kind=.function) (hfree:∀x∈scope.names,x.2≠ .free) (hcell:∀x∈scope.names,x.2≠ .cell)
  (hi:PI X target iter wi) (hg:∀fp s H,PG (a7 X N scope fp s H) target g) (he:∀fp s H,PE (a7 X N scope fp s H) elt te)
  (I:Inv X pins σ H s) (h:uJ N.length wi g te σ H Q)
  (hR:∀(l C:Addr) (H':Hp) (s':Shared),Inv X pins σ H' s'->FpOk X pins H' C->(∃m,s'.heap.Ns C m)->Q (.ref l) H'->RR (.ref l) (compEnv scope C X.env) (.ok .next) s'):
  wpAny (model X.prog X.w) X.A (eval iter X.env) (λ x s₁=>wpAny (model X.prog X.w) X.A (pyIter x) (λ it s₂=>wpAny (model X.prog X.w) X.A (newList []) (λ acc s₃=>
   wpAny (model X.prog X.w) X.A (newFunctionEnv scope X.env.globals [] [] X.env.qual none .none (some X.env)) (λ cenv s₄=>
    codeAny (model X.prog X.w) X.A (.compStart (.ListComp elt [⟨target,iter,[],0⟩] scope pos) 0 it acc {cenv with scope:=scope}) (RR acc {cenv with scope:=scope}) s₄) X.xe s₃) X.xe s₂) X.xe s₁) X.xe s:=by
 refine thn (hi pins s σ H _ I h) λ v s1 h1=>thn h1 λ itv s2 h2=>?_
 obtain⟨it,fp,tn,J,H2,e,I2,T,st2,f2,hw⟩:=h2;subst e;have hl2:H2 s2.heap.objs.size=none:=I2.hok.fresh (Nat.le_refl _);obtain⟨W,⟨m0,w0⟩,turn⟩:=hw s2.heap.objs.size hl2;have lt2:∀b∈fp,b<s2.heap.objs.size:=λ b hb=>let⟨o,e,_⟩:=T.obj _ _ st2 b hb;Heap.lt_size e
 refine wpAny_newList ?_;have I3:Inv X pins σ (upd H2 s2.heap.objs.size (.lst [])) {s2 with heap:=s2.heap.push {cls:=.type "list",data:=.seq ([]:List Value).toArray}}:=
  I2.laid (t':=s2.toks) (λ b u e=>Heap.get?_push_of_some _ e) (Nat.le_refl _) ⟨Nat.zero_le _,[],0,.nil,Heap.get?_push_size _ rfl⟩
 have st3:tn 0 (s2.heap.push {cls:=.type "list",data:=.seq ([]:List Value).toArray}):=T.keep _ _ _ st2 λ b hb o e=>Heap.get?_push_of_some _ e
 have lt3:∀b∈fp,b<(s2.heap.push {cls:=.type "list",data:=.seq ([]:List Value).toArray}).objs.size:=λ b hb=>by rw [Heap.size_push];exact Nat.lt_succ_of_lt (lt2 b hb)
 have f3:∀b∈fp,FpOk X pins (upd H2 s2.heap.objs.size (.lst [])) b:=λ b hb=>⟨by rw [upd_ne (Nat.ne_of_lt (lt2 b hb))];exact(f2 b hb).1,(f2 b hb).2⟩
 generalize s2.heap.objs.size=l at*;generalize upd H2 l (.lst [])=H3 at*;have hs3:∃s3:Shared,s3={s2 with heap:=s2.heap.push {cls:=.type "list",data:=.seq ([]:List Value).toArray}}:=⟨_,rfl⟩;obtain⟨s3,e3⟩:=hs3;rw [<-e3] at I3;rw [<-e3];have st3:tn 0 s3.heap:=by rw [e3];exact st3
 have lt3:∀b∈fp,b<s3.heap.objs.size:=by rw [e3];exact lt3
 clear e3;refine wpAny_newFunctionEnv hcell (by intro y hy;simp at hy) (λ h4 hns hsb=>?_) hkind;have kp:∀b o,s3.heap.get? b=some o->h4.get? b=some o:=λ b o e=>hsb.extBut b o (Nat.ne_of_lt (Heap.lt_size e)) (Heap.get?_push_of_some _ e)
 have I4:=j9 (N:=N) (t':=s3.toks+([]:List (Str×Value)).length) I3 hkind hfree hcell f3 lt3 hns kp;have st4:tn 0 h4:=T.keep _ _ _ st3 λ b hb o e=>kp b o e
 have stat:∀{H':Hp},(∀b∈fp,H' b=none)->∀b∈fp,FpOk (a7 X N scope fp s3 H3) [] H' b:=λ hn b hb=>
  ⟨hn b hb,(I4.ok.exf b hb).1,I4.ok.exfs b hb,.inl hb,λ x c e=>(bu e).elim,λ p hp=>absurd (show p∈([]:List (Addr×Obj)) from hp) (by simp)⟩
 have loop:codeAny (model X.prog X.w) X.A (.compLoop (.ListComp elt [⟨target,iter,[],0⟩] scope pos) 0 (.ref it) (.ref l) (compEnv scope s3.heap.objs.size X.env)) (RR (.ref l) (compEnv scope s3.heap.objs.size X.env))
   {s3 with heap:=h4,toks:=s3.toks+([]:List (Str×Value)).length}:=by
  refine iH (λ n s'=>∃i ys σ' H',Inv (a7 X N scope fp s3 H3) [] σ' H' s'/\tn i s'.heap/\(∀b∈fp,H' b=none)/\W i n ys σ' H') ?_ m0 ⟨0,[],_,_,I4,st4,λ b hb=>(f3 b hb).1,w0⟩;rintro n s5 ⟨i,ys,σ5,H5,I5,st5,fr5,w5⟩;rcases turn i n ys σ5 H5 w5 with⟨stop,q⟩|⟨go,step⟩
  ·refine thn (T.done (a7 X N scope fp s3 H3) rfl rfl rfl hc i [] s5 σ5 H5 _ I5 (stat fr5) st5 stop) λ r s6 ⟨hr,I6⟩=>?_
   subst hr;exact hR _ _ _ _ (iD I3 f3 I6) (I3.fpOk (Nat.le_refl _) I6.free) (let⟨m,hn,_⟩:=I6.loc;⟨m,hn⟩) q
  ·refine thn (T.item (a7 X N scope fp s3 H3) rfl rfl rfl hc i [] s5 σ5 H5 _ I5 (stat fr5) st5 go) λ r s6 ⟨u,hr,h6⟩=>?_
   subst hr;refine thn h6 λ _ s7 ⟨x,H7,I7,r7,y7,st7,fr7⟩=>?_
   have I7':=I7.pinned (stat fr7) (T.obj _ _ st7);refine wpAny_mono (hg fp s3 H3 _ s7 σ5 H7 x u _ I7' r7 (step x H7 y7)) (λ _ s8 ⟨σ8,H8,I8,q8⟩=>?_) (λ _ _ z=>False.elim z);refine wpAny_mono (he fp s3 H3 _ s8 σ8 H8 _ I8 q8) (λ v s9 ⟨y,H9,I9,r9,hl9,hz9,m',hm',w9⟩=>?_) (λ _ _ z=>False.elim z);refine wpAny_mono (aO (X:=a7 X N scope fp s3 H3) _ s9 σ8 H9 (.ref l) [y] (.ref l) [v] (λ z Hz=>Hz=upd H9 l (.lst (ys++[y]))) I9 rfl (.cons r9 .nil) ⟨l,ys,y,rfl,rfl,hl9,hz9,rfl⟩)
    (λ _ s10 ⟨z,Hz,I10,_,eH⟩=>?_) (λ _ _ z=>False.elim z)
   subst eH;refine⟨m',hm',i+1,ys++[y],σ8,_,I10.unpinned,T.keep _ _ _ st7 λ b hb o e=>(I10.pin (b,o) (List.mem_append_right _ (List.mem_append_right _ (aX hb e)))).1,λ b hb=>?_,w9⟩;obtain⟨o,e,d⟩:=T.obj _ _ st7 b hb;exact(I10.pin (b,o) (List.mem_append_right _ (List.mem_append_right _ (aX hb e)))).2.1
 exact codeAny_compStart_list loop (T.self X.A 0 _ _ _ st4 loop)
theorem jg (hc:X.calm=true)(hkind:scope.kind=.function)(hfree:∀x∈scope.names,x.2≠ .free)(hcell:∀x∈scope.names,x.2≠ .cell)(hnames:∀x∈scope.names,x.2=.local->scope.names.lookup x.1=some .local)
  (hi:PI X target iter wi) (hg:∀fp s H,PG (a7 X N scope fp s H) target g) (he:∀fp s H,PE (a7 X N scope fp s H) elt te)
  (hs:∀x,foldedSetIterable iter X.env x=pure x:=by intro _;rfl):PE X (.ListComp elt [⟨target,iter,[],0⟩] scope pos) (uJ N.length wi g te):=by
 intro pins s σ H Q I h;refine wpAny_ListComp hfree hkind hnames (comp_core (RR:=λ acc cenv r s'=>∃m,s'.heap.Ns cenv.locals m/\∀h',Heap.SameBut cenv.locals s'.heap h'->
  match r with
  | .ok _=>EP X pins σ Q acc {s' with heap:=h'}
  | .error x=>wpAny (model X.prog X.w) X.A (passOn "comprehension.variables-let-go" x cenv) (EP X pins σ Q) X.xe {s' with heap:=h'}) hc hkind hfree hcell hi hg he I h ?_) hs
 rintro l C H' s' I' fC ⟨m,hn⟩ q;exact⟨m,hn,λ h' sb=>⟨.ref l,H',I'.turned (t':=s'.toks) (λ b o hb e=>(sb.2 b hb).trans e) fC.1 fC.2.1 fC.2.2.2.1 fC.2.2.2.2.1 fC.2.2.2.2.2,rfl,q⟩⟩
def wq (i:Nat)(t:TE):TS:=λ D σ H=>t σ H λ v H1=>D.nx (σ.set i (some v)) H1
end
theorem jx {K:PySem.W.Frag}{a l:Addr}{xs:List V}{n:Nat}{g:TG}{te:TE}{R:Hp->Prop}{H1:Hp}(Pv:Nat->List V->Hp->Prop)(h0:Pv 0 [] (upd H1 l (.lst [])))(hl:∀i ys H,i≤xs.length->Pv i ys H->SqL K H a xs)
  (hs:∀i x ys σ H,xs[i]?=some x->Pv i ys H->σ.length=n->g x σ H λ σ3 H3=>te σ3 H3 λ y H4=>H4 l=some (.lst ys)/\ys.length<sizeLine/\σ3.length=n/\Pv (i+1) (ys++[y]) (upd H4 l (.lst (ys++[y]))))
  (hd:∀ys H,Pv xs.length ys H->R H) (mg:∀x σ H (A B:St->Hp->Prop),(∀σ' H',A σ' H'->B σ' H')->g x σ H A->g x σ H B) (mt:∀σ H (A B:VK),(∀v H',A v H'->B v H')->te σ H A->te σ H B):
  ∃W:Nat->Nat->List V->St->Hp->Prop,(∃m,W 0 m [] (List.replicate n none) (upd H1 l (.lst [])))/\∀i m ys σ' H',W i m ys σ' H'->
   ((Itl K a).stop i H'/\R H')\/((Itl K a).go i H'/\∀x H2,(Itl K a).yld i H' x H2->g x σ' H2 λ σ3 H3=>te σ3 H3 λ y H4=>
    H4 l=some (.lst ys)/\ys.length<sizeLine/\∃m',m'<m/\W (i+1) m' (ys++[y]) σ3 (upd H4 l (.lst (ys++[y])))):=by
 refine⟨λ i m ys σ H=>m=xs.length-i/\i≤xs.length/\σ.length=n/\Pv i ys H,⟨xs.length,by simp,Nat.zero_le _,List.length_replicate,h0⟩,?_⟩;rintro i m ys σ H ⟨rfl,hi,hn,p⟩;have q:=hl i ys H hi p;by_cases hlt:i<xs.length
 ·refine .inr ⟨⟨xs,xs[i],q,by simp [hlt]⟩,λ x H' y=>?_⟩;obtain⟨e,y⟩:=y;subst e;exact mg _ _ _ _ _ (λ σ3 H3 z=>mt _ _ _ _ (λ y H4 ⟨z1,z2,z3,z4⟩=>⟨z1,z2,xs.length-(i+1),by lia,rfl,hlt,z3,z4⟩) z) (hs i x ys σ _ (y xs q) p hn)
 ·have e:i=xs.length:=by lia
  subst e;exact .inl ⟨⟨xs,q,Nat.le_refl _⟩,hd ys H p⟩
section
variable {X : Cx}
theorem qH (hc:X.A.handled=none):CallR X (.builtin "sum") (λ xs H Q=>∃(p:Addr) (ns:List Int),xs=[.ref p]/\SqL X.K H p (ns.map V.int)/\Q (.int ns.sum) H):=by
 intro pins s σ H xs us Q I r h;obtain⟨p,ns,rfl,hq,q⟩:=h;obtain⟨u,rfl,rx⟩:=eA r;cases rx;obtain⟨its,rv,pl,hz⟩:=I.list hq;have hi:=cb rv;obtain⟨ys,hx⟩:=hi.allInts.items;have hl:s.heap.IsList p (intItems ys):=hx▸pl.isList;refine sum_intListG hc hl λ h' tk t' hk=>?_
 have e1:ns=ys.toList.map (·.1):=by
  rw [<-nums_intItems,<-hx];exact(show numsOf its.toArray.toList=ns from hi.numsOf).symm
 have e2:preSum (numAt ys) ys.size=ns.sum:=by
  rw [preSum_eq,List.take_of_length_le (by simp),e1]
 rw [e2];exact⟨.int ns.sum,H,I.kept (t':=tk) hk,⟨_,rfl⟩,q⟩
theorem eO:CallR X (.builtin "isinstance") (λ xs H Q=>∃x c t b,xs=[x,.ty c]/\TyOf X.K H x t/\PySem.W.kitOne X.K t (.type c)=some b/\Q (.bl b) H):=by
 intro pins s σ H xs us Q I r h;obtain⟨x,c,t,b,rfl,ty,e,q⟩:=h;obtain⟨u,v,rfl,ru,rv⟩:=ni r;cases rv;exact iS I ru ty e λ tk=>⟨.bl b,H,I.tok tk,rfl,q⟩
end
def bJ (X:Cx)(N:List Str)(scope:Scope)(cl:List (Str×Addr))(fp:List Addr)(s:Shared)(H:Hp):Cx where
 prog:=X.prog
 w:=X.w
 K:=X.K
 mg:=X.mg
 base:=X.base
 A:=X.A
 N:=N
 s₀:=s
 H₀:=H
 env:=compEnvC scope cl s.heap.objs.size X.env
 outer:=X.stack
 stack:=X.stack
 ex:=fp
 fn:=λ _=>false
 calm:=X.calm
 pn:=[]
 xe:=λ _ _=>False
def cap (js:List (Option Nat))(σ:St):St:=js.map λ o=>match o with
 |none=>none
 |some j=>(σ[j]?).getD none
structure Caps (X:Cx)(N:List Str)(scope:Scope)(cl:List (Str×Addr))(js:List (Option Nat)):Prop where
 kind:scope.kind=.function
 nocell:∀x∈scope.names,x.2≠ .cell
 names:∀x∈scope.names,x.2=.local->scope.names.lookup x.1=some .local
 clos:closureFor scope X.env=pure cl
 sub:∀x c,cl.lookup x=some c->X.env.cells.lookup x=some c
 has:∀x,((relabel scope X.env).names.lookup x=some .cell\/(relabel scope X.env).names.lookup x=some .free)->∃c,cl.lookup x=some c
 len:js.length=N.length
 slot:∀(i:Nat) (x:Str) (j:Nat),N[i]?=some x->js[i]?=some (some j)->X.N[j]?=some x/\X.env.scope.names.lookup x=some .cell/\(relabel scope X.env).names.lookup x=some .cell/\∀c,X.env.cells.lookup x=some c->cl.lookup x=some c
section
variable {X : Cx} {pins : List (Addr × Obj)} {σ : St} {H : Hp} {s : Shared} {N : List Str} {scope : Scope} {cl : List (Str × Addr)} {js : List (Option Nat)} {fp : List Addr}
theorem pE {h':Heap}{t':Nat}{m:Str->Option Value}(I:Inv X pins σ H s)(C:Caps X N scope cl js)
  (hf:∀b∈fp,FpOk X pins H b) (hlt:∀b∈fp,b<s.heap.objs.size) (hn:h'.Ns s.heap.objs.size m) (hk:∀b o,s.heap.get? b=some o->h'.get? b=some o):
  Inv (bJ X N scope cl fp s H) [] (cap js σ) H {s with heap:=h',toks:=t'}:=by
 have sub:∀{x:Str} {c:Addr},(bJ X N scope cl fp s H).env.cells.lookup x=some c->X.env.cells.lookup x=some c:=λ {x c} e=>C.sub x c e
 refine⟨⟨I.ok.mod,C.kind,I.ok.glob,I.ok.blt,Nat.le_refl _,λ x y c e1 e2=>I.ok.inj x y c (sub e1) (sub e2),λ x hx=>C.has x hx,λ x c e _=>(by cases e),I.qt,I.ok.frames,.inl rfl,
  λ b hb=>⟨Nat.ne_of_lt (hlt b hb),λ x c e=>(hf b hb).2.2.2.2.1 x c (sub e)⟩,I.bs,Nat.le_trans I.ok.bsz I.sz,λ b o e hb=>?_,λ b hb hs=>?_,I.stack,I.stkFree⟩,
  rfl,I.bare,Un.kept hk,⟨m,hn,λ i x v h1 h2 h3=>?_⟩,λ x c e=>?_,I.hok.fresh (Nat.le_refl _),λ x c e=>I.freeC x c (sub e),λ p hp=>?_,I.hok.kept hk,by unfold cap;rw [List.length_map];exact C.len⟩
 ·rcases(hf b hb).2.2.2.1 with z|z
  ·exact I.ok.noex b o e z
  ·exact absurd (Nat.lt_of_lt_of_le (Heap.lt_size e) (Nat.le_trans I.ok.bsz z)) (Nat.lt_irrefl _)
 ·rcases List.mem_cons.mp (I.stkSub b hs) with z|z
  ·exact(hf b hb).2.1 z
  ·exact(hf b hb).2.2.1 z
 ·unfold cap at h2;rw [List.getElem?_map] at h2;cases ej:js[i]? with
  |none=>rw [ej] at h2;cases h2
  |some o=>
   rw [ej] at h2;cases o with
   |none=>cases h2
   |some j=>
    have h2':(σ[j]?).getD none=some v:=Option.some.inj h2;obtain⟨hj1,hk1,hk2,hc⟩:=C.slot i x j h1 ej;have hj2:σ[j]?=some (some v):=by
     cases e:σ[j]? with
     |none=>rw [e] at h2';cases h2'
     |some w'=>rw [e] at h2';exact congrArg some h2'
    obtain⟨mo,hno,hl⟩:=I.loc;obtain⟨u,r,l⟩:=hl j x v hj1 hj2 (.inr (.inl hk1));refine⟨u,r,?_⟩;rcases l with⟨q,_⟩|⟨_,c,ec,o,ho,hd⟩
    ·have q':X.env.scope.names.lookup x=some .local:=q;rw [hk1] at q';cases q'
    ·exact .inr ⟨.inl hk2,c,hc c ec,o,hk c o ho,hd⟩
 ·obtain⟨v,o,ho,hd⟩:=I.cell x c (sub e);exact⟨v,o,hk c o ho,hd⟩
 ·exact absurd (show p∈([]:List (Addr×Obj)) from hp) (by simp)
theorem mB {pins':List (Addr×Obj)}{σ':St}{H':Hp}{s':Shared}(I:Inv X pins σ H s)(hf:∀b∈fp,FpOk X pins H b)(I':Inv (bJ X N scope cl fp s H) pins' σ' H' s'):Inv X pins σ H' s':=
 I.call' (ch:=fp) I'.os I'.base I'.hok I'.bare λ b hb=>⟨(hf b hb).2.2.2.1,(hf b hb).2.1,(hf b hb).2.2.2.2.1,(hf b hb).2.2.2.2.2⟩
end
def rE (js:List (Option Nat))(wi:TI)(g:TG)(te:TE):TE:=λ σ H Q=>wi σ H λ J H1=>∀l,H1 l=none->∃W:Nat->Nat->List V->St->Hp->Prop,
 (∃m,W 0 m [] (cap js σ) (upd H1 l (.lst [])))/\∀i m ys σ' H',W i m ys σ' H'->
  (J.stop i H'/\Q (.ref l) H')\/(J.go i H'/\∀x H2,J.yld i H' x H2->g x σ' H2 λ σ3 H3=>te σ3 H3 λ y H4=>
   H4 l=some (.lst ys)/\ys.length<sizeLine/\∃m',m'<m/\W (i+1) m' (ys++[y]) σ3 (upd H4 l (.lst (ys++[y]))))
section
variable {X : Cx} {N : List Str} {scope : Scope} {cl : List (Str × Addr)} {js : List (Option Nat)} {elt target iter : Expr} {pos : Pos} {wi : TI} {g : TG} {te : TE}
theorem lT {pins:List (Addr×Obj)}{σ:St}{H:Hp}{s:Shared}{Q:VK}{RR:Value->Addr->Result->Shared->Prop}
  (hc:X.calm=true) (Cp:Caps X N scope cl js)
  (hi:PI X target iter wi) (hg:∀fp s H,PG (bJ X N scope cl fp s H) target g) (he:∀fp s H,PE (bJ X N scope cl fp s H) elt te)
  (I:Inv X pins σ H s) (h:rE js wi g te σ H Q)
  (hR:∀(l C:Addr) (H':Hp) (s':Shared),Inv X pins σ H' s'->FpOk X pins H' C->(∃m,s'.heap.Ns C m)->Q (.ref l) H'->RR (.ref l) C (.ok .next) s'):
  wpAny (model X.prog X.w) X.A (eval iter X.env) (λ x s₁=>wpAny (model X.prog X.w) X.A (pyIter x) (λ it s₂=>wpAny (model X.prog X.w) X.A (newList []) (λ acc s₃=>
   wpAny (model X.prog X.w) X.A (newFunctionEnv scope X.env.globals cl [] X.env.qual none .none (some X.env)) (λ cenv s₄=>
    codeAny (model X.prog X.w) X.A (.compStart (.ListComp elt [⟨target,iter,[],0⟩] scope pos) 0 it acc {cenv with scope:=relabel scope X.env}) (RR acc cenv.locals) s₄) X.xe s₃) X.xe s₂) X.xe s₁) X.xe s:=by
 refine thn (hi pins s σ H _ I h) λ v s1 h1=>thn h1 λ itv s2 h2=>?_
 obtain⟨it,fp,tn,J,H2,e,I2,T,st2,f2,hw⟩:=h2;subst e;have hl2:H2 s2.heap.objs.size=none:=I2.hok.fresh (Nat.le_refl _);obtain⟨W,⟨m0,w0⟩,turn⟩:=hw s2.heap.objs.size hl2;have lt2:∀b∈fp,b<s2.heap.objs.size:=λ b hb=>let⟨o,e,_⟩:=T.obj _ _ st2 b hb;Heap.lt_size e
 refine wpAny_newList ?_;have I3:Inv X pins σ (upd H2 s2.heap.objs.size (.lst [])) {s2 with heap:=s2.heap.push {cls:=.type "list",data:=.seq ([]:List Value).toArray}}:=
  I2.laid (t':=s2.toks) (λ b u e=>Heap.get?_push_of_some _ e) (Nat.le_refl _) ⟨Nat.zero_le _,[],0,.nil,Heap.get?_push_size _ rfl⟩
 have st3:tn 0 (s2.heap.push {cls:=.type "list",data:=.seq ([]:List Value).toArray}):=T.keep _ _ _ st2 λ b hb o e=>Heap.get?_push_of_some _ e
 have lt3:∀b∈fp,b<(s2.heap.push {cls:=.type "list",data:=.seq ([]:List Value).toArray}).objs.size:=λ b hb=>by rw [Heap.size_push];exact Nat.lt_succ_of_lt (lt2 b hb)
 have f3:∀b∈fp,FpOk X pins (upd H2 s2.heap.objs.size (.lst [])) b:=λ b hb=>⟨by rw [upd_ne (Nat.ne_of_lt (lt2 b hb))];exact(f2 b hb).1,(f2 b hb).2⟩
 generalize s2.heap.objs.size=l at*;generalize upd H2 l (.lst [])=H3 at*;have hs3:∃s3:Shared,s3={s2 with heap:=s2.heap.push {cls:=.type "list",data:=.seq ([]:List Value).toArray}}:=⟨_,rfl⟩;obtain⟨s3,e3⟩:=hs3;rw [<-e3] at I3;rw [<-e3];have st3:tn 0 s3.heap:=by rw [e3];exact st3
 have lt3:∀b∈fp,b<s3.heap.objs.size:=by rw [e3];exact lt3
 clear e3;refine wpAny_newFunctionEnv Cp.nocell (by intro y hy;simp at hy) (λ h4 hns hsb=>?_) Cp.kind;have kp:∀b o,s3.heap.get? b=some o->h4.get? b=some o:=λ b o e=>hsb.extBut b o (Nat.ne_of_lt (Heap.lt_size e)) (Heap.get?_push_of_some _ e)
 have I4:=pE (N:=N) (t':=s3.toks+([]:List (Str×Value)).length) I3 Cp f3 lt3 hns kp;have st4:tn 0 h4:=T.keep _ _ _ st3 λ b hb o e=>kp b o e
 have stat:∀{H':Hp},(∀b∈fp,H' b=none)->∀b∈fp,FpOk (bJ X N scope cl fp s3 H3) [] H' b:=λ hn b hb=>
  ⟨hn b hb,(I4.ok.exf b hb).1,I4.ok.exfs b hb,.inl hb,(I4.ok.exf b hb).2,λ p hp=>absurd (show p∈([]:List (Addr×Obj)) from hp) (by simp)⟩
 have loop:codeAny (model X.prog X.w) X.A (.compLoop (.ListComp elt [⟨target,iter,[],0⟩] scope pos) 0 (.ref it) (.ref l) (compEnvC scope cl s3.heap.objs.size X.env)) (RR (.ref l) s3.heap.objs.size)
   {s3 with heap:=h4,toks:=s3.toks+([]:List (Str×Value)).length}:=by
  refine iH (λ n s'=>∃i ys σ' H',Inv (bJ X N scope cl fp s3 H3) [] σ' H' s'/\tn i s'.heap/\(∀b∈fp,H' b=none)/\W i n ys σ' H') ?_ m0 ⟨0,[],_,_,I4,st4,λ b hb=>(f3 b hb).1,w0⟩;rintro n s5 ⟨i,ys,σ5,H5,I5,st5,fr5,w5⟩;rcases turn i n ys σ5 H5 w5 with⟨stop,q⟩|⟨go,step⟩
  ·refine thn (T.done (bJ X N scope cl fp s3 H3) rfl rfl rfl hc i [] s5 σ5 H5 _ I5 (stat fr5) st5 stop) λ r s6 ⟨hr,I6⟩=>?_
   subst hr;exact hR _ _ _ _ (mB I3 f3 I6) (I3.fpOk (Nat.le_refl _) I6.free) (let⟨m,hn,_⟩:=I6.loc;⟨m,hn⟩) q
  ·refine thn (T.item (bJ X N scope cl fp s3 H3) rfl rfl rfl hc i [] s5 σ5 H5 _ I5 (stat fr5) st5 go) λ r s6 ⟨u,hr,h6⟩=>?_
   subst hr;refine thn h6 λ _ s7 ⟨x,H7,I7,r7,y7,st7,fr7⟩=>?_
   have I7':=I7.pinned (stat fr7) (T.obj _ _ st7);refine wpAny_mono (hg fp s3 H3 _ s7 σ5 H7 x u _ I7' r7 (step x H7 y7)) (λ _ s8 ⟨σ8,H8,I8,q8⟩=>?_) (λ _ _ z=>False.elim z);refine wpAny_mono (he fp s3 H3 _ s8 σ8 H8 _ I8 q8) (λ v s9 ⟨y,H9,I9,r9,hl9,hz9,m',hm',w9⟩=>?_) (λ _ _ z=>False.elim z);refine wpAny_mono (aO (X:=bJ X N scope cl fp s3 H3) _ s9 σ8 H9 (.ref l) [y] (.ref l) [v] (λ z Hz=>Hz=upd H9 l (.lst (ys++[y]))) I9 rfl (.cons r9 .nil) ⟨l,ys,y,rfl,rfl,hl9,hz9,rfl⟩)
    (λ _ s10 ⟨z,Hz,I10,_,eH⟩=>?_) (λ _ _ z=>False.elim z)
   subst eH;refine⟨m',hm',i+1,ys++[y],σ8,_,I10.unpinned,T.keep _ _ _ st7 λ b hb o e=>(I10.pin (b,o) (List.mem_append_right _ (List.mem_append_right _ (aX hb e)))).1,λ b hb=>?_,w9⟩;obtain⟨o,e,d⟩:=T.obj _ _ st7 b hb;exact(I10.pin (b,o) (List.mem_append_right _ (List.mem_append_right _ (aX hb e)))).2.1
 exact codeAny_compStart_list loop (T.self X.A 0 _ _ _ st4 loop)
theorem r8 {i:Nat}{y:Str}{py spos:Pos}(hN:X.N.Nodup)(hiy:X.N[i]?=some y)(hy:Loc X.env.scope y)
    (hc:X.calm=true) (Cp:Caps X N scope cl js)
    (hi:PI X target iter wi) (hg:∀fp s H,PG (bJ X N scope cl fp s H) target g) (he:∀fp s H,PE (bJ X N scope cl fp s H) elt te)
    (hsw:swapsWith (.ListComp elt [⟨target,iter,[],0⟩] scope pos) (some (.Name y py)) spos.line X.env=pure true)
    (hs:∀x,foldedSetIterable iter X.env x=pure x:=by intro _;rfl) (hf:X.fn y=true\/X.env.scope.names.lookup y=some .local:=by first|exact .inl rfl|exact .inr rfl|assumption):
    PS X (.Assign [.Name y py] (.ListComp elt [⟨target,iter,[],0⟩] scope pos) spos) (wq i (rE js wi g te)):=by
  intro pins s σ H D I h
  rw [exec_Assign_Name_used _ _ _ _ hsw]
  refine wpAny_bind (wpAny_standAt (wpAny_bind ?_))
  show wpAny _ X.A (do let _<-comprehension (.ListComp elt [⟨target,iter,[],0⟩] scope pos) scope X.env _ (newList []) false (eval iter X.env) (some (assign (.Name y py) X.env))) _ _ s
  refine wpAny_bind (wpAny_mono (wpAny_comprehension_free (use:=some (assign (.Name y py) X.env)) (Q:=λ _ s'=>SP X pins D .next s') rfl hs Cp.clos Cp.kind Cp.names
    (lT (RR:=λ acc C=>compPost (model X.prog X.w) X.A X.xe (some (assign (.Name y py) X.env)) (λ _ s'=>SP X pins D .next s') acc C) hc Cp hi hg he I h ?_)) (λ _ s' hq=>wpAny_pure (wpAny_pure hq)) λ _ _ e=>e)
  rintro l C H' s' I' fC ⟨m,hn⟩ q
  show wpAny _ X.A (assign (.Name y py) X.env (.ref l)) _ _ _
  refine wpAny_assign_Name (hV (v:=.ref l) I' hN hiy hy (show RelV (.ref l) (.ref l) from rfl) (λ s2 I2 ⟨a,sb,ha⟩=>?_) hf)
  have hCa:C≠a:=by
    rcases ha with ha|ha
    ·rw [ha];exact fC.2.1
    ·exact Ne.symm (fC.2.2.2.2.1 y a ha)
  exact⟨m,hn.sameBut sb hCa,λ h' sb'=>⟨_,H',I2.turned (t':=s2.toks) (λ b o hb e=>(sb'.2 b hb).trans e) fC.1 fC.2.1 fC.2.2.2.1 fC.2.2.2.2.1 fC.2.2.2.2.2,q⟩⟩
end
theorem o8 {lo:Int}{l:Addr}{k:Nat}{σ0:St}{g:TG}{te:TE}{R:Hp->Prop}{H1:Hp}(Pv:Nat->List V->St->Hp->Prop)(h0:Pv 0 [] σ0 (upd H1 l (.lst [])))
  (hs:∀i ys σ H,i<k->Pv i ys σ H->g (.int (lo+(i:Nat))) σ H λ σ3 H3=>te σ3 H3 λ y H4=>H4 l=some (.lst ys)/\ys.length<sizeLine/\Pv (i+1) (ys++[y]) σ3 (upd H4 l (.lst (ys++[y]))))
  (hd:∀ys σ H,Pv k ys σ H->R H) (mg:∀x σ H (A B:St->Hp->Prop),(∀σ' H',A σ' H'->B σ' H')->g x σ H A->g x σ H B) (mt:∀σ H (A B:VK),(∀v H',A v H'->B v H')->te σ H A->te σ H B):
  ∃W:Nat->Nat->List V->St->Hp->Prop,(∃m,W 0 m [] σ0 (upd H1 l (.lst [])))/\∀i m ys σ' H',W i m ys σ' H'->
   ((Itr lo k).stop i H'/\R H')\/((Itr lo k).go i H'/\∀x H2,(Itr lo k).yld i H' x H2->g x σ' H2 λ σ3 H3=>te σ3 H3 λ y H4=>
    H4 l=some (.lst ys)/\ys.length<sizeLine/\∃m',m'<m/\W (i+1) m' (ys++[y]) σ3 (upd H4 l (.lst (ys++[y])))):=by
 refine⟨λ i m ys σ H=>m=k-i/\i≤k/\Pv i ys σ H,⟨k,by simp,Nat.zero_le _,h0⟩,?_⟩;rintro i m ys σ H ⟨rfl,hi,p⟩;by_cases hlt:i<k
 ·refine .inr ⟨hlt,λ x H' y=>?_⟩;obtain⟨e,y⟩:=y;subst e y;exact mg _ _ _ _ _ (λ σ3 H3 z=>mt _ _ _ _ (λ y H4 ⟨z1,z2,z4⟩=>⟨z1,z2,k-(i+1),by lia,rfl,hlt,z4⟩) z) (hs i ys σ _ hlt p)
 ·have e:i=k:=by lia
  subst e;exact .inl ⟨Nat.le_refl _,hd ys σ H p⟩
structure FunD (K:PySem.W.Frag)(x qual:Str)(st:Stmt)(dV:Value)(f:Addr)(fd:FuncData):Prop where
 ex:∃(oc:Value) (od:Option Addr) (kV doc pm:Value) (an:Option Addr) (cdv ct:Value) (osl:Array (Option Value)),
  fd=PySem.W.fnOf x qual (defArgs st) (defBody st) (defScope st) dV kV doc pm an cdv ct/\K.lookup f=some ⟨oc,od,.func fd,osl⟩/\PySem.W.codeIn K cdv qual=true
 kp:PySem.W.keepIn K (.ref f)=true
theorem FunD.ok {P:Program}{w:World}{K:PySem.W.Frag}{mg:Str->Option Value}{base:Heap}{x qual:Str}{st:Stmt}{dV:Value}{f:Addr}{fd:FuncData}{N ps:List Str}{k:Nat}{sp:Sp}(F:FunD K x qual st dV f fd)(S:FnScope N ps (defScope st))(len:∀vs H Q E,sp vs H Q E->vs.length=ps.length)
  (hb:∀(cdv:Value) (A:Around) (outer:List Env) (s:Shared) (H:Hp) (vs:List V) (Q:VK) (E:XK),Room k (A.deeper (envOfC qual (defScope st) s.heap.objs.size f cdv))->sp vs H Q E->
   ∃t,PSs (cxOf CX0 P w K mg base N qual (defScope st) f cdv A outer s H E).nox (defBody st) t/\t {nx:=λ _ H'=>Q .non H',rt:=Q} (start N vs) H):FnOk P w K mg base CX0 (k+1) f fd ps sp:=by
 obtain⟨oc,od,kV,doc,pm,an,cdv,ct,osl,rfl,lk,hcd⟩:=F.ex;refine uH lk hcd S len λ A outer s H vs Q E hr hsp=>?_
 obtain⟨t,h,q⟩:=hb cdv A outer s H vs Q E hr hsp;exact⟨t,h.nox,q⟩
def xG (P:Program)(w:World)(h:Heap)(d:Addr)(a b:Int):Prop:=∃t t':Tok,h.MapOf (intKind P w) d (valueAt [((8:Int),Value.int a t),(16,.int b t')])
def TabK (K:PySem.W.Frag)(d:Addr)(a b:Int):Prop:=(d==sysModules)=false/\∃(t1 t2 t3 t4:Tok) (ep:Nat),K.lookup d=some ⟨.type "dict",none,.dict #[⟨8,.int 8 t1,.int a t2⟩,⟨16,.int 16 t3,.int b t4⟩] ep,#[]⟩
theorem TabK.map {K:PySem.W.Frag}{d:Addr}{a b:Int}{h:Heap}(P:Program)(w:World)(T:TabK K d a b)(X:K.In h):xG P w h d a b:=by
 obtain⟨_,t1,t2,t3,t4,ep,e⟩:=T;refine⟨t2,t4,_,_,ep,X _ _ e,⟨rfl,rfl,rfl⟩,rfl,?_,?_⟩
 ·intro en hen;have hen':en=⟨8,.int 8 t1,.int a t2⟩\/en=⟨16,.int 16 t3,.int b t4⟩:=by simpa using hen
  rcases hen' with rfl|rfl
  ·exact⟨8,intKind_is P w 8 t1,by show(8:Int)=hashInt 8;decide+kernel⟩
  ·exact⟨16,intKind_is P w 16 t3,by show(16:Int)=hashInt 16;decide+kernel⟩
 ·intro k;show findBy Value.isInt _ k=_;unfold findBy valueAt;by_cases h8:k=8
  ·subst h8;simp [Value.isInt]
  ·by_cases h16:k=16
   ·subst h16;simp [Value.isInt]
   ·have e1:¬(8:Int)=k:=λ z=>h8 z.symm
    have e2:¬(16:Int)=k:=λ z=>h16 z.symm
    simp [Value.isInt,e1,e2]
section
variable {X : Cx} {pins : List (Addr × Obj)} {σ : St} {H : Hp} {s : Shared}
theorem lN (hu:X.A.units+64<cLine):OpR X (compareOp .Eq) (λ x y H Q=>∃(p q:Addr) (ns ms:List Int),x=.ref p/\y=.ref q/\SqL X.K H p (ns.map V.int)/\SqL X.K H q (ms.map V.int)/\Q (.bl (decide (ns=ms))) H):=by
 intro pins s σ H x y v u Q I rx ry h;obtain⟨p,q,ns,ms,rfl,rfl,h1,h2,k⟩:=h;cases rx;cases ry;obtain⟨its,rv,pl,hz⟩:=I.list h1;obtain⟨its2,rv2,pl2,hz2⟩:=I.list h2;exact PySem.W.eq_intsK pl.isList (cb rv) pl2.isList (cb rv2) hu ⟨.bl _,H,I,rfl,k⟩
end
end L2
namespace QQ
open PySem
section
variable {M : Model} {A : Around} {E : Value -> Shared -> Prop}
variable {nm q nm' q' : Str} {C N D N' : Addr} {bs bm bs' bm' : List Value} {hdct hdct' : Bool} {sn sn' : List Str} {sub sub' : List Value} {ab ab' : Bool} {col col' : Option Bool} {dd dd' : Option Addr} {k0 k1 k2 k3 k5 j0 j1 j2 j3 j5 : Option Value} {newId newId' : String}
end
end QQ
set_option maxHeartbeats 4000000
namespace L2
open PySem PySem.Spec PyProof.Rows QQ
theorem ObjOk.there {P:Program}{w:World}{H:Hp}{h:Heap}{a:Addr}{o:HO}(x:ObjOk P w H h a o):∃ob,h.get? a=some ob:=by
 cases o with
 |lst xs=>obtain⟨_,_,_,_,e⟩:=x;exact⟨_,e⟩
 |tup xs=>obtain⟨_,_,_,ob,e,_⟩:=x;exact⟨_,e⟩
 |dK kvs=>obtain⟨_,_,_,_,o,_,_,e,_⟩:=x;exact⟨_,e⟩
 |dT kvs=>obtain⟨_,_,_,_,o,_,_,e,_⟩:=x;exact⟨_,e⟩
 |set S n=>obtain⟨o,_,_,_,e,_⟩:=x;exact⟨_,e⟩
 |ins C dx fs=>obtain⟨_,_,_,e,_⟩:=x;exact⟨_,e⟩
 |own y=>exact x
 |xd fs=>obtain⟨_,⟨_,_,_,e,_⟩,_⟩:=x;exact⟨_,e⟩
 |rng lo hi=>obtain⟨_,_,_,e⟩:=x;exact⟨_,e⟩
 |frz ob u=>obtain⟨e,_⟩:=x;exact⟨_,e⟩
 |tbl ps=>exact⟨_,show h.get? a=some _ from x⟩
 |met f y=>exact⟨_,show h.get? a=some _ from x⟩
 |ext φ=>obtain⟨_,e,_⟩:=x;exact e
structure New (X:Cx)(pins:List (Addr×Obj))(H:Hp)(b:Addr):Prop where
 s0:X.s₀.heap.get? b=none
 h:H b=none
 loc:b≠X.env.locals
 cel:∀x c,X.env.cells.lookup x=some c->c≠b
 pin:∀p∈X.pn++pins,p.1≠b
section
variable {X : Cx} {pins : List (Addr × Obj)} {σ : St} {H H' : Hp} {s : Shared}
theorem Inv.new (I:Inv X pins σ H s){b:Addr}(e:s.heap.get? b=none)(n:H' b=none)(hx:b∉X.ex):New X pins H' b:=by
 refine⟨?_,n,λ z=>?_,λ x c ec z=>?_,λ p hp z=>?_⟩
 ·cases q:X.s₀.heap.get? b with
  |none=>rfl
  |some o=>
   obtain⟨o',r⟩:=I.base.there b o q hx;rw [e] at r;cases r
 ·obtain⟨m,⟨o,_,_,ho,_⟩,_⟩:=I.loc;rw [<-z,e] at ho;cases ho
 ·obtain⟨v,o,ho,_⟩:=I.cell x c ec;rw [z,e] at ho;cases ho
 ·have:=(I.pin p hp).1;rw [z,e] at this;cases this
theorem New.ch {b:Addr}(n:New X pins H b):(b∈X.ex\/X.s₀.heap.get? b=none)/\b≠X.env.locals/\(∀x c,X.env.cells.lookup x=some c->c≠b)/\∀p∈X.pn++pins,p.1≠b:=⟨.inr n.s0,n.loc,n.cel,n.pin⟩
end
def vh (X:Cx)(e:Addr)(o:Obj):Cx:={X with
 A:=X.A.mark (some (.ref e))
 H₀:=upd X.H₀ e (.frz o (.own e))
 xe:=λ _ _=>False}
section
variable {X : Cx} {pins pn : List (Addr × Obj)} {σ σ0 : St} {H : Hp} {s : Shared} {E : XK} {W : Value -> Shared -> Prop}
end
section
variable {X : Cx} {CX : CXT} {k : Nat} {f C : Addr} {fd : FuncData} {ps : List Str} {sp : Sp} {dvs : List V} {ds : List Value} {E : XK} {x m : Str} {p pos apos : Pos} {e o : Expr} {es : List Expr} {ta : TE} {t : TA} {σ0 : St}
end
section
variable {X : Cx} {pins : List (Addr × Obj)} {σ : St} {H : Hp} {s : Shared}
theorem Inv.hand {e:Addr}{cls:Value}{vs:Array Value}(I:Inv X pins σ H s)(n:New X pins H e)(g:s.heap.get? e=some (exO cls vs))(h2:vs[2]?=some Value.none):
  Inv (vh X e (exO cls vs)) pins σ (upd H e (.frz (exO cls vs) (.own e))) s:=by
 have neF:∀b∈X.fs,b≠e:=λ b hb z=>by
  obtain⟨_,o,ho,_⟩:=I.ok.funs.mem hb;rw [z,n.s0] at ho;cases ho
 have ne0:∀b o,X.s₀.heap.get? b=some o->b≠e:=λ b o q z=>by rw [z,n.s0] at q;cases q
 have neB:∀b o,X.base.get? b=some o->b≠e:=λ b o q=>ne0 b o (I.ok.bs b o q).1
 have h0:X.H₀ e=none\/True:=.inr trivial;refine⟨⟨I.ok.mod,I.ok.kind,I.ok.glob,I.ok.blt,I.ok.above,I.ok.inj,I.ok.has,I.ok.cab,.inr ⟨e,_,vs,rfl,upd_same,rfl,h2⟩,I.ok.frames,I.ok.stk,I.ok.exf,λ b o q=>⟨(I.ok.bs b o q).1,?_⟩,I.ok.bsz,I.ok.noex,I.ok.exfs,I.ok.funs,λ b hb=>?_⟩,
  I.os,I.bare,⟨λ b o q z hb hx=>?_,λ b o q z hb hx=>?_,λ b o q z hx=>?_,I.base.there,λ b xs q=>?_,λ b o u q=>?_,λ b ps q=>?_⟩,I.loc,I.cell,?_,λ x c ec=>?_,λ p hp=>?_,λ a o q=>?_,I.len⟩
 ·show upd X.H₀ e _ b=none;rw [upd_ne (neB b o q)];exact(I.ok.bs b o q).2
 ·show upd X.H₀ e _ b=none;rw [upd_ne (neF b hb)];exact I.ok.frf b hb
 ·have z':upd X.H₀ e (.frz (exO cls vs) (.own e)) b=none:=z;rw [upd_ne (ne0 b o q)] at z';exact I.base.keep b o q z' hb hx
 ·have z':upd X.H₀ e (.frz (exO cls vs) (.own e)) b=none:=z;rw [upd_ne (ne0 b o q)] at z';exact I.base.slot b o q z' hb hx
 ·have z':upd X.H₀ e (.frz (exO cls vs) (.own e)) b=none:=z;rw [upd_ne (ne0 b o q)] at z' ⊢;exact I.base.free b o q z' hx
 ·have q':upd X.H₀ e (.frz (exO cls vs) (.own e)) b=some (.tup xs):=q;by_cases hb:b=e
  ·rw [hb,upd_same] at q';cases q'
  ·rw [upd_ne hb] at q' ⊢;exact I.base.tups b xs q'
 ·have q':upd X.H₀ e (.frz (exO cls vs) (.own e)) b=some (.frz o u):=q;by_cases hb:b=e
  ·rw [hb] at q' ⊢;rw [upd_same] at q' ⊢;exact q'
  ·rw [upd_ne hb] at q' ⊢;exact I.base.frzs b o u q'
 ·have q':upd X.H₀ e (.frz (exO cls vs) (.own e)) b=some (.tbl ps):=q;by_cases hb:b=e
  ·rw [hb,upd_same] at q';cases q'
  ·rw [upd_ne hb] at q' ⊢;exact I.base.tbls b ps q'
 ·show upd H e _ X.env.locals=none;rw [upd_ne (Ne.symm n.loc)];exact I.free
 ·rw [upd_ne (n.cel x c ec)];exact I.freeC x c ec
 ·obtain⟨a1,a2,a3⟩:=I.pin p hp;exact⟨a1,by rw [upd_ne (n.pin p hp)];exact a2,a3⟩
 ·by_cases ha:a=e
  ·subst ha;rw [upd_same] at q;cases q;exact⟨g,_,g⟩
  ·rw [upd_ne ha] at q;have nt:∀b u,H b=some u->b≠e:=λ b u r z=>by rw [z,n.h] at r;cases r
   exact(I.hok a o q).stay (λ b u _ r=>r) (λ b r=>by rw [upd_ne (nt b _ r)];exact r) λ b xs r=>by rw [upd_ne (nt b _ r)];exact r
end
theorem Room.hand {j k:Nat}{A:Around}{v:Option Value}(r:Room k A)(h:j≤k)(h30:j<30):Room j (A.mark v):=
 ⟨λ z=>absurd z (Nat.not_le.mpr h30),by have:=r.dp;show A.depth+_+5<_;lia,by have:=r.un;show A.units+_+200<_;lia⟩
structure ExI (K:PySem.W.Frag)(C:Addr):Prop where
 ga:PySem.W.findIn K (.ref C) "__getattribute__"=some (some (.builtin "BaseException.__getattribute__"))
 gt:PySem.W.findIn K (.ref C) "__getattr__"=some none
 hd:PySem.W.hasDictIn K C=true
 ha:PySem.W.findIn K (.ref C) "__class__"=some (some (.builtin "object.__class__"))
 hn:PySem.W.specialIn K (.builtin "object.__class__") "__get__"=some (some (.builtin "getset_descriptor.__get__"))
 htk:PySem.W.takesIn K (.builtin "object.__class__")=some true
 hm:PySem.W.mroIn K C (.type "object")=some true
 be:PySem.W.mroIn K C (.type "BaseException")=some true
section
variable {X : Cx}
end
section
variable {prog : Program} {w : World} {A : Around} {R : Result -> Shared -> Prop} {s : Shared}
theorem lX {elt cnd target iter:Expr}{scope:Scope}{pos:Pos}{it acc:Value}{env:Env}(J:Nat->Shared->Prop)
    (turn:∀n z,J n z->wpAny (model prog w) A (pyNext it) (λ r z1=>match r with
      |none=>R (.ok .next) z1
      |some v=>wpAny (model prog w) A (letOwnedTupleGo target it v) (λ _ z2=>wpAny (model prog w) A (assign target env v) (λ _ z3=>wpAny (model prog w) A (isTrue cnd env (eval cnd env)) (λ b z6=>if b=true then wpAny (model prog w) A (eval elt env) (λ x z4=>
          wpAny (model prog w) A (call (.builtin "list.append") [acc,x]) (λ _ z5=>∃m,m<n/\J m z5)
            (notedBy (model prog w) A env λ e s'=>R (.error e) s') z4) (notedBy (model prog w) A env λ e s'=>R (.error e) s') z6 else∃m,m<n/\J m z6) (notedBy (model prog w) A env λ e s'=>R (.error e) s') z3)
            (notedBy (model prog w) A env λ e s'=>R (.error e) s') z2) (notedBy (model prog w) A env λ e s'=>R (.error e) s') z1) (notedBy (model prog w) A env λ e s'=>R (.error e) s') z)
    (n:Nat) (h:J n s):codeAny (model prog w) A (.compLoop (.ListComp elt [⟨target,iter,[cnd],0⟩] scope pos) 0 it acc env) R s:=by
  refine codeAny_loop rfl J (λ k z hz=>?_) n h
  show wpAny _ _ ((compTurn (.ListComp elt [⟨target,iter,[cnd],0⟩] scope pos) 0 it acc env).onRaise (λ q=>do noteFrame q env;theTreesLotGoes q)) _ _ z
  refine wpAny_noted ?_
  rw [compTurn_list]
  refine wpAny_bind (wpAny_standAt (wpAny_bind (wpAny_mono (turn k z hz) (λ r z1 g1=>?_) λ _ _ q=>q)))
  cases r with
  |none=>exact wpAny_pure g1
  |some v=>
    refine wpAny_bind (wpAny_mono g1 (λ _ z2 g2=>wpAny_bind (wpAny_mono g2 (λ _ z3 g3=>?_) λ _ _ q=>q)) λ _ _ q=>q)
    refine wpAny_bind (wpAny_tests_one (wpAny_mono g3 (λ b z6 g6=>?_) λ _ _ q=>q))
    cases b with
    |false=>exact wpAny_pure ⟨rfl,g6⟩
    |true=>exact wpAny_bind (wpAny_bind (wpAny_mono g6 (λ x z4 g4=>wpAny_bind (wpAny_mono g4 (λ _ z5 g5=>wpAny_pure (wpAny_pure ⟨rfl,g5⟩)) λ _ _ q=>q)) λ _ _ q=>q))
end
def pP (n:Nat)(wi:TI)(g:TG)(tt:TT)(te:TE):TE:=λ σ H Q=>wi σ H λ J H1=>∀l,H1 l=none->∃W:Nat->Nat->List V->St->Hp->Prop,
 (∃m,W 0 m [] (List.replicate n none) (upd H1 l (.lst [])))/\∀i m ys σ' H',W i m ys σ' H'->
  (J.stop i H'/\Q (.ref l) H')\/(J.go i H'/\∀x H2,J.yld i H' x H2->g x σ' H2 λ σ3 H3=>tt σ3 H3 λ c H5=>if c=true then te σ3 H5 λ y H4=>
   H4 l=some (.lst ys)/\ys.length<sizeLine/\∃m',m'<m/\W (i+1) m' (ys++[y]) σ3 (upd H4 l (.lst (ys++[y]))) else∃m',m'<m/\W (i+1) m' ys σ3 H5)
section
variable {X : Cx} {N : List Str} {scope : Scope} {elt cnd target iter : Expr} {pos : Pos} {wi : TI} {g : TG} {tt : TT} {te : TE}
theorem compI_core {pins:List (Addr×Obj)}{σ:St}{H:Hp}{s:Shared}{Q:VK}{RR:Value->Env->Result->Shared->Prop}
  (hc:X.calm=true) (hkind:scope.kind=.function) (hfree:∀x∈scope.names,x.2≠ .free) (hcell:∀x∈scope.names,x.2≠ .cell)
  (hi:PI X target iter wi) (hg:∀fp s H,PG (a7 X N scope fp s H) target g) (ht:∀fp s H,PT (a7 X N scope fp s H) cnd tt) (he:∀fp s H,PE (a7 X N scope fp s H) elt te)
  (I:Inv X pins σ H s) (h:pP N.length wi g tt te σ H Q)
  (hR:∀(l C:Addr) (H':Hp) (s':Shared),Inv X pins σ H' s'->FpOk X pins H' C->(∃m,s'.heap.Ns C m)->Q (.ref l) H'->RR (.ref l) (compEnv scope C X.env) (.ok .next) s'):
  wpAny (model X.prog X.w) X.A (eval iter X.env) (λ x s₁=>wpAny (model X.prog X.w) X.A (pyIter x) (λ it s₂=>wpAny (model X.prog X.w) X.A (newList []) (λ acc s₃=>
   wpAny (model X.prog X.w) X.A (newFunctionEnv scope X.env.globals [] [] X.env.qual none .none (some X.env)) (λ cenv s₄=>
    codeAny (model X.prog X.w) X.A (.compStart (.ListComp elt [⟨target,iter,[cnd],0⟩] scope pos) 0 it acc {cenv with scope:=scope}) (RR acc {cenv with scope:=scope}) s₄) X.xe s₃) X.xe s₂) X.xe s₁) X.xe s:=by
 refine thn (hi pins s σ H _ I h) λ v s1 h1=>thn h1 λ itv s2 h2=>?_
 obtain⟨it,fp,tn,J,H2,e,I2,T,st2,f2,hw⟩:=h2;subst e;have hl2:H2 s2.heap.objs.size=none:=I2.hok.fresh (Nat.le_refl _);obtain⟨W,⟨m0,w0⟩,turn⟩:=hw s2.heap.objs.size hl2;have lt2:∀b∈fp,b<s2.heap.objs.size:=λ b hb=>let⟨o,e,_⟩:=T.obj _ _ st2 b hb;Heap.lt_size e
 refine wpAny_newList ?_;have I3:Inv X pins σ (upd H2 s2.heap.objs.size (.lst [])) {s2 with heap:=s2.heap.push {cls:=.type "list",data:=.seq ([]:List Value).toArray}}:=
  I2.laid (t':=s2.toks) (λ b u e=>Heap.get?_push_of_some _ e) (Nat.le_refl _) ⟨Nat.zero_le _,[],0,.nil,Heap.get?_push_size _ rfl⟩
 have st3:tn 0 (s2.heap.push {cls:=.type "list",data:=.seq ([]:List Value).toArray}):=T.keep _ _ _ st2 λ b hb o e=>Heap.get?_push_of_some _ e
 have lt3:∀b∈fp,b<(s2.heap.push {cls:=.type "list",data:=.seq ([]:List Value).toArray}).objs.size:=λ b hb=>by rw [Heap.size_push];exact Nat.lt_succ_of_lt (lt2 b hb)
 have f3:∀b∈fp,FpOk X pins (upd H2 s2.heap.objs.size (.lst [])) b:=λ b hb=>⟨by rw [upd_ne (Nat.ne_of_lt (lt2 b hb))];exact(f2 b hb).1,(f2 b hb).2⟩
 generalize s2.heap.objs.size=l at*;generalize upd H2 l (.lst [])=H3 at*;have hs3:∃s3:Shared,s3={s2 with heap:=s2.heap.push {cls:=.type "list",data:=.seq ([]:List Value).toArray}}:=⟨_,rfl⟩;obtain⟨s3,e3⟩:=hs3;rw [<-e3] at I3;rw [<-e3];have st3:tn 0 s3.heap:=by rw [e3];exact st3
 have lt3:∀b∈fp,b<s3.heap.objs.size:=by rw [e3];exact lt3
 clear e3;refine wpAny_newFunctionEnv hcell (by intro y hy;simp at hy) (λ h4 hns hsb=>?_) hkind;have kp:∀b o,s3.heap.get? b=some o->h4.get? b=some o:=λ b o e=>hsb.extBut b o (Nat.ne_of_lt (Heap.lt_size e)) (Heap.get?_push_of_some _ e)
 have I4:=j9 (N:=N) (t':=s3.toks+([]:List (Str×Value)).length) I3 hkind hfree hcell f3 lt3 hns kp;have st4:tn 0 h4:=T.keep _ _ _ st3 λ b hb o e=>kp b o e
 have stat:∀{H':Hp},(∀b∈fp,H' b=none)->∀b∈fp,FpOk (a7 X N scope fp s3 H3) [] H' b:=λ hn b hb=>
  ⟨hn b hb,(I4.ok.exf b hb).1,I4.ok.exfs b hb,.inl hb,λ x c e=>(bu e).elim,λ p hp=>absurd (show p∈([]:List (Addr×Obj)) from hp) (by simp)⟩
 have loop:codeAny (model X.prog X.w) X.A (.compLoop (.ListComp elt [⟨target,iter,[cnd],0⟩] scope pos) 0 (.ref it) (.ref l) (compEnv scope s3.heap.objs.size X.env)) (RR (.ref l) (compEnv scope s3.heap.objs.size X.env))
   {s3 with heap:=h4,toks:=s3.toks+([]:List (Str×Value)).length}:=by
  refine lX (λ n s'=>∃i ys σ' H',Inv (a7 X N scope fp s3 H3) [] σ' H' s'/\tn i s'.heap/\(∀b∈fp,H' b=none)/\W i n ys σ' H') ?_ m0 ⟨0,[],_,_,I4,st4,λ b hb=>(f3 b hb).1,w0⟩;rintro n s5 ⟨i,ys,σ5,H5,I5,st5,fr5,w5⟩;rcases turn i n ys σ5 H5 w5 with⟨stop,q⟩|⟨go,step⟩
  ·refine thn (T.done (a7 X N scope fp s3 H3) rfl rfl rfl hc i [] s5 σ5 H5 _ I5 (stat fr5) st5 stop) λ r s6 ⟨hr,I6⟩=>?_
   subst hr;exact hR _ _ _ _ (iD I3 f3 I6) (I3.fpOk (Nat.le_refl _) I6.free) (let⟨m,hn,_⟩:=I6.loc;⟨m,hn⟩) q
  ·refine thn (T.item (a7 X N scope fp s3 H3) rfl rfl rfl hc i [] s5 σ5 H5 _ I5 (stat fr5) st5 go) λ r s6 ⟨u,hr,h6⟩=>?_
   subst hr;refine thn h6 λ _ s7 ⟨x,H7,I7,r7,y7,st7,fr7⟩=>?_
   have I7':=I7.pinned (stat fr7) (T.obj _ _ st7);refine wpAny_mono (hg fp s3 H3 _ s7 σ5 H7 x u _ I7' r7 (step x H7 y7)) (λ _ s8 ⟨σ8,H8,I8,q8⟩=>?_) (λ _ _ z=>False.elim z);refine wpAny_mono (ht fp s3 H3 _ s8 σ8 H8 _ I8 q8) (λ bb s85 ⟨H85,I85,q85⟩=>?_) (λ _ _ z=>False.elim z);cases bb with
   |false=>
    rw [if_neg Bool.false_ne_true] at q85 ⊢;obtain⟨m',hm',w9⟩:=q85;refine⟨m',hm',i+1,ys,σ8,H85,I85.unpinned,T.keep _ _ _ st7 λ b hb o e=>(I85.pin (b,o) (List.mem_append_right _ (List.mem_append_right _ (aX hb e)))).1,λ b hb=>?_,w9⟩;obtain⟨o,e,d⟩:=T.obj _ _ st7 b hb;exact(I85.pin (b,o) (List.mem_append_right _ (List.mem_append_right _ (aX hb e)))).2.1
   |true=>
   rw [if_pos rfl] at q85 ⊢;refine wpAny_mono (he fp s3 H3 _ s85 σ8 H85 _ I85 q85) (λ v s9 ⟨y,H9,I9,r9,hl9,hz9,m',hm',w9⟩=>?_) (λ _ _ z=>False.elim z);refine wpAny_mono (aO (X:=a7 X N scope fp s3 H3) _ s9 σ8 H9 (.ref l) [y] (.ref l) [v] (λ z Hz=>Hz=upd H9 l (.lst (ys++[y]))) I9 rfl (.cons r9 .nil) ⟨l,ys,y,rfl,rfl,hl9,hz9,rfl⟩)
    (λ _ s10 ⟨z,Hz,I10,_,eH⟩=>?_) (λ _ _ z=>False.elim z)
   subst eH;refine⟨m',hm',i+1,ys++[y],σ8,_,I10.unpinned,T.keep _ _ _ st7 λ b hb o e=>(I10.pin (b,o) (List.mem_append_right _ (List.mem_append_right _ (aX hb e)))).1,λ b hb=>?_,w9⟩;obtain⟨o,e,d⟩:=T.obj _ _ st7 b hb;exact(I10.pin (b,o) (List.mem_append_right _ (List.mem_append_right _ (aX hb e)))).2.1
 exact codeAny_compStart_list loop (T.self X.A 0 _ _ _ st4 loop)
end
theorem kQ {K:PySem.W.Frag}{a l:Addr}{xs:List V}{n:Nat}{g:TG}{tt:TT}{te:TE}{R:Hp->Prop}{H1:Hp}(Pv:Nat->List V->Hp->Prop)(h0:Pv 0 [] (upd H1 l (.lst [])))(hl:∀i ys H,i≤xs.length->Pv i ys H->SqL K H a xs)
  (hs:∀i x ys σ H,xs[i]?=some x->Pv i ys H->σ.length=n->g x σ H λ σ3 H3=>tt σ3 H3 λ c H5=>if c=true then te σ3 H5 λ y H4=>H4 l=some (.lst ys)/\ys.length<sizeLine/\σ3.length=n/\Pv (i+1) (ys++[y]) (upd H4 l (.lst (ys++[y]))) else σ3.length=n/\Pv (i+1) ys H5)
  (hd:∀ys H,Pv xs.length ys H->R H) (mg:∀x σ H (A B:St->Hp->Prop),(∀σ' H',A σ' H'->B σ' H')->g x σ H A->g x σ H B) (mtt:∀σ H (A B:Bool->Hp->Prop),(∀v H',A v H'->B v H')->tt σ H A->tt σ H B) (mt:∀σ H (A B:VK),(∀v H',A v H'->B v H')->te σ H A->te σ H B):
  ∃W:Nat->Nat->List V->St->Hp->Prop,(∃m,W 0 m [] (List.replicate n none) (upd H1 l (.lst [])))/\∀i m ys σ' H',W i m ys σ' H'->
   ((Itl K a).stop i H'/\R H')\/((Itl K a).go i H'/\∀x H2,(Itl K a).yld i H' x H2->g x σ' H2 λ σ3 H3=>tt σ3 H3 λ c H5=>if c=true then te σ3 H5 λ y H4=>
    H4 l=some (.lst ys)/\ys.length<sizeLine/\∃m',m'<m/\W (i+1) m' (ys++[y]) σ3 (upd H4 l (.lst (ys++[y]))) else∃m',m'<m/\W (i+1) m' ys σ3 H5):=by
 refine⟨λ i m ys σ H=>m=xs.length-i/\i≤xs.length/\σ.length=n/\Pv i ys H,⟨xs.length,by simp,Nat.zero_le _,List.length_replicate,h0⟩,?_⟩;rintro i m ys σ H ⟨rfl,hi,hn,p⟩;have q:=hl i ys H hi p;by_cases hlt:i<xs.length
 ·refine .inr ⟨⟨xs,xs[i],q,by simp [hlt]⟩,λ x H' y=>?_⟩;obtain⟨e,y⟩:=y;subst e;refine mg _ _ _ _ _ (λ σ3 H3 z=>mtt _ _ _ _ (λ c H5 z=>?_) z) (hs i x ys σ _ (y xs q) p hn);cases c with
  |true=>
   rw [if_pos rfl] at z ⊢;exact mt _ _ _ _ (λ y H4 ⟨z1,z2,z3,z4⟩=>⟨z1,z2,xs.length-(i+1),by lia,rfl,hlt,z3,z4⟩) z
  |false=>
   rw [if_neg Bool.false_ne_true] at z ⊢;exact⟨xs.length-(i+1),by lia,rfl,hlt,z.1,z.2⟩
 ·have e:i=xs.length:=by lia
  subst e;exact .inl ⟨⟨xs,q,Nat.le_refl _⟩,hd ys H p⟩
end L2
set_option maxHeartbeats 4000000
namespace L2
open PySem
theorem vP {CX:CXT}{P:Program}{w:World}{K:PySem.W.Frag}{mg:Str->Option Value}{base:Heap}{f:Addr}{name qual:Str}{params:Arguments}{body:List Stmt}{scope:Scope}{dV kV doc pm cdv ct oc:Value}{an od:Option Addr}
  {osl:Array (Option Value)} {N ps:List Str} {sp:Sp} (lk:K.lookup f=some ⟨oc,od,.func (PySem.W.fnOf name qual params body scope dV kV doc pm an cdv ct),osl⟩) (hcd:PySem.W.codeIn K cdv qual=true) (S:FnScope N ps scope)
  (len:∀vs H Q E,sp vs H Q E->vs.length=ps.length)
  (hbody:∀(A:Around) (outer:List Env) (s:Shared) (H:Hp) (vs:List V) (Q:VK) (E:XK),sp vs H Q E->
   ∃t,PSs (cxOf CX P w K mg base N qual scope f cdv A outer s H E) body t/\t {nx:=λ _ H'=>Q .non H',rt:=Q} (start N vs) H):
  FnOk P w K mg base CX 0 f (PySem.W.fnOf name qual params body scope dV kV doc pm an cdv ct) ps sp:=by
 refine⟨len,λ A outer s H args us vs Q E hr e0 hb r hsp=>?_⟩;have hl:=len _ _ _ _ hsp;have KX:K.In s.heap:=e0.mod.kin.keeps λ b o e=>(e0.bs b o e).1
 have lim:s.heap.NoLimit:=e0.mod.nolimit.keeps λ b o e=>(e0.bs b o e).1
 have hkind:∀y∈ps.zip us,scope.names.lookup y.1=some .local\/(scope.names.lookup y.1=some .cell/\((cellsFrom (s.heap.objs.size+1) scope.names []).lookup y.1).isSome=true):=λ⟨n,v⟩ hy=>by
  rcases S.par n (List.of_mem_zip hy).1 with q|q
  ·exact .inl q
  ·exact .inr ⟨q,PySem.W.cellsFrom_some _ _ _ (.inl q)⟩
 refine codeAny_call_function hr.depth (KX _ _ lk) rfl S.co S.gen rfl (PySem.W.codeRec_of KX hcd) (hb _ _ _ _ ?_);refine wpAny_newFunctionEnv_cells S.kind hkind λ env he s1 x=>?_
 subst he;refine⟨lim.keeps x.toInCall.keep,codeAny_func ?_⟩;obtain⟨t,ht,hq⟩:=hbody A outer s H vs Q E hsp;have I:Inv (cxOf CX P w K mg base N qual scope f cdv A outer s H E) [] (start N vs) H s1:=iI S e0 hl r x;refine wpAny_mono (ht [] s1 (start N vs) H _ I hq) (λ fl s' hs=>?_) λ e s' hs=>hs
 have fin:∀{σ':St} {H':Hp} {v:V} {u:Value},Inv (cxOf CX P w K mg base N qual scope f cdv A outer s H E) [] σ' H' s'->RelV v u->Q v H'->CE outer P w H s Q u s':=
  λ {σ' H' v u} J rv q=>⟨v,H',J.os,J.bare,J.base,J.hok,rv,q⟩
 cases fl with
 |ret u=>
  obtain⟨v,σ',H',J,rv,q⟩:=hs;exact fin J rv q
 |next=>
  obtain⟨σ',H',J,q⟩:=hs;exact fin (v:=V.non) (u:=Value.none) J rfl q
 |brk=>
  obtain⟨_,_,_,q⟩:=hs;exact False.elim q
 |cont=>
  obtain⟨_,_,_,q⟩:=hs;exact False.elim q
theorem Fun.ok0 {P:Program}{w:World}{K:PySem.W.Frag}{mg:Str->Option Value}{base:Heap}{x qual:Str}{st:Stmt}{f:Addr}{fd:FuncData}{N ps:List Str}{sp:Sp}(F:Fun K x qual st f fd)(S:FnScope N ps (defScope st))(len:∀vs H Q E,sp vs H Q E->vs.length=ps.length)
  (hbody:∀(cdv:Value) (A:Around) (outer:List Env) (s:Shared) (H:Hp) (vs:List V) (Q:VK) (E:XK),sp vs H Q E->
   ∃t,PSs (cxOf CX0 P w K mg base N qual (defScope st) f cdv A outer s H E).nox (defBody st) t/\t {nx:=λ _ H'=>Q .non H',rt:=Q} (start N vs) H):FnOk P w K mg base CX0 0 f fd ps sp:=by
 obtain⟨oc,od,kV,doc,pm,an,cdv,ct,osl,rfl,lk,hcd⟩:=F.ex;refine vP lk hcd S len λ A outer s H vs Q E hsp=>?_
 obtain⟨t,h,q⟩:=hbody cdv A outer s H vs Q E hsp;exact⟨t,h.nox,q⟩
end L2
set_option maxHeartbeats 4000000
namespace L2
open PySem PySem.Spec PyProof.Rows QQ
theorem seq_g {t u:TS}{D:Ends}{σ:St}{H:Hp}(h:∀R:St->Hp->Prop,(∀σ H,u D σ H->R σ H)->t {D with nx:=R} σ H):wz t u D σ H:=h (u D) λ _ _ z=>z
def xH (K:PySem.W.Frag):R2:=λ x y H Q=>∃(p q:Addr) (ns ms:List Int),x=.ref p/\y=.ref q/\SqL K H p (ns.map V.int)/\SqL K H q (ms.map V.int)/\Q (.bl (!decide (ns=ms))) H
theorem p9 {X:Cx}(hu:X.A.units+64<cLine):OpR X (compareOp .NotEq) (xH X.K):=by
 intro pins s σ H x y v u Q I rx ry h;obtain⟨p,q,ns,ms,rfl,rfl,h1,h2,k⟩:=h;cases rx;cases ry;obtain⟨its,rv,pl,hz⟩:=I.list h1;obtain⟨its2,rv2,pl2,hz2⟩:=I.list h2;exact PySem.W.ne_intsK pl.isList (cb rv) pl2.isList (cb rv2) hu ⟨.bl _,H,I,rfl,k⟩
theorem rJ (xs:List V)(k:Nat):cutV xs none (some ((k:Nat):Int))=xs.take k:=by
 unfold cutV;rw [HT.sIx_none,HT.sIx_nat,List.drop_zero,Nat.sub_zero];by_cases h:k≤xs.length
 ·rw [Nat.min_eq_left h]
 ·rw [Nat.min_eq_right (by lia),List.take_length,List.take_of_length_le (by lia)]
theorem kI (xs:List V)(k:Nat):cutV xs (some ((k:Nat):Int)) none=xs.drop k:=by
 unfold cutV;rw [HT.sIx_none,HT.sIx_nat];by_cases h:k≤xs.length
 ·rw [Nat.min_eq_left h,<-List.length_drop,List.take_length]
 ·rw [Nat.min_eq_right (by lia),List.drop_length,List.drop_of_length_le (by lia),List.take_nil]
theorem l7 {a x:Str}{b c:Addr}(h:List.lookup x [(a,b)]=some c):x=a/\c=b:=by
 rw [List.lookup_cons] at h;cases hx:x==a with
 |true=>rw [hx] at h;exact⟨eq_of_beq hx,(Option.some.inj h).symm⟩
 |false=>rw [hx] at h;cases h
theorem none_of {H H':Hp}(s:Same H H'){q:Addr}(h:H' q=none):H q=none:=by
 cases e:H q with
 |none=>rfl
 |some o=>rw [s _ _ e] at h;cases h
theorem ak {H:Hp}{p:Addr}{o:HO}(h:H p=none):Same H (upd H p o):=λ b u e=>by
 rw [upd_ne (af e h)];exact e
section
variable {X : Cx} {N : List Str} {scope : Scope} {elt cnd target iter : Expr} {pos : Pos} {wi : TI} {g : TG} {tt : TT} {te : TE}
theorem gI (hc:X.calm=true)(hkind:scope.kind=.function)(hfree:∀x∈scope.names,x.2≠ .free)(hcell:∀x∈scope.names,x.2≠ .cell)(hnames:∀x∈scope.names,x.2=.local->scope.names.lookup x.1=some .local)
  (hi:PI X target iter wi) (hg:∀fp s H,PG (a7 X N scope fp s H) target g) (ht:∀fp s H,PT (a7 X N scope fp s H) cnd tt) (he:∀fp s H,PE (a7 X N scope fp s H) elt te)
  (hs:∀x,foldedSetIterable iter X.env x=pure x:=by intro _;rfl):PE X (.ListComp elt [⟨target,iter,[cnd],0⟩] scope pos) (pP N.length wi g tt te):=by
 intro pins s σ H Q I h;refine wpAny_ListComp hfree hkind hnames (compI_core (RR:=λ acc cenv r s'=>∃m,s'.heap.Ns cenv.locals m/\∀h',Heap.SameBut cenv.locals s'.heap h'->
  match r with
  | .ok _=>EP X pins σ Q acc {s' with heap:=h'}
  | .error x=>wpAny (model X.prog X.w) X.A (passOn "comprehension.variables-let-go" x cenv) (EP X pins σ Q) X.xe {s' with heap:=h'}) hc hkind hfree hcell hi hg ht he I h ?_) hs
 rintro l C H' s' I' fC ⟨m,hn⟩ q;exact⟨m,hn,λ h' sb=>⟨.ref l,H',I'.turned (t':=s'.toks) (λ b o hb e=>(sb.2 b hb).trans e) fC.1 fC.2.1 fC.2.2.2.1 fC.2.2.2.2.1 fC.2.2.2.2.2,rfl,q⟩⟩
end
section
variable {X : Cx}
theorem rO:∀x:V,flatV x=true->eqV x x=true:=by
 intro x h;cases x<;>simp [flatV,eqV] at h ⊢
theorem ji {body:List Stmt}{h₀:ExceptHandler}{hs:List ExceptHandler}{tb:TS}{pos:Pos}(hb:PSs X.nox body tb):PS X (.Try body (h₀::hs) [] [] pos) tb:=by
 intro pins s σ H D I h;refine wpAny_Try_except (wpAny_mono (hb pins s σ H D (I.wish _) h) (λ f s1 q=>?_) λ e s1 q=>q.elim);have q':SP X pins D f s1:=SP.unwish q;cases f with
 |next=>exact wpAny_execs_nil q'
 |brk=>exact q'
 |cont=>exact q'
 |ret u=>exact q'
end
end L2
set_option maxHeartbeats 4000000
namespace QQ
open PySem PyProof.Rows
section
variable {prog : Program} {w : World} {A : Around} {E : Value -> Shared -> Prop} {s : Shared}
theorem jj {it l:Addr}{i:Nat}{items}{Q:Value->Shared->Prop}(hq:Hq A s.heap)
  (hit:s.heap.IsListIter it l i) (hl:s.heap.IsList l items) (hx:items[i]?=none)
  (hE:∀h' e,Heap.ExtBut it s.heap h'->(∃o,h'.get? e=some o/\o.cls=.type "StopIteration")->E (.ref e) {s with heap:=h'}):
  wpAny (model prog w) A (Builtin.SmallTypes.nextOf (.ref it)) Q E s:=by
 obtain⟨o,ho,hc,hd⟩:=id hit;obtain⟨ol,hol,_,nl,hdl⟩:=hl;have hn:=gR hq ho hd (by simp);unfold Builtin.SmallTypes.nextOf;refine wpAny_bind (wpAny_callSpecial?_slot (name:=Str.ofString "__next__") hit.typeIs slot_listiter_next (wpAny_call_entry slot_listiter_next hit.typeIs entry_listiter_next ?_ (args_listiter_next _)));show wpAny _ _ (field (.ref it) 0>>= _) _ _ s;refine wpAny_bind (wpAny_field ho hd (x:=.ref l) rfl ?_);show wpAny _ _ (if(Value.ref l==Value.none)=true then _ else _) _ _ s;rw [if_neg (show¬((Value.ref l==Value.none)=true) from Bool.false_ne_true)];show wpAny _ _ (field (.ref it) 1>>= _) _ _ s;refine wpAny_bind (wpAny_field ho hd (x:=.int i 0) rfl ?_);show wpAny _ _ (seqItems? (.ref l)>>= _) _ _ s;refine wpAny_bind (wpAny_seqItems hol hdl ?_);simp only [Int.toNat_natCast,hx];refine wpAny_bind (wpAny_rule (wpAny_bind (wpAny_setField ho hd (by simp) ?_)));have sb1:=Heap.SameBut.update (h:=s.heap) it (Obj.mapFields (·.setIfInBounds 0 Value.none));refine ck (A:=A.in1) (hq.keep λ a ea o' e=>sb1.extBut a o' (λ z=>hn (by rw [ea,z])) e) λ h' e k he=>?_
 exact hE _ e (λ b ob hb e1=>k b ob (sb1.extBut b ob hb e1)) he
end
end QQ
namespace L2
open PySem PySem.Spec PyProof.Rows QQ
theorem qA {X:Cx}{pins:List (Addr×Obj)}{σ:St}{H:Hp}{s:Shared}(I:Inv X pins σ H s){a b:Addr}{ns:List Int}(ha:SqL X.K H a (ns.map V.int))(hb:SqL X.K H b (ns.map V.int)){A:Around}(hu:A.units<cLine):SeqAt.EqAt A s (.ref a) (.ref b) true:=by
 by_cases e:a=b
 ·subst e;exact .same _
 ·obtain⟨its,rv,pl,hz⟩:=I.list ha;obtain⟨its2,rv2,pl2,hz2⟩:=I.list hb;have l1:=rv.length;have l2:=rv2.length;rw [List.length_map] at l1 l2;refine .of_refs e ?_;have R:=SeqAt.RcAt.lists (A:=A) (e:=λ _=>true) pl.isList pl2.isList (by rw [List.size_toArray,List.size_toArray];lia) hu (λ j h1 h2=>?_)
  ·have e2:(List.range its.toArray.size).all (λ _=>true)=true:=by simp
   rw [e2] at R;exact R
  ·have j1:j<ns.length:=by simp at h1;lia
   obtain⟨u1,e1,r1⟩:=rv.get (i:=j) (x:=.int ns[j]) (by simp [j1]);obtain⟨u2,e2,r2⟩:=rv2.get (i:=j) (x:=.int ns[j]) (by simp [j1]);have g1:its.toArray[j]=u1:=by
    obtain⟨_,z⟩:=List.getElem?_eq_some_iff.mp e1;simpa using z
   have g2:its2.toArray[j]=u2:=by
    obtain⟨_,z⟩:=List.getElem?_eq_some_iff.mp e2;simpa using z
   have hh:eqV (V.int ns[j]) (V.int ns[j])=true:=rO _ rfl;rw [g1,g2,<-hh];exact pJ r1 r2 rfl rfl
section
variable {X : Cx} {N : List Str} {scope : Scope} {cl : List (Str × Addr)} {js : List (Option Nat)} {elt cnd target iter : Expr} {pos : Pos} {wi : TI} {g : TG} {tt : TT} {te : TE}
end
end L2
namespace QQ
open PySem PyProof.Rows
section
variable {prog : Program} {w : World} {A : Around} {E : Value -> Shared -> Prop} {s : Shared}
theorem ascii_end_q {it:Addr}{x:Str}{t:Tok}{i:Nat}{Q:Option Value->Shared->Prop}(hq:Hq A s.heap)
  (hit:s.heap.IsStrIter it "str_ascii_iterator" x t i) (hx:x.cps[i]?=none)
  (hQ:∀h',Heap.ExtBut it s.heap h'->Q none {s with heap:=h'}):wpAny (model prog w) A (pyNext (.ref it)) Q E s:=by
 obtain⟨o,ho,hc,hd⟩:=id hit;have hn:=gR hq ho hd (by simp);unfold pyNext;refine wpAny_bind (wpAny_attempt (wpAny_callSpecial?_slot (name:=Str.ofString "__next__") hit.typeIs F.slot_str_ascii_iterator_next
  (wpAny_call_entry F.slot_str_ascii_iterator_next hit.typeIs F.entry_str_ascii_iterator_next ?_ (F.args_str_ascii_iterator_next_1 _))))
 show wpAny _ _ (field (.ref it) 0>>= _) _ _ s;refine wpAny_bind (wpAny_field ho hd (x:=.str x t) rfl ?_);show wpAny _ _ (field (.ref it) 1>>= _) _ _ s;refine wpAny_bind (wpAny_field ho hd (x:=.int i 0) rfl ?_);simp only [Int.toNat_natCast,hx];refine wpAny_bind (wpAny_rule (wpAny_bind (wpAny_setField ho hd (by simp) (wpAny_bind (wpAny_letGo ?_)))));have sb1:=Heap.SameBut.update (h:=s.heap) it (Obj.mapFields (·.setIfInBounds 0 Value.none));refine ck (A:=A.in1) (hq.keep λ a ea o' e=>sb1.extBut a o' (λ z=>hn (by rw [ea,z])) e) λ h' e k ⟨o',ge,ce⟩=>?_
 refine wpAny_bind (wpAny_isInstance (T:="StopIteration") (b:=true) ⟨_,ge,ce⟩ isSubtype_stop ?_);exact wpAny_pure (hQ _ λ b ob hb e1=>k b ob (sb1.extBut b ob hb e1))
theorem wide_end_q {it:Addr}{x:Str}{t:Tok}{i:Nat}{Q:Option Value->Shared->Prop}(hq:Hq A s.heap)
  (hit:s.heap.IsStrIter it "str_iterator" x t i) (hx:x.cps[i]?=none)
  (hQ:∀h',Heap.ExtBut it s.heap h'->Q none {s with heap:=h'}):wpAny (model prog w) A (pyNext (.ref it)) Q E s:=by
 obtain⟨o,ho,hc,hd⟩:=id hit;have hn:=gR hq ho hd (by simp);unfold pyNext;refine wpAny_bind (wpAny_attempt (wpAny_callSpecial?_slot (name:=Str.ofString "__next__") hit.typeIs F.slot_str_iterator_next
  (wpAny_call_entry F.slot_str_iterator_next hit.typeIs F.entry_str_iterator_next ?_ (F.args_str_iterator_next_1 _))))
 show wpAny _ _ (field (.ref it) 0>>= _) _ _ s;refine wpAny_bind (wpAny_field ho hd (x:=.str x t) rfl ?_);show wpAny _ _ (field (.ref it) 1>>= _) _ _ s;refine wpAny_bind (wpAny_field ho hd (x:=.int i 0) rfl ?_);simp only [Int.toNat_natCast,hx];refine wpAny_bind (wpAny_rule (wpAny_bind (wpAny_setField ho hd (by simp) (wpAny_bind (wpAny_letGo ?_)))));have sb1:=Heap.SameBut.update (h:=s.heap) it (Obj.mapFields (·.setIfInBounds 0 Value.none));refine ck (A:=A.in1) (hq.keep λ a ea o' e=>sb1.extBut a o' (λ z=>hn (by rw [ea,z])) e) λ h' e k ⟨o',ge,ce⟩=>?_
 refine wpAny_bind (wpAny_isInstance (T:="StopIteration") (b:=true) ⟨_,ge,ce⟩ isSubtype_stop ?_);exact wpAny_pure (hQ _ λ b ob hb e1=>k b ob (sb1.extBut b ob hb e1))
end
end QQ
namespace L2
open PySem PySem.Spec PyProof.Rows
def Its (x:Str):It:=⟨λ i _=>i<x.cps.size,λ i H y H'=>H'=H/\∃c,x.cps[i]?=some c/\y=.str ⟨#[c]⟩,λ i _=>x.cps.size≤i⟩
theorem lE {P:Program}{w:World}{K:PySem.W.Frag}{tg:Expr}(it:Addr)(x:Str)(t:Tok):Turn P w K tg (Its x) [it] it (λ i h=>h.IsStrIter it "str_ascii_iterator" x t i) where
 mem:=by simp
 obj:=λ i h st b hb=>by
  have e:b=it:=by simpa using hb
  subst e;obtain⟨o,e,c,d⟩:=st;exact⟨o,e,λ v z=>by rw [d] at z;cases z⟩
 keep:=λ i h h' st k=>let⟨o,ho,r⟩:=st;⟨o,k it (by simp) o ho,r⟩
 item:=by
  intro X hP hw hK hc i pins s σ H E I hf st hg;subst hP hw hK;have hg':i<x.cps.size:=hg;obtain⟨f0,f1,f2,f3,f4,f5⟩:=hf it (by simp);refine wpAny_pyNext_ascii_item st (c:=x.cps[i]) (by simp [hg']) λ h' st' sb=>?_
  have I1:Inv X pins σ H {s with heap:=h',toks:=s.toks+1}:=I.turned (λ b o hb e=>sb.extBut b o hb e) f0 f1 f3 f4 f5;obtain⟨o,e,c,d⟩:=id st';exact⟨_,rfl,kO (s:={s with heap:=h',toks:=s.toks+1}) e c d (by decide) ⟨.str ⟨#[x.cps[i]]⟩,H,I1,⟨s.toks,rfl⟩,⟨rfl,_,by simp [hg'],rfl⟩,st',λ b hb=>(hf b hb).1⟩⟩
 done:=by
  intro X hP hw hK hc i pins s σ H E I hf st hg;subst hP hw hK;have hg':x.cps.size≤i:=hg;obtain⟨f0,f1,f2,f3,f4,f5⟩:=hf it (by simp);exact QQ.ascii_end_q I.hq st (by simp [hg']) λ h' eb=>⟨rfl,I.turned (t':=s.toks) (λ b o hb e=>eb b o hb e) f0 f1 f3 f4 f5⟩
 self:=λ _ _ _ _ _ st h=>wpAny_pyIter_striter_ascii st h
theorem px {P:Program}{w:World}{K:PySem.W.Frag}{tg:Expr}(it:Addr)(x:Str)(t:Tok):Turn P w K tg (Its x) [it] it (λ i h=>h.IsStrIter it "str_iterator" x t i) where
 mem:=by simp
 obj:=λ i h st b hb=>by
  have e:b=it:=by simpa using hb
  subst e;obtain⟨o,e,c,d⟩:=st;exact⟨o,e,λ v z=>by rw [d] at z;cases z⟩
 keep:=λ i h h' st k=>let⟨o,ho,r⟩:=st;⟨o,k it (by simp) o ho,r⟩
 item:=by
  intro X hP hw hK hc i pins s σ H E I hf st hg;subst hP hw hK;have hg':i<x.cps.size:=hg;obtain⟨f0,f1,f2,f3,f4,f5⟩:=hf it (by simp);refine wpAny_pyNext_wide_item st (c:=x.cps[i]) (by simp [hg']) λ h' st' sb=>?_
  have I1:Inv X pins σ H {s with heap:=h',toks:=s.toks+1}:=I.turned (λ b o hb e=>sb.extBut b o hb e) f0 f1 f3 f4 f5;obtain⟨o,e,c,d⟩:=id st';exact⟨_,rfl,kO (s:={s with heap:=h',toks:=s.toks+1}) e c d (by decide) ⟨.str ⟨#[x.cps[i]]⟩,H,I1,⟨s.toks,rfl⟩,⟨rfl,_,by simp [hg'],rfl⟩,st',λ b hb=>(hf b hb).1⟩⟩
 done:=by
  intro X hP hw hK hc i pins s σ H E I hf st hg;subst hP hw hK;have hg':x.cps.size≤i:=hg;obtain⟨f0,f1,f2,f3,f4,f5⟩:=hf it (by simp);exact QQ.wide_end_q I.hq st (by simp [hg']) λ h' eb=>⟨rfl,I.turned (t':=s.toks) (λ b o hb e=>eb b o hb e) f0 f1 f3 f4 f5⟩
 self:=λ _ _ _ _ _ st h=>wpAny_pyIter_striter_wide st h
section
variable {X : Cx} {tg : Expr}
def xr (tl:TE):TI:=λ σ H R=>tl σ H λ x H1=>∃y,x=.str y/\R (Its y) H1
theorem uU {l:Expr}{tl:TE}(hl:PE X l tl):PI X tg l (xr tl):=by
 intro pins s σ H R I h;refine thn (hl pins s σ H _ I h) λ v s1 ⟨x,H1,I1,r1,q1⟩=>?_
 obtain⟨y,e,q⟩:=q1;subst e;obtain⟨t,rfl⟩:=r1;cases ha:y.cps.all (·<128)
 ·refine wpAny_pyIter_wide ha ?_;refine⟨s1.heap.objs.size,[s1.heap.objs.size],_,_,H1,rfl,I1.kept (t':=s1.toks) λ b o e=>Heap.get?_push_of_some _ e,px _ y t,⟨_,Heap.get?_push_size _ rfl,rfl,rfl⟩,λ b hb=>?_,q⟩;have e:b=s1.heap.objs.size:=by simpa using hb
  subst e;exact I1.fpOk (Nat.le_refl _) (I1.hok.fresh (Nat.le_refl _))
 ·refine wpAny_pyIter_ascii ha ?_;refine⟨s1.heap.objs.size,[s1.heap.objs.size],_,_,H1,rfl,I1.kept (t':=s1.toks) λ b o e=>Heap.get?_push_of_some _ e,lE _ y t,⟨_,Heap.get?_push_size _ rfl,rfl,rfl⟩,λ b hb=>?_,q⟩;have e:b=s1.heap.objs.size:=by simpa using hb
  subst e;exact I1.fpOk (Nat.le_refl _) (I1.hok.fresh (Nat.le_refl _))
theorem sR {y:Str}{g:TG}{tb:TS}{D:Ends}{σ:St}{H:Hp}(Pv:Nat->St->Hp->Prop)(h0:Pv 0 σ H)
  (hs:∀i c σ H,y.cps[i]?=some c->Pv i σ H->g (.str ⟨#[c]⟩) σ H λ σ2 H2=>tb {D with nx:=Pv (i+1),ct:=Pv (i+1),bk:=D.nx} σ2 H2) (hd:∀σ H,Pv y.cps.size σ H->D.nx σ H):
  ∃W:Nat->Nat->St->Hp->Prop,(∃m,W 0 m σ H)/\∀i m σ H,W i m σ H->
   ((Its y).stop i H/\D.nx σ H)\/((Its y).go i H/\∃N:St->Hp->Prop,(∀σ' H',N σ' H'->∃m',m'<m/\W (i+1) m' σ' H')/\∀x H',(Its y).yld i H x H'->g x σ H' λ σ2 H2=>tb {D with nx:=N,ct:=N,bk:=D.nx} σ2 H2):=by
 refine⟨λ i m σ H=>m=y.cps.size-i/\i≤y.cps.size/\Pv i σ H,⟨y.cps.size,by simp,Nat.zero_le _,h0⟩,?_⟩;rintro i m σ H ⟨rfl,hi,p⟩;by_cases hlt:i<y.cps.size
 ·refine .inr ⟨hlt,Pv (i+1),λ σ' H' p'=>⟨y.cps.size-(i+1),by lia,rfl,hlt,p'⟩,λ x H' z=>?_⟩;obtain⟨e,c,hc,rfl⟩:=z;subst e;exact hs i c σ _ hc p
 ·have e:i=y.cps.size:=by lia
  subst e;exact .inl ⟨Nat.le_refl _,hd σ H p⟩
def p5 (lo c:Int)(n:Nat):It:=⟨λ i _=>i<n,λ i H x H'=>H'=H/\x=.int (lo+i*c),λ i _=>n≤i⟩
theorem k8 {P:Program}{w:World}{K:PySem.W.Frag}{tg:Expr}(it:Addr)(lo c:Int)(n:Nat):Turn P w K tg (p5 lo c n) [it] it (λ i h=>IsRangeIter h it (lo+(i:Nat)*c) ((n:Int)-(i:Nat)) c) where
 mem:=by simp
 obj:=λ i h st b hb=>by
  have e:b=it:=by simpa using hb
  subst e;exact⟨_,st,λ v z=>by
   have z':Data.fields _=Data.cell v:=z;cases z'⟩
 keep:=λ i h h' st k=>k it (by simp) _ st
 item:=by
  intro X hP hw hK hc i pins s σ H E I hf st hg;subst hP hw hK;obtain⟨f0,f1,f2,f3,f4,f5⟩:=hf it (by simp);refine wpAny_pyNext_range_item st (by have:i<n:=hg;lia) λ h' st1 sb=>?_
  have st':IsRangeIter h' it (lo+((i+1:Nat):Int)*c) ((n:Int)-((i+1:Nat):Int)) c:=by
   have e1:lo+((i+1:Nat):Int)*c=lo+(i:Int)*c+c:=by rw [show((i+1:Nat):Int)=(i:Int)+1 from rfl,Int.add_mul];lia
   have e2:(n:Int)-((i+1:Nat):Int)=(n:Int)-(i:Int)-1:=by lia
   rw [e1,e2];exact st1
  have I1:Inv X pins σ H {s with heap:=h',toks:=s.toks+1}:=I.turned (λ b o hb e=>sb.extBut b o hb e) f0 f1 f3 f4 f5;exact⟨_,rfl,kO (s:={s with heap:=h',toks:=s.toks+1}) (n:="range_iterator") st' rfl rfl (by decide) ⟨.int (lo+i*c),H,I1,⟨s.toks,rfl⟩,⟨rfl,rfl⟩,st',λ b hb=>(hf b hb).1⟩⟩
 done:=by
  intro X hP hw hK hc i pins s σ H E I hf st hg;subst hP hw hK;obtain⟨f0,f1,f2,f3,f4,f5⟩:=hf it (by simp);exact QQ.range_end_q I.hq st (by have:n≤i:=hg;lia) λ h' eb=>⟨rfl,I.turned (t':=s.toks) (λ b o hb e=>eb b o hb e) f0 f1 f3 f4 f5⟩
 self:=λ _ _ _ _ _ st h=>wpAny_pyIter_rangeiter st h
def ww (ta:TA):TI:=λ σ H R=>ta σ H λ vs H1=>∃(i j c:Int) (n:Nat),vs=[.int i,.int j,.int c]/\c≠0/\Builtin.Range.small i j c=true/\Builtin.Range.rangeSize i j c=(n:Int)/\Builtin.divisionGoesByPylong (j-i) c=false/\R (p5 i c n) H1
theorem iQ {a b c:Expr}{ta:TA}{p pos:Pos}(hg:Gl X "range")(hm:X.mg "range"=none)(ha:PA X [a,b,c] ta)(hs:starEach [a,b,c] X.env=[(false,eval a X.env),(false,eval b X.env),(false,eval c X.env)]:=by rfl)(hs2:starEach [b,c] X.env=[(false,eval b X.env),(false,eval c X.env)]:=by rfl):
  PI X tg (.Call (.Name "range" p) [a,b,c] [] pos) (ww ta):=by
 intro pins s σ H R I h;refine Call_ (ld_blt I hg hm boot_range (PyProof.Rows.callWith_type1 (thn (ha pos pins s σ H _ I h) λ us s1 ⟨vs,H1,I1,r1,q1⟩=>?_) (by rw [hs,hs2]) (by rw [hs2];rfl)));obtain⟨i,j,c,n,e,h0,h1,h2,h3,q⟩:=q1;subst e;cases r1 with
 |cons r rr=>
  cases rr with
  |cons r' rr=>
   cases rr with
   |cons r'' rr=>
    cases rr;obtain⟨t,rfl⟩:=r;obtain⟨t',rfl⟩:=r';obtain⟨t'',rfl⟩:=r'';refine call_range_3 h0 ?_ (.inl h3);refine wpAny_pyIter_range (IsRange.new ..) h1 ?_;have I2:Inv X pins σ H1 {s1 with heap:=s1.heap.push {cls:=.type "range",data:=.fields #[.int i t,.int j t',.int c t'']},toks:=s1.toks}:=I1.kept λ b o e=>Heap.get?_push_of_some _ e
    refine⟨(s1.heap.push {cls:=.type "range",data:=.fields #[.int i t,.int j t',.int c t'']}).objs.size,[(s1.heap.push {cls:=.type "range",data:=.fields #[.int i t,.int j t',.int c t'']}).objs.size],_,_,H1,rfl,
     I2.kept (t':=s1.toks) λ b o e=>Heap.get?_push_of_some _ e,k8 _ i c n,?_,λ b hb=>?_,q⟩
    ·have e1:i+((0:Nat):Int)*c=i:=by simp
     have e2:((n:Nat):Int)-((0:Nat):Int)=Builtin.Range.rangeSize i j c:=by rw [h2];lia
     show IsRangeIter _ _ (i+((0:Nat):Int)*c) (((n:Nat):Int)-((0:Nat):Int)) c;rw [e1,e2];exact Heap.get?_push_size _ rfl
    ·have e:b=(s1.heap.push {cls:=.type "range",data:=.fields #[.int i t,.int j t',.int c t'']}).objs.size:=by simpa using hb
     subst e;exact I2.fpOk (Nat.le_refl _) (I2.hok.fresh (Nat.le_refl _))
theorem gj {lo c:Int}{n:Nat}{g:TG}{tb:TS}{D:Ends}{σ:St}{H:Hp}(Pv:Nat->St->Hp->Prop)(h0:Pv 0 σ H)
  (hs:∀i σ H,i<n->Pv i σ H->g (.int (lo+i*c)) σ H λ σ2 H2=>tb {D with nx:=Pv (i+1),ct:=Pv (i+1),bk:=D.nx} σ2 H2) (hd:∀σ H,Pv n σ H->D.nx σ H):
  ∃W:Nat->Nat->St->Hp->Prop,(∃m,W 0 m σ H)/\∀i m σ H,W i m σ H->
   ((p5 lo c n).stop i H/\D.nx σ H)\/((p5 lo c n).go i H/\∃N:St->Hp->Prop,(∀σ' H',N σ' H'->∃m',m'<m/\W (i+1) m' σ' H')/\∀x H',(p5 lo c n).yld i H x H'->g x σ H' λ σ2 H2=>tb {D with nx:=N,ct:=N,bk:=D.nx} σ2 H2):=by
 refine⟨λ i m σ H=>m=n-i/\i≤n/\Pv i σ H,⟨n,by simp,Nat.zero_le _,h0⟩,?_⟩;rintro i m σ H ⟨rfl,hi,p⟩;by_cases hlt:i<n
 ·refine .inr ⟨hlt,Pv (i+1),λ σ' H' p'=>⟨n-(i+1),by lia,rfl,hlt,p'⟩,λ x H' y=>?_⟩;obtain⟨e,y⟩:=y;subst e y;exact hs i σ _ hlt p
 ·have e:i=n:=by lia
  subst e;exact .inl ⟨Nat.le_refl _,hd σ H p⟩
def sgn (b:Bool):Nat:=if b then 49 else 48
def txt (bs:List Bool):Str:=⟨(bs.map sgn).toArray⟩
theorem cL (bs:List Bool):(txt bs).cps.toList=bs.map sgn:=by simp [txt]
theorem aI (bs:List Bool):(txt bs).length=bs.length:=by simp [txt,Str.length]
theorem qr (bs:List Bool):(txt bs).cps.size=bs.length:=by simp [txt]
theorem oo {x y:Str}(h:x.cps.toList=y.cps.toList):x=y:=by
 cases x;cases y;simp only [Str.mk.injEq];exact Array.toList_inj.mp h
theorem cD (a b:List Bool):txt a++txt b=txt (a++b):=by
 refine oo ?_;show((txt a).cps++(txt b).cps).toList=_;rw [Array.toList_append,cL,cL,cL,List.map_append]
theorem tw {bs:List Bool}{i:Nat}{c:Nat}(h:(txt bs).cps[i]?=some c):∃b,bs[i]?=some b/\(⟨#[c]⟩:Str)=txt [b]:=by
 rw [<-Array.getElem?_toList,cL,List.getElem?_map] at h;cases e:bs[i]? with
 |none=>rw [e] at h;cases h
 |some b=>rw [e] at h;cases h;exact⟨b,rfl,rfl⟩
theorem txt_inj {a b:List Bool}:txt a=txt b<->a=b:=by
 refine⟨λ h=>?_,λ h=>by rw [h]⟩;have h1:a.map sgn=b.map sgn:=by rw [<-cL,<-cL,h]
 refine(List.map_inj_right (f:=sgn) λ x y e=>?_).mp h1;cases x<;>cases y<;>first|rfl|exact absurd e (by decide)
def xL:V->Option Int->Option Int->Hp->VK->Prop:=λ x lo hi H Q=>∃y,x=.str y/\y.length≤sizeLine/\Q (.str (Txt.slice y lo hi)) H
theorem iE {v:Value}{o:Option Int}(p:IsPart v o):∃l:Option (Int×Tok),l.map (·.1)=o/\v=partValue l:=by
 cases p with
 |none=>exact⟨none,rfl,rfl⟩
 |int i t=>exact⟨some (i,t),rfl,rfl⟩
theorem pX:SlR X xL:=by
 intro pins s σ H x v vl vu lo hi sl Q I rx hs pl pu h;obtain⟨y,rfl,hz,q⟩:=h;obtain⟨t,rfl⟩:=rx;obtain⟨l,rfl,rfl⟩:=iE pl;obtain⟨u,rfl,rfl⟩:=iE pu;refine⟨"str",_,F.slot_str_getitem.lookup,typeIs_str _ _ _,?_⟩;refine wpAny_getItem_str_slice (l:=l) (u:=u) (st:=none) hs rfl ?_;exact post_val_or_str ⟨Nat.le_trans (Txt.slice_le y _ _) hz,λ t' k=>⟨.str (Txt.slice y (l.map (·.1)) (u.map (·.1))),H,I.tok _,⟨_,rfl⟩,q⟩⟩
theorem lz {x:Str}{a b:Nat}(hab:a≤b)(hb:b≤x.length):(Txt.slice x (some (a:Int)) (some (b:Int))).cps.toList=(x.cps.toList.drop a).take (b-a):=by
 have h:=StrLaws.sliced_plain x hab hb;unfold Txt.slice
 split
 ·rename_i e
  have e':(Builtin.Str.strSliceIndices (some (a:Int)) (some (b:Int)) 1 x.length).length=x.length:=by simpa using e
  rw [StrLaws.strSliceIndices_plain hab hb] at e';have e2:b-a=x.length:=by simpa using e'
  have ea:a=0:=by lia
  subst ea;have hx:x.cps.toList.length=x.length:=by simp [Str.length]
  rw [List.drop_zero,e2,<-hx,List.take_length]
 ·exact h
theorem ii {bs:List Bool}{a b:Nat}(hab:a≤b)(hb:b≤bs.length):Txt.slice (txt bs) (some (a:Int)) (some (b:Int))=txt ((bs.drop a).take (b-a)):=by
 refine oo ?_;rw [lz hab (by rw [aI];exact hb),cL,cL,List.map_take,List.map_drop]
def wL:R2:=λ x y H Q=>∃z n,x=.str z/\y=.int n/\MulOk z n/\Q (.str (Txt.mul z n)) H
theorem lP:OpR X (binaryOp .Mult) wL:=by
 intro pins s σ H x y v u Q I rx ry h;obtain⟨z,n,rfl,rfl,hok,q⟩:=h;obtain⟨t,rfl⟩:=rx;obtain⟨t',rfl⟩:=ry;exact SB.mul hok λ t' k=>⟨.str (Txt.mul z n),H,I.tok _,⟨_,rfl⟩,q⟩
end
end L2
set_option maxHeartbeats 4000000
namespace L2
open PySem PySem.Spec PyProof.Rows QQ
section
variable {X : Cx} {pos : Pos}
end
section
variable {X : Cx} {e e1 : Expr} {te t1 : TE} {pos p2 : Pos}
end
section
variable {X : Cx} {a b : Expr} {rest : List Expr} {ta tb : TE} {pos : Pos}
end
theorem PE.either {X:Cx}{e:Expr}{t u:TE}(h:PE X e t)(g:PE X e u):PE X e (λ σ H Q=>t σ H Q\/u σ H Q):=by
 intro pins s σ H Q I z;rcases z with z|z
 ·exact h pins s σ H Q I z
 ·exact g pins s σ H Q I z
structure MkB (K:PySem.W.Frag)(C:Addr):Prop where
 makes:PySem.W.makesIn K C=true
 init:PySem.W.findIn K (.ref C) "__init__"=some (some (.builtin "object.__init__"))
 kp:PySem.W.keepIn K (.ref C)=true
def vQ (C:Addr):TE:=λ _ H Q=>∀x dx,H x=none->H dx=none->dx≠x->Q (.ref x) (upd (upd H dx (.own x)) x (.ins C dx []))
theorem rz {X:Cx}{C:Addr}{x:Str}{p pos:Pos}(M:MkB X.K C)(hg:Gl X x)(hm:X.mg x=some (.ref C))(hdb:(x==("__debug__":Str))=false:=by decide):PE X (.Call (.Name x p) [] [] pos) (vQ C):=by
 intro pins s σ H Q I h;refine wpAny_Call_Name_kw (ld_glob I hg hm ?_ hdb);refine PySem.W.callWith_K0 I.kIn M.kp ?_;have I2:=Inv.made (C:=C) I;have hq:=h (s.heap.objs.size+1) s.heap.objs.size (I.hok.fresh (Nat.le_succ _)) (I.hok.fresh (Nat.le_refl _)) (Nat.ne_of_lt (Nat.lt_succ_self _));refine wpAny_call (pq I.kIn M.makes M.init (λ self=>PySem.W.Looks.of_pure (PySem.W.oi_bind self)) ?_);have Y:=PySem.W.makes_of (M:=model X.prog X.w) I.kIn M.makes;have e2:((s.heap.push PySem.W.emptyDict).push (PySem.W.instObj C s.heap.objs.size)).get? (s.heap.objs.size+1)=some (PySem.W.instObj C s.heap.objs.size):=by
  have:=Heap.get?_push_size (s.heap.push PySem.W.emptyDict) (o:=PySem.W.instObj C s.heap.objs.size) rfl
  rwa [Heap.size_push] at this
 have t1:PySem.W.Looks (model X.prog X.w) ((s.heap.push PySem.W.emptyDict).push (PySem.W.instObj C s.heap.objs.size)) (typeOf (.ref (s.heap.objs.size+1))) (.ref C):=(PySem.W.Looks.ld e2).andThen .now;have t2:PySem.W.Looks (model X.prog X.w) ((s.heap.push PySem.W.emptyDict).push (PySem.W.instObj C s.heap.objs.size)) (isInstance (.ref (s.heap.objs.size+1)) (.type "object")) true:=t1.andThen (Y.top.keeps λ b o e=>Heap.get?_push_of_some _ (Heap.get?_push_of_some _ e));refine codeAny_call_builtin PySem.W.oi_plain PySem.W.entry_oi (@PySem.W.check_slot (model X.prog X.w) _ _ _ "object.__init__" "object" "__init__" (.ref (s.heap.objs.size+1)) [] [] _ PySem.W.oi_kind PySem.W.oi_split t2 (PySem.W.oi_args (.ref (s.heap.objs.size+1))) ?_);rw [PySem.W.oi_run];exact wpAny_pure (And.intro rfl ⟨.ref (s.heap.objs.size+1),_,I2,rfl,hq⟩)
section
variable {X : Cx}
theorem ou:CallR X (.builtin "isinstance") (λ xs H Q=>∃(x:V) (D:Addr) (t:Value) (b:Bool),xs=[x,.ref D]/\TyOf X.K H x t/\PySem.W.kitOne X.K t (.ref D)=some b/\Q (.bl b) H):=by
 intro pins s σ H xs us Q I r h;obtain⟨x,D,t,b,rfl,ty,e,q⟩:=h;obtain⟨u,v,rfl,ru,rv⟩:=ni r;cases rv;exact iS I ru ty e λ tk=>⟨.bl b,H,I.tok tk,rfl,q⟩
def vq (K:PySem.W.Frag)(H:Hp)(p q:Addr):Prop:=∃xs ys:List V,SqL K H p xs/\SqL K H q ys/\xs.length=ys.length/\∀(i:Nat) (x y:V),xs[i]?=some x->ys[i]?=some y->(x=.non/\y=.non)\/∃(a b:Addr) (ns:List Int),x=.ref a/\y=.ref b/\SqL K H a (ns.map V.int)/\SqL K H b (ns.map V.int)
end
end L2
set_option maxHeartbeats 2000000
namespace L2
open PySem PyProof.Rows
theorem g7 (a f:Addr):Builtin.«list.sort» ⟨[.ref a],[(Str.ofString "key",.ref f)]⟩=(do
    let items<-Builtin.List.listItems (.ref a)
    Builtin.List.listUpdate (.ref a) λ _=>#[]
    let before<-seqEpoch a
    let held<-newTuple items.toList
    let keyStore<-newList []
    holding [held,keyStore] do
      rule "list.sort.key"
      for x in items do
        match<-(call (.ref f) [x]).attempt with
        | .ok k=>Builtin.List.listUpdate keyStore (·.push k)
        | .error e=>
          rule "list.sort.key-raised"
          let made<-Builtin.List.listItems keyStore
          Builtin.List.listUpdate keyStore λ _=>#[]
          letGo made.toList.reverse [e]
          Builtin.List.listUpdate (.ref a) λ _=>items;throw e
      let keys<-Builtin.List.listItems keyStore
      let kind<-if items.size<2 then pure general' else keyKind' keys
      let((),s)<-(if items.size<2 then pure () else sortRuns').run (SortSt.mk' kind (keys.zip items) #[] 7 none)
      let sorted:=(arrOf s).map (·.2)
      Builtin.List.listUpdate keyStore λ _=>#[]
      letGo ((arrOf s).map (·.1)).toList (failedOf s).toList
      let touched:=(<-seqEpoch a) !=before
      Builtin.List.listUpdate (.ref a) λ _=>sorted
      if let some e:=failedOf s then rule "list.sort.comparison-raised";throw e
      if touched then rule "list.sort.modified";raiseError "ValueError" "list modified during sort"
      ret .none):=by
  first|rfl|(fail "not by rfl")
theorem dS (a v:Value):argsOk "list.sort" ⟨[a],[(Str.ofString "key",v)]⟩:=by unfold argsOk;kernel_rfl
theorem args_sorted_key (a v:Value):argsOk "sorted" ⟨[a],[(Str.ofString "key",v)]⟩:=by unfold argsOk;kernel_rfl
theorem iN:∀{vs:List Value} {ns:List Int} {n:Int} {t:Tok},IntsAre vs ns->IntsAre (vs++[.int n t]) (ns++[n])
 |_,_,n,t,.nil=>.cons n t .nil
 |_,_,_,_,.cons m u h=>.cons m u (iN h)
theorem gS {c:String}{xs:Array Value}{n:Nat}:∀v,(seqObj c xs n).data≠ .cell v:=λ v h=>by cases h
theorem Inv.turn {X:Cx}{pins:List (Addr×Obj)}{σ:St}{H:Hp}{s:Shared}{a:Addr}{g:Obj->Obj}(I:Inv X pins σ H s)(fa:FpOk X pins H a):Inv X pins σ H {s with heap:=s.heap.update a g}:=
 I.turned (t':=s.toks) (λ b o hb e=>by rw [Heap.get?_update_ne _ _ _ _ hb];exact e) fa.1 fa.2.1 fa.2.2.2.1 fa.2.2.2.2.1 fa.2.2.2.2.2
end L2
set_option maxHeartbeats 2000000
namespace L2
open PySem PyProof.Rows QQ
theorem Inv.adopt {X:Cx}{pins:List (Addr×Obj)}{σ:St}{H:Hp}{s:Shared}{a:Addr}{xs:List V}{its:List Value}{n:Nat}(I:Inv X pins σ H s)(fa:FpOk X pins H a)(rv:Vals xs its)(hz:xs.length≤sizeLine)
  (ho:s.heap.get? a=some (seqObj "list" its.toArray n)):Inv X pins σ (upd H a (.lst xs)) s:=by
 have hn:=fa.1;refine I.step (h':=s.heap) (g':=s.gens) (d':=s.drawn) (t':=s.toks) (ch:=[a]) (λ b hb=>?_) (λ b o _ _ _ e _=>e) (λ b o _ _ _ e _=>⟨o.slots,e⟩) (λ b o hb e n=>?_)
  (λ b o _ e=>⟨o,e⟩) (λ b ys e=>?_) (λ b o u e=>?_) (λ b ps e=>⟨#[],?_⟩) (λ m hm=>hm) (λ b u e=>?_) I.bare
 ·rw [List.mem_singleton.mp hb];exact⟨fa.2.2.2.1,fa.2.1,fa.2.2.2.2.1,fa.2.2.2.2.2⟩
 ·rw [upd_ne (λ z=>hb (by simp [z]))];exact n
 ·rw [upd_ne (af e hn)];exact e
 ·rw [upd_ne (af e hn)];exact e
 ·rw [upd_ne (af e hn),e];simp
 ·by_cases hb:b=a
  ·subst hb;rw [upd_same] at e;cases e;exact⟨hz,its,n,rv,ho⟩
  ·rw [upd_ne hb] at e;exact(I.hok b u e).stay (λ c v _ q=>q) (λ c q=>by rw [upd_ne (af q hn)];exact q) λ c xs q=>by rw [upd_ne (af q hn)];exact q
inductive PR:List (Value×Value)->List (Int×V)->Prop
 |nil:PR [] []
 |cons {k v:Value} {n:Int} {x:V} {l:List (Value×Value)} {m:List (Int×V)}:(∃t,k=.int n t)->RelV x v->PR l m->PR ((k,v)::l) ((n,x)::m)
theorem pW:∀{kv its:List Value} {ks:List Int} {xs:List V},IntsAre kv ks->Vals xs its->PR (kv.zip its) (ks.zip xs)
 |_,_,_,_,.nil,_=>by simp;exact .nil
 |_,_,_,_,.cons n t h,.nil=>by simp;exact .nil
 |_,_,_,_,.cons n t h,.cons r rs=>.cons ⟨t,rfl⟩ r (pW h rs)
theorem nI:∀{l:List (Value×Value)} {m:List (Int×V)},PR l m->Vals (m.map (·.2)) (l.map (·.2))
 |_,_,.nil=>.nil
 |_,_,.cons _ r h=>.cons r (nI h)
theorem qD:∀{l:List (Value×Value)} {m:List (Int×V)},PR l m->l.length=m.length
 |_,_,.nil=>rfl
 |_,_,.cons _ r h=>by simp [qD h]
theorem uM:∀{l:List (Value×Value)} {m:List (Int×V)},PR l m->∀{i:Nat} {q:Int×V},m[i]?=some q->∃t v,l[i]?=some (.int q.1 t,v)
 |_,_,.cons ⟨t,e⟩ r h,0,q,hq=>by
  simp at hq;subst hq;subst e;exact⟨t,_,rfl⟩
 |_,_,.cons _ r h,i+1,q,hq=>by simp at hq;simpa using uM h hq
section
variable {X : Cx} {k : Nat} {f : Addr} {fd : FuncData} {x : Str} {sp : Sp} {e : Expr} {te : TE} {fe : Expr} {p kp pos : Pos} {y : Str}
end
section
variable {X : Cx}
theorem pI {ys:Array (Int×Tok)}{ns:List Int}(e1:ns=ys.toList.map (·.1)){i:Nat}(h:i<ns.length):numAt ys i=ns[i]:=by
 subst e1;rw [List.length_map,Array.length_toList] at h;simp [numAt,h]
theorem iJ (hc:X.A.handled=none):CallR X (.builtin "max") (λ xs H Q=>∃(p:Addr) (ns:List Int),xs=[.ref p]/\SqL X.K H p (ns.map V.int)/\0<ns.length/\∀n∈ns,(∀m∈ns,m≤n)->Q (.int n) H):=by
 intro pins s σ H xs us Q I r h;obtain⟨p,ns,rfl,hq,hne,q⟩:=h;obtain⟨u,rfl,rx⟩:=eA r;cases rx;obtain⟨its,rv,pl,hz⟩:=I.list hq;have hi:=cb rv;obtain⟨ys,hx⟩:=hi.allInts.items;have hl:s.heap.IsList p (intItems ys):=hx▸pl.isList;have e1:ns=ys.toList.map (·.1):=by
  rw [<-nums_intItems,<-hx];exact(show numsOf its.toArray.toList=ns from hi.numsOf).symm
 have hsz:ns.length=ys.size:=by rw [e1];simp
 refine max_intList hc hl (by lia) λ v h' tk hv hk=>?_
 obtain⟨t,rfl⟩:=intItems_at hv;obtain⟨h1,h2⟩:=argBest_gt (numAt ys) (ys.size-1);generalize argBest (λ i j=>decide (numAt ys i>numAt ys j)) (ys.size-1)=b at*;have hb:b<ns.length:=by lia
 have eb:=pI e1 hb;refine⟨.int ns[b],H,I.kept (t':=tk) hk,⟨t,by rw [eb]⟩,q _ (List.getElem_mem hb) λ m hm=>?_⟩;obtain⟨j,hj,rfl⟩:=List.getElem_of_mem hm;have:=h2 j (by lia);rw [pI e1 hj,eb] at this;exact this
end
end L2
set_option maxHeartbeats 4000000
namespace L2
open PySem PySem.Spec PyProof.Rows QQ
section
variable {X : Cx}
def vB (K:PySem.W.Frag):V->List V->Hp->VK->Prop:=λ x vs H Q=>∃(l:Addr) (ns:List Int) (k:Int) (j:Nat),x=.ref l/\vs=[.int k]/\H l=some (.lst (ns.map V.int))/\ns[j]?=some k/\(∀i<j,ns[i]?≠some k)/\Q (.int ((j:Nat):Int)) H
theorem rC:MtR X "list.index" (vB X.K):=by
 intro pins s σ H x vs v us Q I rx rv h;obtain⟨l,ns,k,j,rfl,rfl,hH,hj,hno,q⟩:=h;cases rx;obtain⟨u,rfl,ru⟩:=eA rv;obtain⟨t,rfl⟩:=ru;obtain⟨z,its,n,r,hl,e⟩:=I.lstM hH;rw [List.length_map] at hl z;have hjl:j<ns.length:=(List.getElem?_eq_some_iff.mp hj).1;have hjs:((j:Nat):Int)<2^63-1:=by
  have hsl:sizeLine≤16777216:=by decide
  lia
 have key:∀i (hi:i<its.length),∃t',its[i]=.int (ns[i]'(by lia)) t':=λ i hi=>by
  have k1:i<ns.length:=by lia
  obtain⟨u1,e1,r1⟩:=r.get (i:=i) (x:=.int ns[i]) (by simp [k1]);obtain⟨t',rfl⟩:=r1;obtain⟨_,z⟩:=List.getElem?_eq_some_iff.mp e1;exact⟨t',z⟩
 have hf:(ns.map V.int).all flatV=true:=by simp [flatV]
 have ejv:ns[j]=k:=by rw [List.getElem?_eq_getElem hjl] at hj;exact Option.some.inj hj
 have g:=SeqAt.list_indexAt l its.toArray n none #[] (.int k t) (eqU (.int k)) j (by rw [List.size_toArray];lia) hjs (by
   obtain⟨t',e1⟩:=key j (by lia);have e2:its.toArray[j]'(by rw [List.size_toArray];lia)=its[j]'(by lia):=by simp
   rw [e2,e1,ejv];show(k==k)=true;simp) (λ m hm hmj=>by
   obtain⟨t',e1⟩:=key m (by lia);have e2:its.toArray[m]=its[m]'(by lia):=by simp
   rw [e2,e1];show(ns[m]'(by lia)==k)=false;have h1:=hno m hmj;rw [List.getElem?_eq_getElem (by lia)] at h1;simpa using h1)
 refine call_meets F.slot_list_index ⟨_,e,rfl⟩ F.entry_list_index (F.args_list_index_2 (.ref l) (.int k t)) g ⟨e,λ y hy=>dZ (x:=.int k) ⟨t,rfl⟩ rfl r hf y (by simpa using hy),?_⟩;exact⟨.int ((j:Nat):Int),H,I.tok _,⟨_,rfl⟩,q⟩
end
end L2
namespace W16
inductive Pc where
 |sg (s:Nat)
 |cp (b z:Nat)
deriving DecidableEq
def Pc.size:Pc->Nat
 | .sg _=>1
 | .cp _ z=>z
def al (S:List Nat)(p b:Nat):Nat->Nat
 |0=>0
 |m+1=>if al S p b m=m/\S[p+m]?=S[p+m-b]? then m+1 else al S p b m
theorem nk (S:List Nat)(p b:Nat):∀m,al S p b m≤m
 |0=>Nat.le_refl _
 |m+1=>by
  unfold al;have:=nk S p b m
  split<;>lia
theorem al_all {S:List Nat}{p b:Nat}:∀{m:Nat},∀i<al S p b m,S[p+i]?=S[p+i-b]?
 |0,i,h=>by simp [al] at h
 |m+1,i,h=>by
  unfold al at h
  split at h
  ·rename_i c
   by_cases e:i=m
   ·subst e;exact c.2
   ·exact al_all (m:=m) i (by rw [c.1];lia)
  ·exact al_all (m:=m) i h
theorem oa {S:List Nat}{p b:Nat}:∀{m:Nat},(∀i<m,S[p+i]?=S[p+i-b]?)->al S p b m=m
 |0,_=>rfl
 |m+1,h=>by
  unfold al;rw [if_pos ⟨oa λ i hi=>h i (by lia),h m (by lia)⟩]
theorem lI {S:List Nat}{p b r:Nat}(h:∀i<r,S[p+i]?=S[p+i-b]?)(hn:S[p+r]?≠S[p+r-b]?):∀m,r≤m->al S p b m=r
 |0,hm=>by
  have:r=0:=by lia
  subst this;rfl
 |m+1,hm=>by
  by_cases e:r=m+1
  ·subst e;exact oa h
  ·have ih:=lI h hn m (by lia);unfold al;rw [ih]
   split
   ·rename_i c
    rw [<-c.1] at c;exact absurd c.2 hn
   ·rfl
theorem tu {S:List Nat}{p b m:Nat}(h:al S p b m<m):S[p+al S p b m]?≠S[p+al S p b m-b]?:=by
 induction m with
 |zero=>simp [al] at h
 |succ m ih=>
  by_cases c:al S p b m=m/\S[p+m]?=S[p+m-b]?
  ·have e:al S p b (m+1)=m+1:=by unfold al;rw [if_pos c]
   lia
  ·have e:al S p b (m+1)=al S p b m:=by rw [al,if_neg c]
   rw [e];by_cases q:al S p b m=m
   ·rw [q];exact λ z=>c ⟨q,z⟩
   ·exact ih (by have:=nk S p b m;lia)
def lc (S:List Nat)(p m:Nat):Nat->Nat×Nat
 |0=>(0,0)
 |n+1=>if(lc S p m n).2<al S p (n+1) m then(n+1,al S p (n+1) m) else lc S p m n
theorem mL (S:List Nat)(p m:Nat):∀n,(lc S p m n).2≤m
 |0=>Nat.zero_le _
 |n+1=>by
  unfold lc
  split
  ·exact nk ..
  ·exact mL S p m n
theorem nP {S:List Nat}{p m k:Nat}(h:(lc S p m k).2=m):∀n,k≤n->lc S p m n=lc S p m k
 |0,hk=>by
  have:k=0:=by lia
  subst this;rfl
 |n+1,hk=>by
  by_cases e:k=n+1
  ·subst e;rfl
  ·have ih:=nP h n (by lia);rw [lc,ih,h,if_neg];have:=nk S p (n+1) m;lia
theorem tz {S:List Nat}{p m n:Nat}(h:S[p+(lc S p m n).2]?≠S[p+(lc S p m n).2-(n+1)]?):lc S p m (n+1)=lc S p m n:=by
 rw [lc,if_neg];intro c;exact h (al_all _ c)
theorem m5 {S:List Nat}{p m:Nat}:∀{n:Nat},0<(lc S p m n).2->1≤(lc S p m n).1/\(lc S p m n).1≤n/\(lc S p m n).2=al S p (lc S p m n).1 m
 |0,h=>by simp [lc] at h
 |n+1,h=>by
  unfold lc at h ⊢
  split
  ·exact⟨Nat.succ_le_succ (Nat.zero_le _),Nat.le_refl _,rfl⟩
  ·rename_i c
   rw [if_neg c] at h;obtain⟨a,b,e⟩:=m5 h;exact⟨a,by lia,e⟩
def most (S:List Nat)(p:Nat):Nat:=min 18 (S.length-p)
def far (p:Nat):Nat:=min 255 p
def lcAt (S:List Nat)(p:Nat):Nat×Nat:=lc S p (most S p) (far p)
def pcAt (S:List Nat)(p:Nat):Pc:=if 3≤(lcAt S p).2 then .cp (lcAt S p).1 (lcAt S p).2 else .sg (S.getD p 0)
def Walk (S:List Nat):Nat->List Pc->Nat->Prop
 |p,[],q=>p=q
 |p,x::xs,q=>p<S.length/\x=pcAt S p/\Walk S (p+x.size) xs q
theorem ci {S:List Nat}:∀{P:List Pc} {p q:Nat},Walk S p P q->q<S.length->Walk S p (P++[pcAt S q]) (q+(pcAt S q).size)
 | [],p,q,h,hq=>by
  cases h;exact⟨hq,rfl,rfl⟩
 |x::P,p,q,h,hq=>⟨h.1,h.2.1,ci h.2.2 hq⟩
theorem fF {S:List Nat}{p:Nat}(h:p<S.length):1≤(pcAt S p).size/\p+(pcAt S p).size≤S.length:=by
 unfold pcAt
 split
 ·rename_i c
  have:=mL S p (most S p) (far p);show 1≤(lcAt S p).2/\p+(lcAt S p).2≤S.length;unfold lcAt at c ⊢;unfold most at this c ⊢;lia
 ·show 1≤1/\p+1≤S.length;lia
def pos (a:Nat)(P:List Pc):Nat:=a+(P.map Pc.size).sum
theorem bW {S:List Nat}:∀{P:List Pc} {p q:Nat},Walk S p P q->p+P.length≤q
 | [],p,q,h=>by cases h;simp
 |x::P,p,q,h=>by
  have:=bW h.2.2;have h1:=(fF h.1).1;rw [<-h.2.1] at h1;simp;lia
theorem uE {S:List Nat}{p b z:Nat}(hp:p<S.length)(h:pcAt S p=.cp b z):1≤b/\b≤p/\b≤255/\3≤z/\z≤18/\p+z≤S.length/\(∀i<z,S[p+i]?=S[p+i-b]?)/\(z<18->p+z<S.length->S[p+z]?≠S[p+z-b]?):=by
 unfold pcAt at h
 split at h
 ·rename_i c
  have e1:(lcAt S p).1=b:=by injection h
  have e2:(lcAt S p).2=z:=by injection h
  rw [e2] at c;have g:=m5 (S:=S) (p:=p) (m:=most S p) (n:=far p) (by show 0<(lcAt S p).2;lia);have l:=mL S p (most S p) (far p);change 1≤(lcAt S p).1/\(lcAt S p).1≤far p/\(lcAt S p).2=al S p (lcAt S p).1 (most S p) at g;change (lcAt S p).2≤most S p at l;rw [e1,e2] at g;rw [e2] at l;have hf:far p≤255/\far p≤p:=by unfold far;lia
  have hm:most S p≤18/\most S p≤S.length-p/\(most S p=18\/most S p=S.length-p):=by unfold most;lia
  refine⟨g.1,by lia,by lia,c,by lia,by lia,λ i hi=>al_all (m:=most S p) i (by lia),λ h1 h2=>?_⟩;have:=tu (S:=S) (p:=p) (b:=b) (m:=most S p) (by rw [<-g.2.2];lia);rw [<-g.2.2] at this;exact this
 ·cases h
theorem uf {S:List Nat}{p s:Nat}(hp:p<S.length)(h:pcAt S p=.sg s):S[p]?=some s:=by
 unfold pcAt at h
 split at h
 ·cases h
 ·injection h with h
  rw [<-h];simp [List.getD,hp]
def Pc.turn (f:Nat->Nat):Pc->Pc
 | .sg s=>.sg (f s)
 | .cp b z=>.cp b z
def cps:List Pc->List (Nat×Nat)
 | []=>[]
 | .sg _::P=>cps P
 | .cp b z::P=>(b,z)::cps P
end W16
namespace BP
def val (B:List Nat):Nat:=B.foldl (λ a b=>a*256+b) 0
theorem ij (B:List Nat):∀a,B.foldl (λ a b=>a*256+b) a=a*256^B.length+val B:=by
 induction B with
 |nil=>intro a;simp [val]
 |cons b B ih=>
  intro a;have h0:val (b::B)=b*256^B.length+val B:=by
   show B.foldl (λ a b=>a*256+b) (0*256+b)=_;rw [ih,Nat.zero_mul,Nat.zero_add]
  show B.foldl (λ a b=>a*256+b) (a*256+b)=_;rw [ih,h0,List.length_cons,Nat.pow_succ,Nat.add_mul,Nat.mul_assoc,Nat.mul_comm 256,Nat.add_assoc]
theorem sP:val []=0:=rfl
theorem eM (b:Nat)(B:List Nat):val (b::B)=b*256^B.length+val B:=by
 show B.foldl (λ a b=>a*256+b) (0*256+b)=_;rw [ij,Nat.zero_mul,Nat.zero_add]
theorem gL (A B:List Nat):val (A++B)=val A*256^B.length+val B:=by
 show(A++B).foldl (λ a b=>a*256+b) 0=_;rw [List.foldl_append,ij];rfl
theorem val_snoc (A:List Nat)(b:Nat):val (A++[b])=val A*256+b:=by
 show(A++[b]).foldl (λ a b=>a*256+b) 0=_;rw [List.foldl_append];rfl
theorem val_lt {B:List Nat}(h:∀b∈B,b<256):val B<256^B.length:=by
 induction B with
 |nil=>simp [val]
 |cons b B ih=>
  rw [eM,List.length_cons,Nat.pow_succ];have h1:=ih λ x hx=>h x (List.mem_cons_of_mem _ hx)
  have h2:b<256:=h b List.mem_cons_self;have h3:b*256^B.length≤255*256^B.length:=Nat.mul_le_mul_right _ (by lia);lia
theorem lJ (n:Nat):256^n=2^(8*n):=by rw [Nat.pow_mul]
theorem pow_pos2 (n:Nat):0<2^n:=Nat.pow_pos (by decide)
theorem rP {B:List Nat}(h:∀b∈B,b<256)(n:Nat)(hn:n≤B.length):val (B.take n)=val B/256^(B.length-n):=by
 have e:val B=val (B.take n)*256^(B.drop n).length+val (B.drop n):=by rw [<-gL,List.take_append_drop]
 have hd:val (B.drop n)<256^(B.drop n).length:=val_lt λ b hb=>h b (List.mem_of_mem_drop hb)
 rw [List.length_drop] at e hd;rw [e,Nat.mul_comm,Nat.mul_add_div (Nat.pow_pos (by decide)),Nat.div_eq_of_lt hd,Nat.add_zero]
theorem ud {B:List Nat}(h:∀b∈B,b<256){m n:Nat}(hmn:m≤n)(hn:n≤B.length):val ((B.take n).drop m)=val B/256^(B.length-n)%256^(n-m):=by
 have e:val (B.take n)=val ((B.take n).take m)*256^((B.take n).drop m).length+val ((B.take n).drop m):=by rw [<-gL,List.take_append_drop]
 have hl:((B.take n).drop m).length=n-m:=by rw [List.length_drop,List.length_take];lia
 have hd:val ((B.take n).drop m)<256^((B.take n).drop m).length:=val_lt λ b hb=>h b (List.mem_of_mem_take (List.mem_of_mem_drop hb))
 rw [hl] at e hd;rw [<-rP h n hn,e,Nat.mul_comm,Nat.mul_add_mod,Nat.mod_eq_of_lt hd]
theorem bits_cut {B:List Nat}(h:∀b∈B,b<256){p s:Nat}(hp:p+s≤8*B.length):
  val ((B.take ((p+s+7)/8)).drop (p/8))/2^(8*((p+s+7)/8)-(p+s))%2^s=val B/2^(8*B.length-(p+s))%2^s:=by
 have h1:p/8≤(p+s+7)/8:=by lia
 have h2:(p+s+7)/8≤B.length:=by lia
 rw [ud h h1 h2,lJ,lJ];have e1:2^(8*((p+s+7)/8-p/8))=2^(8*((p+s+7)/8)-(p+s))*2^(8*((p+s+7)/8-p/8)-(8*((p+s+7)/8)-(p+s))):=by
  rw [<-Nat.pow_add];congr 1;lia
 rw [e1,Nat.mod_mul_right_div_self,Nat.div_div_eq_div_mul,<-Nat.pow_add];have e2:2^(8*((p+s+7)/8-p/8)-(8*((p+s+7)/8)-(p+s)))=2^s*2^(8*((p+s+7)/8-p/8)-(8*((p+s+7)/8)-(p+s))-s):=by
  rw [<-Nat.pow_add];congr 1;lia
 rw [e2,Nat.mod_mul_right_mod];congr 3;lia
structure BR (N T:Nat)(B:List Nat)(r k:Nat):Prop where
 tot:T=8*B.length+k
 num:N=val B*2^k+r
 low:r<2^k
 byt:∀b∈B,b<256
theorem BR.init:BR 0 0 [] 0 0:=⟨rfl,rfl,by decide,λ _ h=>nomatch h⟩
theorem BR.put {N T:Nat}{B:List Nat}{r k:Nat}(h:BR N T B r k){n s:Nat}(hn:n<2^s):BR (N*2^s+n) (T+s) B (r*2^s+n) (k+s):=by
 refine⟨by rw [h.tot];lia,?_,?_,h.byt⟩
 ·rw [h.num,Nat.pow_add,Nat.add_mul,Nat.mul_assoc,Nat.add_assoc]
 ·have h1:r+1≤2^k:=h.low;have h2:(r+1)*2^s≤2^k*2^s:=Nat.mul_le_mul_right _ h1;rw [Nat.add_mul,Nat.one_mul] at h2;rw [Nat.pow_add];lia
theorem BR.move {N T:Nat}{B:List Nat}{r k:Nat}(h:BR N T B r (k+8)):BR N T (B++[r/2^k]) (r%2^k) k:=by
 have e:=Nat.div_add_mod r (2^k);refine⟨by rw [h.tot,List.length_append,List.length_singleton];lia,?_,Nat.mod_lt _ (pow_pos2 k),λ b hb=>?_⟩
 ·rw [h.num,val_snoc,Nat.add_mul,Nat.pow_add];have:val B*(2^k*2^8)=val B*256*2^k:=by rw [Nat.mul_comm (2^k),<-Nat.mul_assoc]
  rw [this,Nat.add_assoc];rw [Nat.mul_comm (r/2^k),e]
 ·rcases List.mem_append.mp hb with hb|hb
  ·exact h.byt b hb
  ·rw [List.mem_singleton.mp hb];have:=h.low;rw [Nat.pow_add] at this;exact Nat.div_lt_of_lt_mul this
structure RowOf (N T:Nat)(R:List Nat):Prop where
 len:R.length=(T+7)/8
 byt:∀b∈R,b<256
 num:val R=N*2^(8*R.length-T)
theorem BR.row0 {N T:Nat}{B:List Nat}{r:Nat}(h:BR N T B r 0):RowOf N T B:=by
 have h1:=h.low;refine⟨by rw [h.tot];lia,h.byt,?_⟩;rw [h.num,h.tot];have:r=0:=by simpa using h1
 subst this;simp
theorem BR.row1 {N T:Nat}{B:List Nat}{r k:Nat}(h:BR N T B r k)(h0:0<k)(h8:k<8):RowOf N T (B++[r*2^(8-k)]):=by
 refine⟨by rw [h.tot,List.length_append,List.length_singleton];lia,λ b hb=>?_,?_⟩
 ·rcases List.mem_append.mp hb with hb|hb
  ·exact h.byt b hb
  ·rw [List.mem_singleton.mp hb];have h2:r*2^(8-k)<2^k*2^(8-k):=(Nat.mul_lt_mul_right (pow_pos2 _)).mpr h.low;rw [<-Nat.pow_add] at h2;have:k+(8-k)=8:=by lia
   rw [this] at h2;exact h2
 ·have e:8*(B++[r*2^(8-k)]).length-T=8-k:=by rw [h.tot,List.length_append,List.length_singleton];lia
  have e2:256=2^k*2^(8-k):=by
   rw [<-Nat.pow_add];have:k+(8-k)=8:=by lia
   rw [this]
  rw [e,val_snoc,h.num,Nat.add_mul,Nat.mul_assoc,<-e2]
theorem BR.lt {N T:Nat}{B:List Nat}{r k:Nat}(h:BR N T B r k):N<2^T:=by
 have h1:=val_lt h.byt;rw [lJ] at h1;rw [h.num,h.tot,Nat.pow_add];have h2:(val B+1)*2^k≤2^(8*B.length)*2^k:=Nat.mul_le_mul_right _ h1;have:=h.low;rw [Nat.add_mul,Nat.one_mul] at h2;lia
def nums:List (Nat×Nat)->Nat->Nat
 | [],N=>N
 |p::ps,N=>nums ps (N*2^p.2+p.1)
def tots (ps:List (Nat×Nat)):Nat:=(ps.map (·.2)).sum
theorem bp (a b:List (Nat×Nat))(N:Nat):nums (a++b) N=nums b (nums a N):=by
 induction a generalizing N with
 |nil=>rfl
 |cons p a ih=>exact ih _
theorem aC (a b:List (Nat×Nat)):tots (a++b)=tots a+tots b:=by simp [tots,List.map_append,List.sum_append]
theorem bv (p:Nat×Nat)(b:List (Nat×Nat)):tots (p::b)=p.2+tots b:=by simp [tots]
def Good (ps:List (Nat×Nat)):Prop:=∀p∈ps,p.1<2^p.2
theorem p7 (b:List (Nat×Nat))(hb:Good b):∀N,nums b N/2^tots b=N:=by
 induction b with
 |nil=>intro N;simp [nums,tots]
 |cons p b ih=>
  intro N;have h1:p.1<2^p.2:=hb p List.mem_cons_self;rw [nums,bv,Nat.add_comm p.2 (tots b),Nat.pow_add,<-Nat.div_div_eq_div_mul,ih (λ q hq=>hb q (List.mem_cons_of_mem _ hq))];rw [Nat.mul_comm,Nat.mul_add_div (pow_pos2 _),Nat.div_eq_of_lt h1,Nat.add_zero]
theorem f7 (a b c:List (Nat×Nat))(hc:Good c)(e:Nat)(L:Nat)(hL:L=tots (a++b++c)+e):
  nums (a++b++c) 0*2^e/2^(L-(tots a+tots b))=nums b (nums a 0):=by
 have h1:L-(tots a+tots b)=e+tots c:=by rw [hL,aC,aC];lia
 rw [h1,Nat.pow_add,<-Nat.div_div_eq_div_mul,Nat.mul_div_cancel _ (pow_pos2 e),bp,bp];exact p7 c hc _
theorem j7 {a c:List (Nat×Nat)}{n s:Nat}(hc:Good c)(hn:n<2^s){e L:Nat}(hL:L=tots (a++(n,s)::c)+e):
  nums (a++(n,s)::c) 0*2^e/2^(L-(tots a+s))%2^s=n:=by
 have h:=f7 a [(n,s)] c hc e L (by simpa using hL);have e1:tots [(n,s)]=s:=by simp [tots]
 rw [e1] at h;have e2:a++[(n,s)]++c=a++(n,s)::c:=by simp
 rw [e2] at h;rw [h];show(nums a 0*2^s+n)%2^s=n;rw [Nat.mul_comm,Nat.mul_add_mod,Nat.mod_eq_of_lt hn]
def num (bs:List Bool):Nat:=bs.foldl (λ a b=>2*a+b.toNat) 0
theorem o9 (bs:List Bool):∀a,bs.foldl (λ a b=>2*a+b.toNat) a=a*2^bs.length+num bs:=by
 induction bs with
 |nil=>intro a;simp [num]
 |cons b bs ih=>
  intro a;have h0:num (b::bs)=b.toNat*2^bs.length+num bs:=by
   show bs.foldl (λ a b=>2*a+b.toNat) (2*0+b.toNat)=_;rw [ih,Nat.mul_zero,Nat.zero_add]
  show bs.foldl (λ a b=>2*a+b.toNat) (2*a+b.toNat)=_;rw [ih,h0,List.length_cons,Nat.pow_succ,Nat.add_mul,Nat.mul_comm 2 a,Nat.mul_assoc a 2,Nat.mul_comm 2 (2^bs.length),Nat.add_assoc]
theorem b9 (a b:List Bool):num (a++b)=num a*2^b.length+num b:=by
 show(a++b).foldl (λ a b=>2*a+b.toNat) 0=_;rw [List.foldl_append,o9];rfl
theorem num_snoc (a:List Bool)(b:Bool):num (a++[b])=2*num a+b.toNat:=by
 show(a++[b]).foldl (λ a b=>2*a+b.toNat) 0=_;rw [List.foldl_append];rfl
theorem dh (b:Bool)(bs:List Bool):num (b::bs)=b.toNat*2^bs.length+num bs:=by
 have:=b9 [b] bs;simpa [num] using this
theorem num_lt (bs:List Bool):num bs<2^bs.length:=by
 induction bs with
 |nil=>decide
 |cons b bs ih=>
  rw [dh,List.length_cons,Nat.pow_succ];cases b<;>simp<;>lia
theorem ic (k:Nat):num (List.replicate k false)=0:=by
 induction k with
 |zero=>rfl
 |succ k ih=>rw [List.replicate_succ,dh,ih];simp
def dig (n:Nat):Nat->List Bool
 |0=>[]
 |k+1=>decide (n/2^k%2=1)::dig n k
theorem dig_length (n k:Nat):(dig n k).length=k:=by
 induction k with
 |zero=>rfl
 |succ k ih=>show(dig n k).length+1=k+1;rw [ih]
theorem jl (n k:Nat):num (dig n k)=n%2^k:=by
 induction k with
 |zero=>simp [dig,num,Nat.mod_one]
 |succ k ih=>
  show num (decide (n/2^k%2=1)::dig n k)=_;rw [dh,dig_length,ih,Nat.pow_succ,Nat.mod_mul];have h2:n/2^k%2<2:=Nat.mod_lt _ (by decide);by_cases h:n/2^k%2=1
  ·rw [decide_eq_true h,h];simp;lia
  ·have h0:n/2^k%2=0:=by lia
   rw [decide_eq_false h,h0];simp
theorem mZ:∀{A B:List Nat},(∀b∈A,b<256)->(∀b∈B,b<256)->A.length=B.length->val A=val B->A=B
 | [],[],_,_,_,_=>rfl
 | [],_::_,_,_,h,_=>by cases h
 |_::_,[],_,_,h,_=>by cases h
 |a::A,b::B,hA,hB,hl,hv=>by
  have hl':A.length=B.length:=by simpa using hl
  rw [eM,eM,hl'] at hv;have h1:val A<256^B.length:=by rw [<-hl'];exact val_lt λ x hx=>hA x (List.mem_cons_of_mem _ hx)
  have h2:val B<256^B.length:=val_lt λ x hx=>hB x (List.mem_cons_of_mem _ hx)
  have p:0<256^B.length:=Nat.pow_pos (by decide);have e1:a=b:=by
   have q1:(a*256^B.length+val A)/256^B.length=a:=by rw [Nat.mul_comm,Nat.mul_add_div p,Nat.div_eq_of_lt h1,Nat.add_zero]
   have q2:(b*256^B.length+val B)/256^B.length=b:=by rw [Nat.mul_comm,Nat.mul_add_div p,Nat.div_eq_of_lt h2,Nat.add_zero]
   rw [<-q1,hv,q2]
  subst e1;rw [mZ (λ x hx=>hA x (List.mem_cons_of_mem _ hx)) (λ x hx=>hB x (List.mem_cons_of_mem _ hx)) hl' (Nat.add_left_cancel hv)]
theorem RowOf.uniq {N T:Nat}{R R':List Nat}(h:RowOf N T R)(h':RowOf N T R'):R=R':=by
 have e:R.length=R'.length:=by rw [h.len,h'.len]
 exact mZ h.byt h'.byt e (by rw [h.num,h'.num,e])
end BP
namespace W13
def run (a:Nat):List Nat->Nat
 | []=>0
 |x::xs=>if x=a then run a xs+1 else 0
theorem ja (a:Nat):∀L:List Nat,run a L≤L.length
 | []=>Nat.le_refl _
 |x::xs=>by
  unfold run;have:=ja a xs
  split<;>simp<;>lia
theorem k9 {a:Nat}:∀{L:List Nat} {i:Nat},i<run a L->L[i]?=some a
 | [],i,h=>by simp [run] at h
 |x::xs,0,h=>by
  unfold run at h
  split at h
  ·rename_i c;simp [c]
  ·lia
 |x::xs,i+1,h=>by
  unfold run at h
  split at h
  ·simpa using k9 (L:=xs) (i:=i) (by lia)
  ·lia
theorem lO {a:Nat}:∀{L:List Nat} {n:Nat},(∀i<n,L[i]?=some a)->n≤run a L
 | [],0,_=>Nat.zero_le _
 | [],n+1,h=>by simpa using h 0 (by lia)
 |x::xs,0,_=>Nat.zero_le _
 |x::xs,n+1,h=>by
  have h0:x=a:=by simpa using h 0 (by lia)
  rw [run,if_pos h0];have:=lO (L:=xs) (n:=n) (λ i hi=>by simpa using h (i+1) (by lia));lia
theorem vY {a:Nat}{L:List Nat}{n:Nat}(h:∀i<n,L[i]?=some a)(hn:L[n]?≠some a):run a L=n:=by
 have h1:=lO h;rcases Nat.lt_or_ge n (run a L) with h2|h2
 ·exact absurd (k9 h2) hn
 ·lia
inductive Itm where
 |one (x:Nat)
 |rep (r:Nat)
def Itm.size:Itm->Nat
 | .one _=>1
 | .rep r=>r
def Itm.cost:Itm->Nat
 | .one _=>3
 | .rep _=>9
def Itm.next (a:Nat):Itm->Nat
 | .one x=>x
 | .rep _=>a
def Itm.puts:Itm->List (Nat×Nat)
 | .one x=>[(x,3)]
 | .rep r=>[(7,3),(r-3,6)]
def stAt (L:List Nat)(p a:Nat):Itm:=if 3≤min 66 (run a (L.drop p)) then .rep (min 66 (run a (L.drop p))) else .one (L.getD p 0)
def Walk (L:List Nat):Nat->Nat->List Itm->Nat->Nat->Prop
 |p,a,[],q,b=>p=q/\a=b
 |p,a,x::xs,q,b=>p<L.length/\x=stAt L p a/\Walk L (p+x.size) (x.next a) xs q b
theorem ci {L:List Nat}:∀{P:List Itm} {p a q b:Nat},Walk L p a P q b->q<L.length->Walk L p a (P++[stAt L q b]) (q+(stAt L q b).size) ((stAt L q b).next b)
 | [],p,a,q,b,h,hq=>by
  obtain⟨rfl,rfl⟩:=h;exact⟨hq,rfl,rfl,rfl⟩
 |x::P,p,a,q,b,h,hq=>⟨h.1,h.2.1,ci h.2.2 hq⟩
theorem ig {L:List Nat}{p a:Nat}(h:p<L.length):1≤(stAt L p a).size/\p+(stAt L p a).size≤L.length:=by
 unfold stAt
 split
 ·rename_i c
  have:=ja a (L.drop p);rw [List.length_drop] at this;show 1≤min 66 (run a (L.drop p))/\p+min 66 (run a (L.drop p))≤L.length;lia
 ·show 1≤1/\p+1≤L.length;lia
theorem bW {L:List Nat}:∀{P:List Itm} {p a q b:Nat},Walk L p a P q b->p+P.length≤q
 | [],p,a,q,b,h=>by obtain⟨rfl,rfl⟩:=h;simp
 |x::P,p,a,q,b,h=>by
  have h1:=bW h.2.2;have h2:=(ig (a:=a) h.1).1;rw [<-h.2.1] at h2;simp;lia
def nxtS (a:Nat):List Itm->Nat
 | []=>a
 |x::xs=>nxtS (x.next a) xs
theorem iB (a:Nat):∀(P:List Itm) (x:Itm),nxtS a (P++[x])=x.next (nxtS a P)
 | [],x=>rfl
 |y::P,x=>iB (y.next a) P x
theorem nJ {L:List Nat}{p a:Nat}(hp:p<L.length):(∀x,stAt L p a=.one x->L.take (p+1)=L.take p++[x]/\L[p]?=some x)/\(∀r,stAt L p a=.rep r->3≤r/\r≤66/\p+r≤L.length/\L.take (p+r)=L.take p++List.replicate r a):=by
 have hle:=ja a (L.drop p);rw [List.length_drop] at hle;unfold stAt
 split
 ·rename_i c
  refine⟨λ x h=>(by cases h),λ r h=>?_⟩;injection h with h
  have hr:r≤run a (L.drop p):=by lia
  refine⟨by lia,by lia,by lia,?_⟩;rw [List.take_add];congr 1;apply List.ext_getElem?;intro i;rw [List.getElem?_take,List.getElem?_replicate]
  split
  ·rename_i hi
   exact k9 (by lia)
  ·rfl
 ·refine⟨λ x h=>?_,λ r h=>(by cases h)⟩;injection h with h
  have e:L[p]?=some x:=by rw [<-h];simp [List.getD,hp]
  exact⟨by rw [List.take_add_one,e];rfl,e⟩
def decL (a:Nat):List Itm->List Nat
 | []=>[]
 | .one x::P=>x::decL x P
 | .rep r::P=>List.replicate r a++decL a P
def StOk:Itm->Prop
 | .one x=>x≤6
 | .rep r=>3≤r/\r≤66
theorem fq:∀(P:List Itm) (a:Nat) (x:Itm),decL a (P++[x])=decL a P++decL (nxtS a P) [x]
 | [],a,x=>by simp [decL,nxtS]
 | .one y::P,a,x=>by
  show y::decL y (P++[x])=y::(decL y P++_);rw [fq P y x];rfl
 | .rep r::P,a,x=>by
  show List.replicate r a++decL a (P++[x])=List.replicate r a++decL a P++_;rw [fq P a x,List.append_assoc];rfl
theorem jM (a:Nat)(x:Itm):(decL a [x]).length=x.size:=by cases x<;>simp [decL,Itm.size]
theorem bN:∀(P Q:List Itm) (a:Nat),decL a (P++Q)=decL a P++decL (nxtS a P) Q
 | [],Q,a=>rfl
 | .one y::P,Q,a=>by
  show y::decL y (P++Q)=y::(decL y P++_);rw [bN P Q y];rfl
 | .rep r::P,Q,a=>by
  show List.replicate r a++decL a (P++Q)=List.replicate r a++decL a P++_;rw [bN P Q a,List.append_assoc];rfl
theorem walk_dec {L:List Nat}:∀{P:List Itm} {p a q b:Nat},Walk L p a P q b->L.take q=L.take p++decL a P
 | [],p,a,q,b,h=>by obtain⟨rfl,rfl⟩:=h;simp [decL]
 |x::P,p,a,q,b,h=>by
  obtain⟨hp,hx,hw⟩:=h;have ih:=walk_dec hw;have ht:=nJ (a:=a) hp;rw [ih];cases x with
  |one y=>
   have h1:=(ht.1 y hx.symm).1;show L.take (p+1)++decL y P=L.take p++y::decL y P;rw [h1];simp
  |rep r=>
   have h1:=(ht.2 r hx.symm).2.2.2;show L.take (p+r)++decL a P=L.take p++(List.replicate r a++decL a P);rw [h1,List.append_assoc]
theorem walk_ok {L:List Nat}(hL:∀b∈L,b≤6):∀{P:List Itm} {p a q b:Nat},Walk L p a P q b->∀x∈P,StOk x
 | [],p,a,q,b,h,x,hx=>by simp at hx
 |y::P,p,a,q,b,h,x,hx=>by
  rcases List.mem_cons.mp hx with rfl|hx
  ·have ht:=nJ (a:=a) h.1;cases x with
   |one y=>exact hL _ (List.mem_of_getElem? (ht.1 y h.2.1.symm).2)
   |rep r=>have:=ht.2 r h.2.1.symm;exact⟨this.1,this.2.1⟩
  ·exact walk_ok hL h.2.2 x hx
def puts (P:List Itm):List (Nat×Nat):=P.flatMap Itm.puts
theorem cM (P Q:List Itm):puts (P++Q)=puts P++puts Q:=by simp [puts]
theorem fi:∀P:List Itm,((puts P).map (·.2)).sum=(P.map Itm.cost).sum
 | []=>rfl
 | .one x::P=>by
  show((Itm.puts (.one x)++puts P).map (·.2)).sum=_;rw [List.map_append,List.sum_append,fi P];simp [Itm.puts,Itm.cost]
 | .rep r::P=>by
  show((Itm.puts (.rep r)++puts P).map (·.2)).sum=_;rw [List.map_append,List.sum_append,fi P];simp [Itm.puts,Itm.cost]
theorem puts_good {P:List Itm}(h:∀x∈P,StOk x):∀q∈puts P,q.1<2^q.2:=by
 intro q hq;obtain⟨x,hx,hq⟩:=List.mem_flatMap.mp hq;have ok:=h x hx;cases x with
 |one y=>
  have:y≤6:=ok;simp [Itm.puts] at hq;subst hq;show y<2^3;lia
 |rep r=>
  obtain⟨h1,h2⟩:3≤r/\r≤66:=ok;simp [Itm.puts] at hq;rcases hq with rfl|rfl
  ·decide
  ·show r-3<2^6;lia
def cost (P:List Itm):Nat:=(P.map Itm.cost).sum
def g (m:Nat):Nat:=9*(m/66)+min 9 (3*(m%66))
inductive PC:Nat->List Nat->Nat->Prop
 |nil (a:Nat):PC a [] 0
 |rep {a:Nat} {L:List Nat} {c:Nat} (h:3≤min 66 (run a L)) (k:PC a (L.drop (min 66 (run a L))) c):PC a L (9+c)
 |one {a x:Nat} {xs:List Nat} {c:Nat} (h:¬3≤min 66 (run a (x::xs))) (k:PC x xs c):PC a (x::xs) (3+c)
inductive LF:Nat->List Nat->Nat->Prop
 |nil (a:Nat):LF a [] 0
 |new {a x:Nat} {xs:List Nat} {c:Nat} (h:x≠a) (k:LF x (xs.drop (run x xs)) c):LF a (x::xs) (3+g (run x xs)+c)
 |old {a:Nat} {x:Nat} {xs:List Nat} {c:Nat} (h:x=a) (k:LF a ((x::xs).drop (run a (x::xs))) c):LF a (x::xs) (g (run a (x::xs))+c)
end W13
namespace W17
open BP W13
def bitsP (ps:List (Nat×Nat)):List Bool:=ps.flatMap λ q=>dig q.1 q.2
theorem c4 (q:Nat×Nat)(ps:List (Nat×Nat)):bitsP (q::ps)=dig q.1 q.2++bitsP ps:=by simp [bitsP]
theorem bU (a b:List (Nat×Nat)):bitsP (a++b)=bitsP a++bitsP b:=by simp [bitsP]
theorem ay:∀ps:List (Nat×Nat),(bitsP ps).length=tots ps
 | []=>rfl
 |q::ps=>by rw [c4,List.length_append,dig_length,ay ps,bv]
theorem iP:∀{ps:List (Nat×Nat)},Good ps->∀N,nums ps N=N*2^tots ps+num (bitsP ps)
 | [],_,N=>by simp [nums,tots,bitsP,num]
 |q::ps,h,N=>by
  have h1:q.1<2^q.2:=h q List.mem_cons_self;have ih:=iP (ps:=ps) λ z hz=>h z (List.mem_cons_of_mem _ hz)
  show nums ps (N*2^q.2+q.1)=_;rw [ih,c4,b9,ay,jl,Nat.mod_eq_of_lt h1,bv,Nat.pow_add,Nat.add_mul,Nat.mul_assoc,Nat.add_assoc]
theorem cU {ps:List (Nat×Nat)}(h:Good ps):num (bitsP ps)=nums ps 0:=by rw [iP h 0];simp
structure RdOf (R:List Nat)(ps:List (Nat×Nat)):Prop where
 len:8*R.length=tots ps
 num:val R=nums ps 0
 good:Good ps
 byt:∀b∈R,b<256
theorem RdOf.at {R:List Nat}{ps a c:List (Nat×Nat)}{n s:Nat}(h:RdOf R ps)(e:ps=a++(n,s)::c):tots a+s≤8*R.length/\val R/2^(8*R.length-(tots a+s))%2^s=n:=by
 subst e;have g:=h.good;have t:=j7 (a:=a) (c:=c) (n:=n) (s:=s) (λ q hq=>g q (by simp [hq])) (g (n,s) (by simp)) (e:=0) (L:=8*R.length) (by rw [h.len];rfl);rw [Nat.pow_zero,Nat.mul_one,<-h.num] at t;refine⟨?_,t⟩;rw [h.len,aC,bv];show tots a+s≤tots a+(s+tots c);lia
theorem RdOf.mk' {R:List Nat}{ps:List (Nat×Nat)}(h:RowOf (nums ps 0) (tots ps) R)(g:Good ps){z:Nat}(hz:z<256):RdOf (R++[z]) (ps++[(0,8*R.length-tots ps),(z,8)]):=by
 have hl:=h.len;refine⟨?_,?_,?_,?_⟩
 ·rw [aC];have:tots [(0,8*R.length-tots ps),(z,8)]=(8*R.length-tots ps)+8:=by simp [tots]
  rw [this,List.length_append,List.length_singleton];lia
 ·rw [val_snoc,h.num,bp];show _=(nums ps 0*2^(8*R.length-tots ps)+0)*2^8+z;rw [Nat.add_zero]
 ·intro q hq;rcases List.mem_append.mp hq with hq|hq
  ·exact g q hq
  ·simp at hq;rcases hq with rfl|rfl
   ·exact pow_pos2 _
   ·exact hz
 ·intro b hb;rcases List.mem_append.mp hb with hb|hb
  ·exact h.byt b hb
  ·rw [List.mem_singleton.mp hb];exact hz
end W17
set_option maxHeartbeats 4000000
namespace K19
open PySem L2 QQ W17 W16
seal PE PA PS PSs PT PW PG PI
def top (i:Nat):Stmt:=PySem.Challenge.pw_balepress_k19_shares.main.body.getD i (.Pass ⟨0,0,0,0⟩)
abbrev fY:Stmt:=top 13
abbrev bK:Stmt:=top 14
abbrev bA:Stmt:=top 15
abbrev iU:Stmt:=top 16
abbrev bX:Stmt:=top 17
abbrev bP:Stmt:=top 20
abbrev dR:Stmt:=top 21
abbrev dH:Stmt:=top 22
abbrev cS:Stmt:=top 55
abbrev gW:Stmt:=top 56
abbrev eT:Stmt:=top 57
abbrev sPiecesOf:Stmt:=top 58
abbrev di:Stmt:=top 59
abbrev cF:Stmt:=top 64
abbrev de:Stmt:=top 65
abbrev eS:Stmt:=top 68
abbrev cR:Stmt:=top 69
abbrev fb:Stmt:=top 70
abbrev eg:Stmt:=top 76
abbrev fh:Stmt:=top 77
abbrev gF:Stmt:=top 78
abbrev gb:Stmt:=top 79
abbrev fZ:Stmt:=top 80
abbrev gn:Stmt:=top 81
abbrev eV:Stmt:=top 82
abbrev eZ:Stmt:=top 83
abbrev dY:Stmt:=top 84
abbrev eF:Stmt:=top 85
abbrev jf:Stmt:=top 86
abbrev tJ:Stmt:=top 87
abbrev fX:Stmt:=top 88
abbrev mY:Stmt:=top 89
abbrev sLaw:Stmt:=top 90
abbrev c9:Stmt:=top 30
abbrev kC:Stmt:=top 31
abbrev dz:Stmt:=top 32
abbrev fj:Stmt:=top 33
abbrev gw:Stmt:=top 34
abbrev sLengths:Stmt:=top 35
abbrev nj:Stmt:=top 37
abbrev du:Stmt:=top 38
abbrev eN:Stmt:=top 39
abbrev cI:Stmt:=top 46
abbrev gu:Stmt:=top 47
abbrev dw:Stmt:=top 48
abbrev gN:Stmt:=top 49
abbrev db:Stmt:=top 50
abbrev e7:Stmt:=top 66
abbrev dD:Stmt:=top 67
abbrev eG:Stmt:=top 71
abbrev eJ:Stmt:=top 72
abbrev jw:Stmt:=bd (top 23) 0
abbrev uk:Stmt:=bd (top 23) 1
abbrev kR:Stmt:=bd (top 23) 2
abbrev nA:Stmt:=bd (top 23) 3
abbrev gg:Stmt:=bd (top 23) 4
abbrev iT:Stmt:=bd (top 24) 0
abbrev jE:Stmt:=bd (top 24) 1
abbrev im:Stmt:=bd (top 24) 2
abbrev gy:Stmt:=bd (top 24) 3
abbrev sGo:Stmt:=bd (top 24) 4
abbrev i9:Stmt:=bd (top 40) 0
abbrev mJ:Stmt:=bd (top 40) 1
abbrev i6:Stmt:=bd (top 40) 2
abbrev mN:Stmt:=bd (top 73) 3
abbrev fK:Stmt:=bd (top 74) 0
abbrev mG:Stmt:=bd (top 74) 1
abbrev gc:Stmt:=bd (top 74) 2
abbrev vN (n:Nat):V:=.int ((n:Nat):Int)
structure Txt (K:PySem.W.Frag)(mg:Str->Option Value):Prop where
 isi:mg "isinstance"=none
 bool:mg "bool"=none
 int:mg "int"=none
 list:mg "list"=none
 len:mg "len"=none
 range:mg "range"=none
 max:mg "max"=none
 min:mg "min"=none
 great:∃t,mg "GREATEST"=some (.int 255 t)
 most:∃t,mg "MOST_SIZE"=some (.int 24 t)
 signs:∃t,mg "MOST_SIGNS"=some (.int 64 t)
 ahead:∃t,mg "MOST_AHEAD"=some (.int 192 t)
 far:∃t,mg "FARTHEST"=some (.int 255 t)
 least:∃t,mg "LEAST_COPIED"=some (.int 3 t)
 mostC:∃t,mg "MOST_COPIED"=some (.int 18 t)
 sum:mg "sum"=none
 enum:mg "enumerate"=none
 sort:mg "sorted"=none
 bits:∃t,mg "MOST_BITS"=some (.int 6 t)
 mlen:∃t,mg "MOST_LENGTH"=some (.int 12 t)
 things:∃t,mg "MOST_THINGS"=some (.int 300 t)
 count:∃t,mg "MOST_COUNT"=some (.int 1000000 t)
 many:∃t,mg "MANY"=some (.int 272 t)
 again:∃t,mg "AGAIN"=some (.int 7 t)
 leastA:∃t,mg "LEAST_AGAIN"=some (.int 3 t)
 mostA:∃t,mg "MOST_AGAIN"=some (.int 66 t)
 first:∃t,mg "FIRST_COPY"=some (.int 256 t)
 isnumb:∃(f:Addr) (fd:FuncData),Fun K "is_number" "is_number" fY f fd/\mg "is_number"=some (.ref f)/\Binds K fd ["thing"] []
structure Fn (K:PySem.W.Frag)(mg:Str->Option Value)(x:Str)(st:Stmt)(ps:List Str)(f:Addr)(fd:FuncData):Prop where
 F:Fun K x x st f fd
 m:mg x=some (.ref f)
 b:Binds K fd ps []
structure Me (K:PySem.W.Frag)(C:Addr)(x qual:Str)(st:Stmt)(ps:List Str)(f:Addr)(fd:FuncData):Prop where
 F:Fun K x qual st f fd
 m:Meth K C x f
 b:Binds K fd ps []
section
variable (K : PySem.W.Frag)
theorem u8:PySem.W.kitOne K (.type "int") (.type "bool")=some false:=by
 show(if(Value.type "int"==Value.type "bool")=true then some true else if PySem.W.kitMeta "bool"=true then(fastBuiltinMro "int").map (·.contains (.type "bool")) else none)=some false;decide+kernel
theorem vX:PySem.W.kitOne K (.type "int") (.type "int")=some true:=by
 show(if(Value.type "int"==Value.type "int")=true then some true else if PySem.W.kitMeta "int"=true then(fastBuiltinMro "int").map (·.contains (.type "int")) else none)=some true;decide+kernel
theorem r0:PySem.W.kitOne K (.type "list") (.type "list")=some true:=by
 show(if(Value.type "list"==Value.type "list")=true then some true else if PySem.W.kitMeta "list"=true then(fastBuiltinMro "list").map (·.contains (.type "list")) else none)=some true;decide+kernel
end
theorem vN_inj {x y:Nat}:vN x=vN y<->x=y:=by
 constructor
 ·intro h;injection h with h
  lia
 ·rintro rfl;rfl
theorem bC {S:List Nat}{i:Nat}(h:i<S.length):(S.map vN)[i]?=some (vN S[i]):=by simp [h]
theorem cm {B:List Nat}{i:Nat}{y:V}(h:(B.map vN)[i]?=some y):∃b,B[i]?=some b/\y=vN b:=by
 rw [List.getElem?_map] at h;cases e:B[i]? with
 |none=>rw [e] at h;cases h
 |some z=>rw [e] at h;exact⟨z,rfl,(Option.some.inj h).symm⟩
theorem dv {B:List Nat}{i b:Nat}(h:B[i]?=some b):B.take (i+1)=B.take i++[b]:=by rw [List.take_add_one,h];rfl
theorem dj {n:Nat}(h:n≤2000):n≤sizeLine:=Nat.le_trans h (by decide)
theorem aU {n:Nat}(h:n≤2000):n<sizeLine:=Nat.lt_of_le_of_lt h (by decide)
section
variable {P : Program} {w : World} {K : PySem.W.Frag} {mg : Str -> Option Value} {base : Heap}
def eD:Sp:=λ vs H Q _=>∃(i lo hi:Int),vs=[.int i,.int lo,.int hi]/\Q (.bl (decide (lo≤i)&&decide (i≤hi))) H
theorem uo:FnScope ["thing","least","most"] ["thing","least","most"] (defScope bK):=⟨rfl,rfl,rfl,by decide+kernel,rfl,by decide+kernel,by decide+kernel⟩
def wf:Sp:=λ vs H Q _=>∃(x:V) (b:Bool),vs=[x]/\((∃i,x=.int i)/\b=true)/\Q (.bl b) H
theorem uV:FnScope ["thing"] ["thing"] (defScope fY):=⟨rfl,rfl,rfl,by decide+kernel,rfl,by decide+kernel,by decide+kernel⟩
theorem tD {f:Addr}{fd:FuncData}(F:Fun K "is_number" "is_number" fY f fd)(T:Txt K mg):FnOk P w K mg base CX0 0 f fd ["thing"] wf:=by
 refine F.ok0 uV (λ vs H Q E h=>?_) (λ cdv A outer s H vs Q E h=>?_)
 ·obtain⟨x,b,rfl,_⟩:=h;rfl
 ·obtain⟨x,b,rfl,hw,k⟩:=h;refine⟨_,ag (az (fk (aq eO (by rfl) T.isi PyProof.Rows.boot_isinstance (aa (pv 0) (aa (f6 (v:=.ty "int") (by rfl) T.int PyProof.Rows.boot_int rfl) ad))) (iZ (wk (aq eO (by rfl) T.isi PyProof.Rows.boot_isinstance (aa (pv 0) (aa (f6 (v:=.ty "bool") (by rfl) T.bool PyProof.Rows.boot_bool rfl) ad))))))),?_⟩;obtain⟨⟨i,rfl⟩,rfl⟩:=hw;refine⟨_,rfl,_,_,_,_,rfl,.int _,vX K,_,rfl,pz ?_⟩;exact⟨_,rfl,_,_,_,_,rfl,.int _,u8 K,_,rfl,k⟩
theorem dq {f:Addr}{fd:FuncData}(F:Fn K mg "is_whole" bK ["thing","least","most"] f fd)(T:Txt K mg):FnOk P w K mg base CX0 1 f fd ["thing","least","most"] eD:=by
 obtain⟨fN,fdN,NF,Nm,Nb⟩:=T.isnumb;have GN:=tD (P:=P) (w:=w) (base:=base) NF T;refine F.F.ok uo (λ vs H Q E h=>?_) (λ cdv A outer s H vs Q E hr h=>?_)
 ·obtain⟨i,lo,hi,rfl,_⟩:=h;rfl
 ·obtain⟨i,lo,hi,rfl,k⟩:=h;refine⟨_,ag (az (fk (am GN hr (by rfl) Nm NF.kp Nb .nil ap (aa (pv 0) ad)) (iZ (kE kG kG (pv 1) (pv 0) (pv 2))))),?_⟩;refine⟨_,rfl,_,true,rfl,⟨⟨i,rfl⟩,rfl⟩,_,rfl,pz ?_⟩;refine⟨_,rfl,_,rfl,_,_,rfl,rfl,_,rfl,?_⟩;refine aJ (λ h1=>?_) (λ h1=>?_)
  ·refine⟨_,rfl,_,_,rfl,rfl,?_⟩;rw [h1,Bool.true_and] at k;exact k
  ·have h2:decide (lo≤i)=false:=by simpa using h1
   rw [h2,Bool.false_and] at k;exact k
def lu:Sp:=λ vs H Q _=>∃(a:Addr) (B:List Nat) (lo hi:Int),vs=[.ref a,.int lo,.int hi]/\H a=some (.lst (B.map vN))/\(∀b∈B,lo≤((b:Nat):Int)/\((b:Nat):Int)≤hi)/\Q (.bl true) H
theorem scAreWhole:FnScope ["thing","least","most","number"] ["thing","least","most"] (defScope bA):=⟨rfl,rfl,rfl,by decide+kernel,rfl,by decide+kernel,by decide+kernel⟩
theorem dm {f fW:Addr}{fd fdW:FuncData}(F:Fn K mg "are_whole" bA ["thing","least","most"] f fd)(W:Fn K mg "is_whole" bK ["thing","least","most"] fW fdW)(T:Txt K mg):FnOk P w K mg base CX0 2 f fd ["thing","least","most"] lu:=by
 have GW:FnOk P w K mg base CX0 1 fW fdW ["thing","least","most"] eD:=dq W T;refine F.F.ok scAreWhole (λ vs H Q E h=>?_) (λ cdv A outer s H vs Q E hr h=>?_)
 ·obtain⟨a,B,lo,hi,rfl,_⟩:=h;rfl
 ·obtain⟨a,B,lo,hi,rfl,hB,hb,k⟩:=h;refine⟨_,ac (aM (cj (cf (aq eO (by rfl) T.isi PyProof.Rows.boot_isinstance (aa (pv 0) (aa (f6 (v:=.ty "list") (by rfl) T.list PyProof.Rows.boot_list rfl) ad))))) (ag (az dQ)) aB)
   (ac (aS PassesOwn.never rfl (bf (pv 0)) (aF (i:=3) scAreWhole.nd rfl (Or.inl rfl))
    (ag (aM (cj (cf (am GW hr (by rfl) W.m W.F.kp W.b .nil ap (aa (pv 3) (aa (pv 1) (aa (pv 2) ad)))))) (ag (az dQ)) aB)))
   (ag (az dQ))),?_⟩
  refine⟨_,rfl,_,_,_,_,rfl,.lst hB,r0 K,_,rfl,bL ?_⟩;refine⟨_,rfl,a,rfl,⟨_,SqL.of hB⟩,bE (D:=⟨_,_,λ _ _=>False,λ _ _=>False⟩) (K:=K) (a:=a) (xs:=B.map vN) (λ i σ H2=>∃v:Option V,σ=[some (.ref a),some (.int lo),some (.int hi),v]/\H2=H)
   ⟨none,rfl,rfl⟩ (λ i σ H2 _ ⟨_,_,e⟩=>by rw [e];exact SqL.of hB) ?_ ?_⟩
  ·rintro i y σ H2 hi ⟨v,rfl,rfl⟩;obtain⟨b,hb1,rfl⟩:=cm hi;obtain⟨h2,h3⟩:=hb b (List.mem_of_getElem? hb1);refine⟨_,rfl,_,rfl,_,rfl,_,_,_,rfl,_,rfl,?_⟩;rw [decide_eq_true h2,decide_eq_true h3];exact bL ⟨_,rfl,rfl⟩
  ·rintro σ H2 ⟨v,rfl,rfl⟩;exact k
def uy:Sp:=λ vs H Q _=>∃(a:Addr) (B:List Nat),vs=[.ref a]/\H a=some (.lst (B.map vN))/\(∀b∈B,b<256)/\Q (.bl true) H
theorem sV:FnScope ["thing"] ["thing"] (defScope iU):=⟨rfl,rfl,rfl,by decide+kernel,rfl,by decide+kernel,by decide+kernel⟩
structure Rows (K:PySem.W.Frag)(mg:Str->Option Value):Prop where
 X:Txt K mg
 whole:∃f fd,Fn K mg "is_whole" bK ["thing","least","most"] f fd
 arewhole:∃f fd,Fn K mg "are_whole" bA ["thing","least","most"] f fd
 isrow:∃f fd,Fn K mg "is_row" iU ["thing"] f fd
theorem qS {f:Addr}{fd:FuncData}(F:Fn K mg "is_row" iU ["thing"] f fd)(Y:Rows K mg):FnOk P w K mg base CX0 3 f fd ["thing"] uy:=by
 obtain⟨T,⟨_,_,W⟩,⟨_,_,AW⟩,_⟩:=Y;have GA:=dm (P:=P) (w:=w) (base:=base) AW W T;obtain⟨tg,hg⟩:=T.great;refine F.F.ok sV (λ vs H Q E h=>?_) (λ cdv A outer s H vs Q E hr h=>?_)
 ·obtain⟨a,B,rfl,_⟩:=h;rfl
 ·obtain⟨a,B,rfl,hB,hb,k⟩:=h;refine⟨_,ag (az (am GA hr (by rfl) AW.m AW.F.kp AW.b .nil ap (aa (pv 0) (aa ae (aa (aK (v:=.int 255) (by rfl) hg ⟨tg,rfl⟩) ad))))),?_⟩;exact⟨_,rfl,a,B,0,255,rfl,hB,λ b z=>by have:=hb b z;lia,k⟩
def spNeedRow:Sp:=λ vs H Q _=>∃(a:Addr) (B:List Nat),vs=[.ref a]/\H a=some (.lst (B.map vN))/\(∀b∈B,b<256)/\∀l,H l=none->Q (.ref l) (upd H l (.lst (B.map vN)))
theorem oq:FnScope ["thing"] ["thing"] (defScope bX):=⟨rfl,rfl,rfl,by decide+kernel,rfl,by decide+kernel,by decide+kernel⟩
theorem c8 {f:Addr}{fd:FuncData}(F:Fn K mg "need_row" bX ["thing"] f fd)(Y:Rows K mg):FnOk P w K mg base CX0 4 f fd ["thing"] spNeedRow:=by
 obtain⟨fR,fdR,R⟩:=Y.isrow;have GR:=qS (P:=P) (w:=w) (base:=base) R Y;have T:=Y.X;refine F.F.ok oq (λ vs H Q E h=>?_) (λ cdv A outer s H vs Q E hr h=>?_)
 ·obtain⟨a,B,rfl,_⟩:=h;rfl
 ·obtain⟨a,B,rfl,hB,hb,k⟩:=h;refine⟨_,ac (aM (cj (cf (am GR hr (by rfl) R.m R.F.kp R.b .nil ap (aa (pv 0) ad)))) (ag aT) aB)
   (ag (az (bj aZ (by rfl) T.list PyProof.Rows.boot_list (aa (pv 0) ad)))),?_⟩
  refine⟨_,rfl,a,B,rfl,hB,hb,_,rfl,bL ?_⟩;exact⟨_,rfl,a,_,rfl,.inl (SqL.of hB),k⟩
def spNeedSize:Sp:=λ vs H Q _=>∃s:Nat,vs=[vN s]/\s≤24/\Q .non H
theorem ll:FnScope ["size"] ["size"] (defScope bP):=⟨rfl,rfl,rfl,by decide+kernel,rfl,by decide+kernel,by decide+kernel⟩
theorem fH {f fW:Addr}{fd fdW:FuncData}(F:Fn K mg "need_size" bP ["size"] f fd)(W:Fn K mg "is_whole" bK ["thing","least","most"] fW fdW)(T:Txt K mg):FnOk P w K mg base CX0 2 f fd ["size"] spNeedSize:=by
 have GW:FnOk P w K mg base CX0 1 fW fdW ["thing","least","most"] eD:=dq W T;obtain⟨tg,hg⟩:=T.most;refine F.F.ok ll (λ vs H Q E h=>?_) (λ cdv A outer s H vs Q E hr h=>?_)
 ·obtain⟨z,rfl,_⟩:=h;rfl
 ·obtain⟨z,rfl,hz,k⟩:=h;refine⟨_,ag (aM (cj (cf (am GW hr (by rfl) W.m W.F.kp W.b .nil ap (aa (pv 0) (aa ae (aa (aK (v:=.int 24) (by rfl) hg ⟨tg,rfl⟩) ad)))))) (ag aT) aB),?_⟩;refine⟨_,rfl,_,_,_,rfl,_,rfl,?_⟩;have e1:(decide ((0:Int)≤(z:Int))&&decide ((z:Int)≤24))=true:=by
   rw [decide_eq_true (by lia),decide_eq_true (by lia)];rfl
  rw [e1];exact bL k
def spOnes:Sp:=λ vs H Q _=>∃s:Nat,vs=[vN s]/\s≤1000/\Q (vN (2^s-1)) H
theorem ve:FnScope ["size"] ["size"] (defScope dR):=⟨rfl,rfl,rfl,by decide+kernel,rfl,by decide+kernel,by decide+kernel⟩
theorem iV {f:Addr}{fd:FuncData}(F:Fn K mg "ones" dR ["size"] f fd):FnOk P w K mg base CX0 1 f fd ["size"] spOnes:=by
 refine F.F.ok ve (λ vs H Q E h=>?_) (λ cdv A outer s H vs Q E hr h=>?_)
 ·obtain⟨z,rfl,_⟩:=h;rfl
 ·obtain⟨z,rfl,hz,k⟩:=h;refine⟨_,ag (az (ai aY (ai cQ ae (pv 0)) ae)),?_⟩;refine⟨_,rfl,_,_,rfl,rfl,⟨by lia,by lia,by decide⟩,_,_,rfl,rfl,?_⟩;have e1:(1:Int)*2^((z:Nat):Int).toNat-1=((2^z-1:Nat):Int):=by
   have:=BP.pow_pos2 z;rw [Int.toNat_natCast,Int.one_mul];have e2:((2^z:Nat):Int)=(2:Int)^z:=by simp
   lia
  dsimp only;rw [e1];exact k
end
theorem jU (a b k:Nat)(h:b<2^k):(a*2^k)&&& b=0:=by
 have e1:b&&& (2^k-1)=b:=by rw [Nat.and_two_pow_sub_one_eq_mod,Nat.mod_eq_of_lt h]
 have e2:(a*2^k)&&& (2^k-1)=0:=by rw [Nat.and_two_pow_sub_one_eq_mod,Nat.mul_mod_left]
 have e3:(a*2^k)&&& (b&&& (2^k-1))=((a*2^k)&&& (2^k-1))&&& b:=by rw [Nat.and_comm b,Nat.and_assoc]
 rw [e1,e2,Nat.zero_and] at e3;exact e3
theorem gM (k:Nat):((2^k:Nat):Int)=(2:Int)^k:=by simp
theorem lU (a b k:Nat)(h:b<2^k):Builtin.bitOr ((a:Int)*2^((k:Nat):Int).toNat) (b:Int)=((a*2^k+b:Nat):Int):=by
 have e0:(a:Int)*2^((k:Nat):Int).toNat=((a*2^k:Nat):Int):=by rw [Int.toNat_natCast,Int.natCast_mul,gM]
 rw [e0,PyProof.Rows.bitOr_and,PyProof.Rows.bitAnd_pp (by lia) (by lia),Int.toNat_natCast,Int.toNat_natCast,jU a b k h];lia
theorem jN (x k:Nat):Builtin.bitAnd (x:Int) ((2^k-1:Nat):Int)=((x%2^k:Nat):Int):=by
 rw [PyProof.Rows.bitAnd_pp (by lia) (by lia),Int.toNat_natCast,Int.toNat_natCast,Nat.and_two_pow_sub_one_eq_mod]
theorem nL (x k:Nat):(x:Int)/2^((k:Nat):Int).toNat=((x/2^k:Nat):Int):=by
 rw [Int.toNat_natCast,<-gM];rfl
theorem sT (x k:Nat):(x:Int)*2^((k:Nat):Int).toNat=((x*2^k:Nat):Int):=by
 rw [Int.toNat_natCast,Int.natCast_mul,gM]
theorem ua {B:List Nat}{m n:Nat}(hm:m≤n)(hn:n≤B.length):cutV (B.map vN) (some (m:Int)) (some (n:Int))=((B.take n).drop m).map vN:=by
 unfold cutV;rw [HT.sIx_nat,HT.sIx_nat,List.length_map,Nat.min_eq_left hn,Nat.min_eq_left (Nat.le_trans hm hn),List.map_drop,List.map_take,List.drop_take]
section
variable {P : Program} {w : World} {K : PySem.W.Frag} {mg : Str -> Option Value} {base : Heap}
def ka:Sp:=λ vs H Q _=>∃(a:Addr) (B:List Nat) (p s:Nat),vs=[.ref a,vN p,vN s]/\H a=some (.lst (B.map vN))/\(∀b∈B,b<256)/\p+s≤8*B.length/\s≤24/\
 ∀H',Same H H'->Q (vN (BP.val B/2^(8*B.length-(p+s))%2^s)) H'
theorem scBitsAt:FnScope ["row","place","size","end","bytes_to_end","number","byte"] ["row","place","size"] (defScope dH):=⟨rfl,rfl,rfl,by decide+kernel,rfl,by decide+kernel,by decide+kernel⟩
theorem oJ {f fO:Addr}{fd fdO:FuncData}(F:Fn K mg "bits_at" dH ["row","place","size"] f fd)(O:Fn K mg "ones" dR ["size"] fO fdO)(T:Txt K mg):FnOk P w K mg base CX0 2 f fd ["row","place","size"] ka:=by
 have GO:FnOk P w K mg base CX0 1 fO fdO ["size"] spOnes:=iV O;refine F.F.ok scBitsAt (λ vs H Q E h=>?_) (λ cdv A outer st H vs Q E hr h=>?_)
 ·obtain⟨a,B,p,s,rfl,_⟩:=h;rfl
 ·obtain⟨a,B,p,s,rfl,hB,hb,hps,hs,k⟩:=h;refine⟨_,ac (aj (i:=3) scBitsAt.nd rfl (Or.inl rfl) (ai aA (pv 1) (pv 2)))
   (ac (aj (i:=4) scBitsAt.nd rfl (Or.inl rfl) (ai a8 (ai aA (pv 3) ae) ae))
   (ac (aj (i:=5) scBitsAt.nd rfl (Or.inl rfl) ae)
   (ac (aS PassesOwn.never rfl (bf (cT fU (pv 0) (cN (ai a8 (pv 1) ae)) (cN (pv 4)))) (aF (i:=6) scBitsAt.nd rfl (Or.inl rfl))
    (ag (aj (i:=5) scBitsAt.nd rfl (Or.inl rfl) (ai rL (ai cQ (pv 5) ae) (pv 6)))))
   (ag (az (ai qY (ai li (pv 5) (ai aY (ai cy ae (pv 4)) (pv 3))) (am GO hr (by rfl) O.m O.F.kp O.b .nil ap (aa (pv 2) ad)))))))),?_⟩
  refine⟨_,rfl,_,rfl,_,_,rfl,rfl,?_⟩;refine⟨_,rfl,_,_,rfl,rfl,_,_,rfl,rfl,⟨by decide,by decide⟩,?_⟩;have e1:((p:Int)+(s:Int)+7)/8=(((p+s+7)/8:Nat):Int):=by lia
  have e2:(p:Int)/8=((p/8:Nat):Int):=by lia
  have e3:(p:Int)+(s:Int)=((p+s:Nat):Int):=by lia
  have h1:p/8≤(p+s+7)/8:=by lia
  have h2:(p+s+7)/8≤B.length:=by lia
  try dsimp only
  rw [e1,e3];refine⟨_,rfl,_,rfl,_,_,rfl,rfl,⟨by decide,by decide⟩,_,rfl,_,rfl,_,rfl,a,_,rfl,SqL.of hB,λ l hl=>?_⟩
  try dsimp only
  rw [e2,ua h1 h2];have hc:∀b∈(B.take ((p+s+7)/8)).drop (p/8),b<256:=λ b hb'=>hb b (List.mem_of_mem_take (List.mem_of_mem_drop hb'))
  have hcl:((B.take ((p+s+7)/8)).drop (p/8)).length≤4:=by rw [List.length_drop,List.length_take];lia
  have key:=BP.bits_cut hb hps;generalize (B.take ((p+s+7)/8)).drop (p/8)=C at*;have sm:Same H (upd H l (.lst (C.map vN))):=λ b o e=>by rw [upd_ne (af e hl)];exact e
  refine⟨l,rfl,⟨_,SqL.of upd_same⟩,bE (D:=⟨_,_,λ _ _=>False,λ _ _=>False⟩) (K:=K) (a:=l) (xs:=C.map vN) (λ i σ H2=>∃v:Option V,σ=[some (.ref a),some (vN p),some (vN s),some (vN (p+s)),some (vN ((p+s+7)/8)),some (vN (BP.val (C.take i))),v]/\H2=upd H l (.lst (C.map vN)))
   ⟨none,rfl,rfl⟩ (λ i σ H2 _ ⟨_,_,e⟩=>by rw [e];exact SqL.of upd_same) ?_ ?_⟩
  ·rintro i y σ H2 hi ⟨v,rfl,rfl⟩;obtain⟨b,hb1,rfl⟩:=cm hi;have hb2:b<256:=hc b (List.mem_of_getElem? hb1);have hil:i<C.length:=(List.getElem?_eq_some_iff.mp hb1).1;have hv:BP.val (C.take i)<256^(C.take i).length:=BP.val_lt λ b hb'=>hc b (List.mem_of_mem_take hb')
   have hv2:BP.val (C.take i)<256^4:=Nat.lt_of_lt_of_le hv (Nat.pow_le_pow_right (by decide) (by rw [List.length_take];lia));refine⟨_,rfl,_,_,rfl,rfl,⟨by decide,by decide,?_⟩,_,rfl,_,_,rfl,rfl,?_⟩
   ·have:(256:Nat)^4<2^64:=by decide
    lia
   ·have e:=lU (BP.val (C.take i)) b 8 hb2;have e':BP.val (C.take i)*2^8+b=BP.val (C.take (i+1)):=by rw [dv hb1,BP.val_snoc]
    try dsimp only
    rw [e'] at e;exact⟨some (vN b),congrArg (λ z:Int=>[some (V.ref a),some (vN p),some (vN s),some (vN (p+s)),some (vN ((p+s+7)/8)),some (V.int z),some (vN b)]) e,rfl⟩
  ·rintro σ H2 ⟨v,rfl,rfl⟩
   try dsimp only
   rw [List.length_map,List.take_length];have e4:(8:Int)*(((p+s+7)/8:Nat):Int)-((p+s:Nat):Int)=((8*((p+s+7)/8)-(p+s):Nat):Int):=by lia
   refine⟨_,rfl,_,rfl,_,_,rfl,rfl,.inl ⟨by decide,by decide⟩,_,rfl,_,_,rfl,rfl,?_⟩
   try dsimp only
   rw [e4];refine⟨_,_,rfl,rfl,by lia,_,rfl,s,rfl,by lia,_,_,rfl,rfl,?_⟩
   try dsimp only
   rw [nL,jN,key];exact k _ sm
end
theorem qC:¬(("whole_bytes":Str)="rest"):=by decide+kernel
theorem uA:¬(("whole_bytes":Str)="rest_size"):=by decide+kernel
theorem sW:¬(("rest":Str)="rest_size"):=by decide+kernel
def fW (d:Addr)(r k:Nat):List (Str×V):=[("whole_bytes",.ref d),("rest",vN r),("rest_size",vN k)]
theorem uQ (d:Addr):putF "rest_size" (.int 0) (putF "rest" (.int 0) (putF "whole_bytes" (.ref d) []))=fW d 0 0:=by
 show(putF "rest_size" (.int 0) (if("whole_bytes":Str)="rest" then _ else(("whole_bytes":Str),V.ref d):: [("rest",V.int 0)]))=_;rw [if_neg qC];show(if("whole_bytes":Str)="rest_size" then _ else(("whole_bytes":Str),V.ref d)::(if("rest":Str)="rest_size" then _ else(("rest":Str),V.int 0):: [("rest_size",V.int 0)]))=_;rw [if_neg uA,if_neg sW];rfl
theorem nn (d:Addr)(r k r':Nat):putF "rest" (vN r') (fW d r k)=fW d r' k:=by
 show(if("whole_bytes":Str)="rest" then _ else(("whole_bytes":Str),V.ref d)::(if("rest":Str)="rest" then(("rest":Str),vN r'):: [("rest_size",vN k)] else _))=_;rw [if_neg qC,if_pos rfl];rfl
theorem mE (d:Addr)(r k k':Nat):putF "rest_size" (vN k') (fW d r k)=fW d r k':=by
 show(if("whole_bytes":Str)="rest_size" then _ else(("whole_bytes":Str),V.ref d)::(if("rest":Str)="rest_size" then _ else(("rest":Str),vN r)::(if("rest_size":Str)="rest_size" then [(("rest_size":Str),vN k')] else _)))=_;rw [if_neg uA,if_neg sW,if_pos rfl];rfl
theorem mD (d:Addr)(r k:Nat):fW d r k=putF "rest_size" (vN k) (putF "rest" (vN r) (putF "whole_bytes" (.ref d) [])):=by
 have h:=uQ d;have h2:putF "rest" (vN r) (putF "whole_bytes" (.ref d) [])=[(("whole_bytes":Str),V.ref d),("rest",vN r)]:=by
  show(if("whole_bytes":Str)="rest" then _ else(("whole_bytes":Str),V.ref d):: [("rest",vN r)])=_;rw [if_neg qC]
 rw [h2];show _=(if("whole_bytes":Str)="rest_size" then _ else(("whole_bytes":Str),V.ref d)::(if("rest":Str)="rest_size" then _ else(("rest":Str),vN r):: [("rest_size",vN k)]));rw [if_neg uA,if_neg sW];rfl
theorem gp (d:Addr)(r k:Nat):(fW d r k).lookup ("whole_bytes":Str)=some (.ref d):=by
 rw [mD,aG,if_neg uA,aG,if_neg qC,aG,if_pos rfl]
theorem eE (d:Addr)(r k:Nat):(fW d r k).lookup ("rest":Str)=some (vN r):=by
 rw [mD,aG,if_neg sW,aG,if_pos rfl]
theorem cv (d:Addr)(r k:Nat):(fW d r k).lookup ("rest_size":Str)=some (vN k):=by
 rw [mD,aG,if_pos rfl]
theorem dP (d:Addr)(r k:Nat){m:Str}(h1:¬m="rest_size")(h2:¬m="rest")(h3:¬m="whole_bytes"):(fW d r k).lookup m=none:=by
 rw [mD,aG,if_neg h1,aG,if_neg h2,aG,if_neg h3];rfl
theorem jr (d:Addr)(r k:Nat):(fW d r k).length<1000:=by show 3<1000;decide
def BitsAt (C:Addr)(H:Hp)(p d:Addr)(N T:Nat):Prop:=∃(dx:Addr) (B:List Nat) (r k:Nat),H p=some (.ins C dx (fW d r k))/\H d=some (.lst (B.map vN))/\BP.BR N T B r k/\k<8
structure CB (K:PySem.W.Frag)(mg:Str->Option Value)(C:Addr):Prop where
 cl:Cls K C
 nW:NoAttr K C "whole_bytes"
 nR:NoAttr K C "rest"
 nS:NoAttr K C "rest_size"
section
variable {P : Program} {w : World} {K : PySem.W.Frag} {mg : Str -> Option Value} {base : Heap} {C : Addr}
def tU (C:Addr):Sp:=λ vs H Q _=>∃(p dx:Addr),vs=[.ref p]/\H p=some (.ins C dx [])/\∀(d:Addr) (H':Hp),H d=none->BitsAt C H' p d 0 0->(∀b o,H b=some o->b≠p->H' b=some o)->Q .non H'
theorem sU:FnScope ["self"] ["self"] (defScope jw):=⟨rfl,rfl,rfl,by decide+kernel,rfl,by decide+kernel,by decide+kernel⟩
theorem gU {f:Addr}{fd:FuncData}(F:Fun K "__init__" "BitRow.__init__" jw f fd)(T:CB K mg C):FnOk P w K mg base CX0 1 f fd ["self"] (tU C):=by
 refine F.ok sU (λ vs H Q E h=>?_) (λ cdv A outer s H vs Q E hr h=>?_)
 ·obtain⟨p,dx,rfl,_⟩:=h;rfl
 ·obtain⟨p,dx,rfl,hp,k⟩:=h;refine⟨_,ac (cg (pv 0) (aV ad) rfl) (ac (cg (pv 0) ae rfl) (ag (cg (pv 0) ae rfl))),?_⟩;refine⟨Nat.zero_le _,λ d hd=>?_⟩;have npd:p≠d:=af hp hd;refine⟨_,rfl,p,C,dx,[],rfl,(by rw [upd_ne npd];exact hp),T.cl,T.nW,(by show 0<1000;decide),_,rfl,p,C,dx,_,rfl,upd_same,T.cl,T.nR,(by show 1<1000;decide),?_⟩;refine⟨_,rfl,p,C,dx,_,rfl,upd_same,T.cl,T.nS,?_,?_⟩
  ·show(if("whole_bytes":Str)="rest" then _ else(("whole_bytes":Str),V.ref d):: [("rest",V.int 0)]).length<1000
   try dsimp only
   rw [if_neg qC];show 2<1000;decide
  refine k d _ hd ⟨dx,[],0,0,Eq.trans upd_same (congrArg (λ l=>some (HO.ins C dx l)) (uQ d)),by rw [upd_ne npd.symm,upd_ne npd.symm,upd_ne npd.symm,upd_same];rfl,BP.BR.init,by decide⟩ λ b o e hb=>?_
  rw [upd_ne hb,upd_ne hb,upd_ne hb,upd_ne (af e hd)];exact e
def spMove (C:Addr):Sp:=λ vs H Q _=>∃(p d dx:Addr) (B:List Nat) (r k:Nat),vs=[.ref p]/\H p=some (.ins C dx (fW d r (k+8)))/\H d=some (.lst (B.map vN))/\B.length≤1000/\k≤100/\
 ∀H',H' p=some (.ins C dx (fW d (r%2^k) k))->H' d=some (.lst ((B++[r/2^k]).map vN))->(∀c o,H c=some o->c≠p->c≠d->H' c=some o)->Q .non H'
theorem wp:FnScope ["self"] ["self"] (defScope kR):=⟨rfl,rfl,rfl,by decide+kernel,rfl,by decide+kernel,by decide+kernel⟩
theorem tq {f fO:Addr}{fd fdO:FuncData}(F:Fun K "move_byte" "BitRow.move_byte" kR f fd)(O:Fn K mg "ones" dR ["size"] fO fdO)(T:CB K mg C):FnOk P w K mg base CX0 2 f fd ["self"] (spMove C):=by
 have GO:FnOk P w K mg base CX0 1 fO fdO ["size"] spOnes:=iV O;refine F.ok wp (λ vs H Q E h=>?_) (λ cdv A outer s H vs Q E hr h=>?_)
 ·obtain⟨p,d,dx,B,r,k,rfl,_⟩:=h;rfl
 ·obtain⟨p,d,dx,B,r,k,rfl,hp,hd,hB,hk,q⟩:=h;have npd:p≠d:=ne_of hp hd (by intro z;cases z);refine⟨_,ac (cg (pv 0) (ai aY (aR (pv 0) rfl) ae) rfl)
   (ac (aD (b7 PySem.F.plainAttrs_list PySem.F.slot_list_append PySem.F.type_list_append aO (aR (pv 0) rfl) (aa (ai li (aR (pv 0) rfl) (aR (pv 0) rfl)) ad)))
   (ag (cg (pv 0) (ai qY (aR (pv 0) rfl) (am GO hr (by rfl) O.m O.F.kp O.b .nil ap (aa (aR (pv 0) rfl) ad))) rfl))),?_⟩
  have e1:(((k+8:Nat)):Int)-8=(k:Int):=by lia
  refine⟨_,rfl,p,C,dx,_,_,rfl,hp,T.cl,T.nS,cv _ _ _,_,_,rfl,rfl,_,rfl,p,C,dx,_,rfl,hp,T.cl,T.nS,jr _ _ _,?_⟩
  try dsimp only
  rw [e1,mE];have hp1:(upd H p (.ins C dx (fW d r k))) p=some (.ins C dx (fW d r k)):=upd_same;have hd1:(upd H p (.ins C dx (fW d r k))) d=some (.lst (B.map vN)):=by rw [upd_ne npd.symm];exact hd
  refine⟨_,rfl,p,C,dx,_,_,rfl,hp1,T.cl,T.nW,gp _ _ _,.inl ⟨rfl,_,SqL.of hd1⟩,?_⟩;refine⟨_,rfl,p,C,dx,_,_,rfl,hp1,T.cl,T.nR,eE _ _ _,_,rfl,p,C,dx,_,_,rfl,hp1,T.cl,T.nS,cv _ _ _,_,_,rfl,rfl,by lia,?_⟩;refine⟨d,_,_,rfl,rfl,hd1,iw (by rw [List.length_map];exact hB),?_⟩
  try dsimp only
  rw [nL];generalize hH2:upd (upd H p (.ins C dx (fW d r k))) d (.lst (B.map vN++[vN (r/2^k)]))=H2;have hp2:H2 p=some (.ins C dx (fW d r k)):=by rw [<-hH2,upd_ne npd];exact hp1
  have hd2:H2 d=some (.lst ((B++[r/2^k]).map vN)):=by rw [<-hH2,upd_same,List.map_append];rfl
  have oth:∀c o,H c=some o->c≠p->c≠d->H2 c=some o:=λ c o e n1 n2=>by rw [<-hH2,upd_ne n2,upd_ne n1];exact e
  refine⟨_,rfl,p,C,dx,_,_,rfl,hp2,T.cl,T.nR,eE _ _ _,_,rfl,p,C,dx,_,_,rfl,hp2,T.cl,T.nS,cv _ _ _,k,rfl,by lia,_,_,rfl,rfl,?_⟩
  try dsimp only
  rw [jN];refine⟨_,rfl,p,C,dx,_,rfl,hp2,T.cl,T.nR,jr _ _ _,?_⟩
  try dsimp only
  rw [nn];refine q _ upd_same (by rw [upd_ne npd.symm];exact hd2) λ c o e n1 n2=>?_
  rw [upd_ne n1];exact oth c o e n1 n2
def wV (C:Addr):Sp:=λ vs H Q _=>∃(p d:Addr) (N T n s:Nat),vs=[.ref p,vN n,vN s]/\BitsAt C H p d N T/\T≤4000/\s≤24/\n<2^s/\
 ∀H',BitsAt C H' p d (N*2^s+n) (T+s)->(∀c o,H c=some o->c≠p->c≠d->H' c=some o)->Q .non H'
theorem xa:FnScope ["self","number","size"] ["self","number","size"] (defScope uk):=⟨rfl,rfl,rfl,by decide+kernel,rfl,by decide+kernel,by decide+kernel⟩
theorem lV {f fO fW' fS fM:Addr}{fd fdO fdW fdS fdM:FuncData}(F:Fun K "put" "BitRow.put" uk f fd)(S:Fn K mg "need_size" bP ["size"] fS fdS)(W:Fn K mg "is_whole" bK ["thing","least","most"] fW' fdW)
  (O:Fn K mg "ones" dR ["size"] fO fdO) (M:Me K C "move_byte" "BitRow.move_byte" kR ["self"] fM fdM) (T:CB K mg C) (X:Txt K mg):FnOk P w K mg base CX0 3 f fd ["self","number","size"] (wV C):=by
 have GO:FnOk P w K mg base CX0 1 fO fdO ["size"] spOnes:=iV O;have GW:FnOk P w K mg base CX0 1 fW' fdW ["thing","least","most"] eD:=dq W X;have GS:FnOk P w K mg base CX0 2 fS fdS ["size"] spNeedSize:=fH S W X;have GM:FnOk P w K mg base CX0 2 fM fdM ["self"] (spMove C):=tq M.F O T;refine F.ok xa (λ vs H Q E h=>?_) (λ cdv A outer st H vs Q E hr h=>?_)
 ·obtain⟨p,d,N,T',n,s,rfl,_⟩:=h;rfl
 ·obtain⟨p,d,N,T',n,s,rfl,⟨dx,B,r,k,hp,hd,br,hk8⟩,hT,hs,hn,q⟩:=h;have npd:p≠d:=ne_of hp hd (by intro z;cases z);have hr1:Room 1 _:=hr.mono (by decide);refine⟨_,ac (aD (am GS hr (by rfl) S.m S.F.kp S.b .nil ap (aa (pv 2) ad)))
   (ac (aM (cj (cf (am GW hr1 (by rfl) W.m W.F.kp W.b .nil ap (aa (pv 1) (aa ae (aa (am GO hr1 (by rfl) O.m O.F.kp O.b .nil ap (aa (pv 2) ad)) ad)))))) (ag aT) aB)
   (ac (cg (pv 0) (ai rL (ai cQ (aR (pv 0) rfl) (pv 2)) (pv 1)) rfl)
   (ac (cg (pv 0) (ai aA (aR (pv 0) rfl) (pv 2)) rfl)
   (ag (bF PassesOwn.never (ar rm (aR (pv 0) rfl) ae (ax _)) (ag (aD (bi (pv 0) T.cl M.m GM hr M.b .nil ap)))))))),?_⟩
  refine⟨_,rfl,s,rfl,hs,?_⟩;refine⟨_,rfl,_,rfl,s,rfl,by lia,_,_,_,rfl,_,rfl,?_⟩;have e1:(decide ((0:Int)≤(n:Int))&&decide ((n:Int)≤((2^s-1:Nat):Int)))=true:=by
   rw [decide_eq_true (by lia),decide_eq_true (by lia)];rfl
  try dsimp only
  rw [e1];refine bL ?_;have hr128:r<128:=Nat.lt_of_lt_of_le br.low ((Nat.pow_le_pow_right (by decide) (by lia):2^k≤2^7));refine⟨_,rfl,p,C,dx,_,_,rfl,hp,T.cl,T.nR,eE _ _ _,_,rfl,_,_,rfl,rfl,⟨by lia,by lia,by lia⟩,_,rfl,_,_,rfl,rfl,?_⟩
  try dsimp only
  rw [lU r n s hn];refine⟨_,rfl,p,C,dx,_,rfl,hp,T.cl,T.nR,jr _ _ _,?_⟩
  try dsimp only
  rw [nn];have hp1:∀o,(upd H p o) p=some o:=λ _=>upd_same
  refine⟨_,rfl,p,C,dx,_,_,rfl,hp1 _,T.cl,T.nS,cv _ _ _,_,rfl,_,_,rfl,rfl,_,rfl,p,C,dx,_,rfl,hp1 _,T.cl,T.nS,jr _ _ _,?_⟩;have e2:(k:Int)+(s:Int)=((k+s:Nat):Int):=by lia
  try dsimp only
  rw [e2,mE];have br1:=br.put hn;generalize hH1:upd (upd H p (.ins C dx (fW d (r*2^s+n) k))) p (.ins C dx (fW d (r*2^s+n) (k+s)))=H1;have hpA:H1 p=some (.ins C dx (fW d (r*2^s+n) (k+s))):=by rw [<-hH1];exact upd_same
  have hdA:H1 d=some (.lst (B.map vN)):=by rw [<-hH1,upd_ne npd.symm,upd_ne npd.symm];exact hd
  have oth:∀c o,H c=some o->c≠p->c≠d->H1 c=some o:=λ c o e n1 _=>by rw [<-hH1,upd_ne n1,upd_ne n1];exact e
  refine⟨λ m σ H2=>σ=[some (.ref p),some (vN n),some (vN s)]/\∃B2 r2,H2 p=some (.ins C dx (fW d r2 m))/\H2 d=some (.lst (B2.map vN))/\BP.BR (N*2^s+n) (T'+s) B2 r2 m/\m≤40/\(∀c o,H c=some o->c≠p->c≠d->H2 c=some o),
   ⟨k+s,rfl,B,_,hpA,hdA,br1,by lia,oth⟩,?_⟩
  rintro m σ H2 ⟨rfl,B2,r2,hp2,hd2,br2,hm,oth2⟩;refine⟨_,rfl,p,C,dx,_,_,rfl,hp2,T.cl,T.nS,cv _ _ _,_,_,rfl,rfl,_,rfl,?_⟩;refine aJ (λ h1=>?_) (λ h1=>?_)
  ·have h8:8≤m:=by have:=of_decide_eq_true h1;lia
   obtain⟨m',rfl⟩:∃m',m=m'+8:=⟨m-8,by lia⟩;have hBl:B2.length≤1000:=by have:=br2.tot;lia
   refine⟨_,λ σ' H' h=>h,_,rfl,p,dx,_,rfl,hp2,dP _ _ _ (by decide+kernel) (by decide+kernel) (by decide+kernel),p,d,dx,B2,r2,m',rfl,hp2,hd2,hBl,by lia,λ H3 hp3 hd3 oth3=>?_⟩;exact⟨m',by lia,rfl,_,_,hp3,hd3,br2.move,by lia,λ c o e n1 n2=>oth3 c o (oth2 c o e n1 n2) n1 n2⟩
  ·have h8:m<8:=by
    have h1':decide ((8:Int)≤(m:Int))≠true:=h1;by_cases h:(8:Int)≤(m:Int)
    ·exact absurd (decide_eq_true h) h1'
    ·lia
   exact q H2 ⟨dx,B2,r2,m,hp2,hd2,br2,h8⟩ oth2
def vt (C:Addr):Sp:=λ vs H Q _=>∃(p d:Addr) (N T:Nat),vs=[.ref p]/\BitsAt C H p d N T/\Q (vN T) H
theorem vH:FnScope ["self"] ["self"] (defScope nA):=⟨rfl,rfl,rfl,by decide+kernel,rfl,by decide+kernel,by decide+kernel⟩
theorem ju {f:Addr}{fd:FuncData}(F:Fun K "many" "BitRow.many" nA f fd)(T:CB K mg C)(X:Txt K mg):FnOk P w K mg base CX0 1 f fd ["self"] (vt C):=by
 refine F.ok vH (λ vs H Q E h=>?_) (λ cdv A outer st H vs Q E hr h=>?_)
 ·obtain⟨p,d,N,T',rfl,_⟩:=h;rfl
 ·obtain⟨p,d,N,T',rfl,⟨dx,B,r,k,hp,hd,br,hk8⟩,q⟩:=h;refine⟨_,ag (az (ai aA (ai cy ae (aq ao (by rfl) X.len PySem.boot_len (aa (aR (pv 0) rfl) ad))) (aR (pv 0) rfl))),?_⟩;refine⟨_,rfl,p,C,dx,_,_,rfl,hp,T.cl,T.nW,gp _ _ _,d,_,rfl,.inl (SqL.of hd),_,_,rfl,rfl,.inl ⟨by decide,by decide⟩,?_⟩;refine⟨_,rfl,p,C,dx,_,_,rfl,hp,T.cl,T.nS,cv _ _ _,_,_,rfl,rfl,?_⟩;have e:(8:Int)*((B.map vN).length:Int)+(k:Int)=(T':Int):=by rw [List.length_map,br.tot];lia
  try dsimp only
  rw [e];exact q
def qL (C:Addr):Sp:=λ vs H Q _=>∃(p d:Addr) (N T:Nat),vs=[.ref p]/\BitsAt C H p d N T/\T≤4000/\∀(l:Addr) (R:List Nat) (H':Hp),H l=none->H' l=some (.lst (R.map vN))->BP.RowOf N T R->Same H H'->Q (.ref l) H'
theorem scRowOut:FnScope ["self","told"] ["self"] (defScope gg):=⟨rfl,rfl,rfl,by decide+kernel,rfl,by decide+kernel,by decide+kernel⟩
theorem iC {f:Addr}{fd:FuncData}(F:Fun K "row" "BitRow.row" gg f fd)(T:CB K mg C)(X:Txt K mg):FnOk P w K mg base CX0 1 f fd ["self"] (qL C):=by
 refine F.ok scRowOut (λ vs H Q E h=>?_) (λ cdv A outer st H vs Q E hr h=>?_)
 ·obtain⟨p,d,N,T',rfl,_⟩:=h;rfl
 ·obtain⟨p,d,N,T',rfl,⟨dx,B,r,k,hp,hd,br,hk8⟩,hT,q⟩:=h;refine⟨_,ac (aj (i:=1) scRowOut.nd rfl (Or.inl rfl) (bj aZ (by rfl) X.list PyProof.Rows.boot_list (aa (aR (pv 0) rfl) ad)))
   (ac (aM (ar cz (aR (pv 0) rfl) ae (ax _))
    (ag (aD (b7 PySem.F.plainAttrs_list PySem.F.slot_list_append PySem.F.type_list_append aO (pv 1) (aa (ai cQ (aR (pv 0) rfl) (ai aY ae (aR (pv 0) rfl))) ad)))) aB)
   (ag (az (pv 1)))),?_⟩
  refine⟨_,rfl,p,C,dx,_,_,rfl,hp,T.cl,T.nW,gp _ _ _,d,_,rfl,.inl (SqL.of hd),λ l hl=>?_⟩;have npl:p≠l:=af hp hl;have hp1:(upd H l (.lst (B.map vN))) p=some (.ins C dx (fW d r k)):=by rw [upd_ne npl];exact hp
  refine⟨_,rfl,p,C,dx,_,_,rfl,hp1,T.cl,T.nS,cv _ _ _,_,_,rfl,rfl,_,rfl,?_⟩;refine aJ (λ h1=>?_) (λ h1=>?_)
  ·have h0:0<k:=by have:=of_decide_eq_true h1;lia
   have hr128:r<128:=Nat.lt_of_lt_of_le br.low ((Nat.pow_le_pow_right (by decide) (by lia):2^k≤2^7));have hBl:B.length≤1000:=by have:=br.tot;lia
   have e1:(8:Int)-(k:Int)=((8-k:Nat):Int):=by lia
   refine⟨_,rfl,.inl ⟨rfl,_,SqL.of upd_same⟩,_,rfl,p,C,dx,_,_,rfl,hp1,T.cl,T.nR,eE _ _ _,_,rfl,p,C,dx,_,_,rfl,hp1,T.cl,T.nS,cv _ _ _,_,_,rfl,rfl,?_⟩
   try dsimp only
   rw [e1];refine⟨_,_,rfl,rfl,⟨by lia,by lia,by lia⟩,l,_,_,rfl,rfl,upd_same,iw (by rw [List.length_map];exact hBl),_,rfl,?_⟩
   try dsimp only
   rw [sT];refine q l (B++[r*2^(8-k)]) _ hl (by rw [upd_same,List.map_append];rfl) (br.row1 h0 hk8) λ b o e=>?_
   rw [upd_ne (af e hl),upd_ne (af e hl)];exact e
  ·have h0:k=0:=by
    have h1':decide ((0:Int)<(k:Int))≠true:=h1;by_cases h:(0:Int)<(k:Int)
    ·exact absurd (decide_eq_true h) h1'
    ·lia
   subst h0;refine⟨_,rfl,?_⟩;refine q l B _ hl upd_same br.row0 λ b o e=>?_
   rw [upd_ne (af e hl)];exact e
end
theorem wj:¬(("held":Str)="taken"):=by decide+kernel
def fR (d:Addr)(t:Nat):List (Str×V):=[("held",.ref d),("taken",vN t)]
theorem mQ (d:Addr)(t:Nat):putF "taken" (vN t) (putF "held" (.ref d) [])=fR d t:=by
 show(if("held":Str)="taken" then _ else(("held":Str),V.ref d):: [("taken",vN t)])=_;rw [if_neg wj];rfl
theorem qd (d:Addr)(t t':Nat):putF "taken" (vN t') (fR d t)=fR d t':=by
 show(if("held":Str)="taken" then _ else(("held":Str),V.ref d)::(if("taken":Str)="taken" then [(("taken":Str),vN t')] else _))=_;rw [if_neg wj,if_pos rfl];rfl
theorem gl (d:Addr)(t:Nat):(fR d t).lookup ("held":Str)=some (.ref d):=by
 rw [<-mQ,aG,if_neg wj,aG,if_pos rfl]
theorem eW (d:Addr)(t:Nat):(fR d t).lookup ("taken":Str)=some (vN t):=by
 rw [<-mQ,aG,if_pos rfl]
theorem eu (d:Addr)(t:Nat){m:Str}(h1:¬m="taken")(h2:¬m="held"):(fR d t).lookup m=none:=by
 rw [<-mQ,aG,if_neg h1,aG,if_neg h2];rfl
theorem qJ (d:Addr)(t:Nat):(fR d t).length<1000:=by show 2<1000;decide
structure ReadAt (C:Addr)(H:Hp)(p d:Addr)(R:List Nat)(t:Nat):Prop where
 ob:∃dx,H p=some (.ins C dx (fR d t))
 ls:H d=some (.lst (R.map vN))
 by':∀b∈R,b<256
 le:t≤8*R.length
structure CRd (K:PySem.W.Frag)(mg:Str->Option Value)(C:Addr):Prop where
 cl:Cls K C
 nH:NoAttr K C "held"
 nT:NoAttr K C "taken"
section
variable {P : Program} {w : World} {K : PySem.W.Frag} {mg : Str -> Option Value} {base : Heap} {C : Addr}
def sH (C:Addr):Sp:=λ vs H Q _=>∃(p dx a:Addr) (R:List Nat),vs=[.ref p,.ref a]/\H p=some (.ins C dx [])/\H a=some (.lst (R.map vN))/\(∀b∈R,b<256)/\
 ∀(d:Addr) (H':Hp),H d=none->ReadAt C H' p d R 0->(∀b o,H b=some o->b≠p->H' b=some o)->Q .non H'
theorem sj:FnScope ["self","row"] ["self","row"] (defScope iT):=⟨rfl,rfl,rfl,by decide+kernel,rfl,by decide+kernel,by decide+kernel⟩
theorem qh {f fN:Addr}{fd fdN:FuncData}(F:Fun K "__init__" "BitReader.__init__" iT f fd)(N:Fn K mg "need_row" bX ["thing"] fN fdN)(Y:Rows K mg)(T:CRd K mg C):FnOk P w K mg base CX0 5 f fd ["self","row"] (sH C):=by
 have GN:FnOk P w K mg base CX0 4 fN fdN ["thing"] spNeedRow:=c8 N Y;refine F.ok sj (λ vs H Q E h=>?_) (λ cdv A outer st H vs Q E hr h=>?_)
 ·obtain⟨p,dx,a,R',rfl,_⟩:=h;rfl
 ·obtain⟨p,dx,a,R',rfl,hp,ha,hb,k⟩:=h;refine⟨_,ac (cg (pv 0) (am GN hr (by rfl) N.m N.F.kp N.b .nil ap (aa (pv 1) ad)) rfl) (ag (cg (pv 0) ae rfl)),?_⟩;refine⟨_,rfl,a,R',rfl,ha,hb,λ d hd=>?_⟩;have npd:p≠d:=af hp hd;refine⟨_,rfl,p,C,dx,[],rfl,(by rw [upd_ne npd];exact hp),T.cl,T.nH,(by show 0<1000;decide),_,rfl,p,C,dx,_,rfl,upd_same,T.cl,T.nT,(by show 1<1000;decide),?_⟩;refine k d _ hd ⟨⟨dx,Eq.trans upd_same (congrArg (λ l=>some (HO.ins C dx l)) (mQ d 0))⟩,by rw [upd_ne npd.symm,upd_ne npd.symm,upd_same],hb,Nat.zero_le _⟩ λ b o e hb=>?_
  rw [upd_ne hb,upd_ne hb,upd_ne (af e hd)];exact e
def spLeft (C:Addr):Sp:=λ vs H Q _=>∃(p d:Addr) (R:List Nat) (t:Nat),vs=[.ref p]/\ReadAt C H p d R t/\Q (vN (8*R.length-t)) H
theorem uT:FnScope ["self"] ["self"] (defScope im):=⟨rfl,rfl,rfl,by decide+kernel,rfl,by decide+kernel,by decide+kernel⟩
theorem m7 {f:Addr}{fd:FuncData}(F:Fun K "left" "BitReader.left" im f fd)(T:CRd K mg C)(X:Txt K mg):FnOk P w K mg base CX0 1 f fd ["self"] (spLeft C):=by
 refine F.ok uT (λ vs H Q E h=>?_) (λ cdv A outer st H vs Q E hr h=>?_)
 ·obtain⟨p,d,R,t,rfl,_⟩:=h;rfl
 ·obtain⟨p,d,R,t,rfl,⟨⟨dx,hp⟩,hd,hb,ht⟩,q⟩:=h;refine⟨_,ag (az (ai aY (ai cy ae (aq ao (by rfl) X.len PySem.boot_len (aa (aR (pv 0) rfl) ad))) (aR (pv 0) rfl))),?_⟩;refine⟨_,rfl,p,C,dx,_,_,rfl,hp,T.cl,T.nH,gl _ _,d,_,rfl,.inl (SqL.of hd),_,_,rfl,rfl,.inl ⟨by decide,by decide⟩,?_⟩;refine⟨_,rfl,p,C,dx,_,_,rfl,hp,T.cl,T.nT,eW _ _,_,_,rfl,rfl,?_⟩;have e:(8:Int)*((R.map vN).length:Int)-(t:Int)=((8*R.length-t:Nat):Int):=by rw [List.length_map];lia
  try dsimp only
  rw [e];exact q
def vW (C:Addr):Sp:=λ vs H Q _=>∃(p d:Addr) (R:List Nat) (t s:Nat),vs=[.ref p,vN s]/\ReadAt C H p d R t/\s≤24/\t+s≤8*R.length/\
 ∀H',ReadAt C H' p d R (t+s)->(∀c o,H c=some o->c≠p->H' c=some o)->Q (vN (BP.val R/2^(8*R.length-(t+s))%2^s)) H'
theorem scTake:FnScope ["self","size","number"] ["self","size"] (defScope jE):=⟨rfl,rfl,rfl,by decide+kernel,rfl,by decide+kernel,by decide+kernel⟩
theorem f8 {f fS fW' fB fO fL:Addr}{fd fdS fdW fdB fdO fdL:FuncData}(F:Fun K "take" "BitReader.take" jE f fd)(S:Fn K mg "need_size" bP ["size"] fS fdS)(W:Fn K mg "is_whole" bK ["thing","least","most"] fW' fdW)
  (B:Fn K mg "bits_at" dH ["row","place","size"] fB fdB) (O:Fn K mg "ones" dR ["size"] fO fdO) (L:Me K C "left" "BitReader.left" im ["self"] fL fdL) (T:CRd K mg C) (X:Txt K mg):
  FnOk P w K mg base CX0 3 f fd ["self","size"] (vW C):=by
 have GS:FnOk P w K mg base CX0 2 fS fdS ["size"] spNeedSize:=fH S W X;have GB:FnOk P w K mg base CX0 2 fB fdB ["row","place","size"] ka:=oJ B O X;have GL:FnOk P w K mg base CX0 1 fL fdL ["self"] (spLeft C):=m7 L.F T X;refine F.ok scTake (λ vs H Q E h=>?_) (λ cdv A outer st H vs Q E hr h=>?_)
 ·obtain⟨p,d,R,t,s,rfl,_⟩:=h;rfl
 ·obtain⟨p,d,R,t,s,rfl,S0,hs,hts,q⟩:=h;obtain⟨⟨dx,hp⟩,hd,hb,ht⟩:=id S0;have npd:p≠d:=ne_of hp hd (by intro z;cases z);have hr1:Room 1 _:=hr.mono (by decide);refine⟨_,ac (aD (am GS hr (by rfl) S.m S.F.kp S.b .nil ap (aa (pv 1) ad)))
   (ac (aM (ar cz (pv 1) (bi (pv 0) T.cl L.m GL hr1 L.b .nil ap) (ax _)) (ag aT) aB)
   (ac (aj (i:=2) scTake.nd rfl (Or.inl rfl) (am GB hr (by rfl) B.m B.F.kp B.b .nil ap (aa (aR (pv 0) rfl) (aa (aR (pv 0) rfl) (aa (pv 1) ad)))))
   (ac (cg (pv 0) (ai aA (aR (pv 0) rfl) (pv 1)) rfl)
   (ag (az (pv 2)))))),?_⟩
  refine⟨_,rfl,s,rfl,hs,?_⟩;refine⟨_,rfl,_,rfl,p,dx,_,rfl,hp,eu _ _ (by decide+kernel) (by decide+kernel),p,d,R,t,rfl,S0,_,_,rfl,rfl,_,rfl,?_⟩;have e0:decide (((8*R.length-t:Nat):Int)<(s:Int))=false:=decide_eq_false (by lia)
  try dsimp only
  rw [e0];refine bL ?_;refine⟨_,rfl,p,C,dx,_,_,rfl,hp,T.cl,T.nH,gl _ _,_,rfl,p,C,dx,_,_,rfl,hp,T.cl,T.nT,eW _ _,_,rfl,d,R,t,s,rfl,hd,hb,hts,hs,λ H1 sm=>?_⟩;have hp1:=sm _ _ hp;refine⟨_,rfl,p,C,dx,_,_,rfl,hp1,T.cl,T.nT,eW _ _,_,rfl,_,_,rfl,rfl,_,rfl,p,C,dx,_,rfl,hp1,T.cl,T.nT,qJ _ _,?_⟩;have e1:(t:Int)+(s:Int)=((t+s:Nat):Int):=by lia
  try dsimp only
  rw [e1,qd];refine⟨_,rfl,?_⟩;refine q _ ⟨⟨dx,upd_same⟩,by rw [upd_ne npd.symm];exact sm _ _ hd,hb,hts⟩ λ c o e n1=>?_
  rw [upd_ne n1];exact sm c o e
def ue (C:Addr):Sp:=λ vs H Q _=>∃(p d:Addr) (R:List Nat) (t:Nat),vs=[.ref p]/\ReadAt C H p d R t/\Q (vN t) H
theorem tK:FnScope ["self"] ["self"] (defScope gy):=⟨rfl,rfl,rfl,by decide+kernel,rfl,by decide+kernel,by decide+kernel⟩
theorem gP {f:Addr}{fd:FuncData}(F:Fun K "place" "BitReader.place" gy f fd)(T:CRd K mg C):FnOk P w K mg base CX0 1 f fd ["self"] (ue C):=by
 refine F.ok tK (λ vs H Q E h=>?_) (λ cdv A outer st H vs Q E hr h=>?_)
 ·obtain⟨p,d,R,t,rfl,_⟩:=h;rfl
 ·obtain⟨p,d,R,t,rfl,⟨⟨dx,hp⟩,hd,hb,ht⟩,q⟩:=h;refine⟨_,ag (az (aR (pv 0) rfl)),?_⟩;exact⟨_,rfl,p,C,dx,_,_,rfl,hp,T.cl,T.nT,eW _ _,q⟩
end
end K19
set_option maxHeartbeats 4000000
namespace K19
open PySem L2 QQ W17 W16 BP
seal PE PA PS PSs PT PW PG PI
theorem bV (R:List Nat):R.map vN=(R.map λ b=>((b:Nat):Int)).map V.int:=by
 rw [List.map_map];rfl
def WinV (H:Hp)(x:V)(W:List Nat):Prop:=(x=.non/\W=[])\/∃a,x=.ref a/\H a=some (.lst (W.map vN))
theorem WinV.same {H H':Hp}{x:V}{W:List Nat}(h:WinV H x W)(s:Same H H'):WinV H' x W:=by
 rcases h with h|⟨a,e,h⟩
 ·exact .inl h
 ·exact .inr ⟨a,e,s _ _ h⟩
inductive Prs (H:Hp):List Addr->List (Nat×Nat)->Prop
 |nil:Prs H [] []
 |cons {t:Addr} {q:Nat×Nat} {ts:List Addr} {ps:List (Nat×Nat)}:H t=some (.tup [vN q.1,vN q.2])->Prs H ts ps->Prs H (t::ts) (q::ps)
theorem Prs.keep {H H':Hp}{ts:List Addr}{ps:List (Nat×Nat)}(h:Prs H ts ps)(s:∀c xs,H c=some (.tup xs)->H' c=some (.tup xs)):Prs H' ts ps:=by
 induction h with
 |nil=>exact .nil
 |cons a _ ih=>exact .cons (s _ _ a) ih
theorem Prs.mono {H H':Hp}{ts:List Addr}{ps:List (Nat×Nat)}(h:Prs H ts ps)(s:Same H H'):Prs H' ts ps:=h.keep λ c xs e=>s _ _ e
theorem Prs.app {H:Hp}{ts us:List Addr}{ps qs:List (Nat×Nat)}(h:Prs H ts ps)(g:Prs H us qs):Prs H (ts++us) (ps++qs):=by
 induction h with
 |nil=>exact g
 |cons a _ ih=>exact .cons a ih
theorem Prs.len {H:Hp}{ts:List Addr}{ps:List (Nat×Nat)}(h:Prs H ts ps):ts.length=ps.length:=by
 induction h with
 |nil=>rfl
 |cons a _ ih=>rw [List.length_cons,List.length_cons,ih]
theorem Prs.at {H:Hp}{ts:List Addr}{ps:List (Nat×Nat)}(h:Prs H ts ps):∀{i:Nat} {t:Addr},ts[i]?=some t->∃q,ps[i]?=some q/\H t=some (.tup [vN q.1,vN q.2]):=by
 induction h with
 |nil=>intro i t h;simp at h
 |cons a _ ih=>
  intro i t h;cases i with
  |zero=>simp at h;subst h;exact⟨_,rfl,a⟩
  |succ i=>simp at h;exact ih h
theorem dA {ts:List Addr}{i:Nat}{y:V}(h:(ts.map V.ref)[i]?=some y):∃t,ts[i]?=some t/\y=.ref t:=by
 rw [List.getElem?_map] at h;cases e:ts[i]? with
 |none=>rw [e] at h;cases h
 |some z=>rw [e] at h;exact⟨z,rfl,(Option.some.inj h).symm⟩
theorem cY {α:Type}{B:List α}{i:Nat}{b:α}(h:B[i]?=some b):B.take (i+1)=B.take i++[b]:=by rw [List.take_add_one,h];rfl
theorem BitsAt.keep {C:Addr}{H H':Hp}{p d:Addr}{N T:Nat}(h:BitsAt C H p d N T)(s:∀c o,H c=some o->(c=p\/c=d)->H' c=some o):BitsAt C H' p d N T:=by
 obtain⟨dx,B,r,k,h1,h2,h3⟩:=h;exact⟨dx,B,r,k,s _ _ h1 (.inl rfl),s _ _ h2 (.inr rfl),h3⟩
theorem BitsAt.sm {C:Addr}{H:Hp}{p d:Addr}{N T:Nat}(h:BitsAt C H p d N T):(∃o,H p=some o)/\∃o,H d=some o:=by
 obtain⟨dx,B,r,k,h1,h2,h3⟩:=h;exact⟨⟨_,h1⟩,⟨_,h2⟩⟩
theorem BitsAt.ob {C:Addr}{H:Hp}{p d:Addr}{N T:Nat}(h:BitsAt C H p d N T):∃dx r k,H p=some (.ins C dx (fW d r k)):=by
 obtain⟨dx,B,r,k,h1,h2,h3⟩:=h;exact⟨dx,r,k,h1⟩
theorem ReadAt.keep {C:Addr}{H H':Hp}{p d:Addr}{R:List Nat}{t:Nat}(h:ReadAt C H p d R t)(s:∀c o,H c=some o->(c=p\/c=d)->H' c=some o):ReadAt C H' p d R t:=by
 obtain⟨⟨dx,h1⟩,h2,h3,h4⟩:=h;exact⟨⟨dx,s _ _ h1 (.inl rfl)⟩,s _ _ h2 (.inr rfl),h3,h4⟩
theorem fV {H:Hp}{a b:Addr}(h:∃o,H a=some o)(n:H b=none):a≠b:=λ z=>by
 obtain⟨o,h⟩:=h;rw [z,n] at h;cases h
structure Bts (K:PySem.W.Frag)(mg:Str->Option Value)(C:Addr):Prop where
 R:Rows K mg
 T:CB K mg C
 m:mg "BitRow"=some (.ref C)
 needsize:∃f fd,Fn K mg "need_size" bP ["size"] f fd
 ones:∃f fd,Fn K mg "ones" dR ["size"] f fd
 init:∃f fd,Fun K "__init__" "BitRow.__init__" jw f fd/\Binds K fd ["self"] []/\Mk K C f
 put:∃f fd,Me K C "put" "BitRow.put" uk ["self","number","size"] f fd
 move:∃f fd,Me K C "move_byte" "BitRow.move_byte" kR ["self"] f fd
 many:∃f fd,Me K C "many" "BitRow.many" nA ["self"] f fd
 row:∃f fd,Me K C "row" "BitRow.row" gg ["self"] f fd
structure Rdr (K:PySem.W.Frag)(mg:Str->Option Value)(C:Addr):Prop where
 R:Rows K mg
 T:CRd K mg C
 m:mg "BitReader"=some (.ref C)
 needrow:∃f fd,Fn K mg "need_row" bX ["thing"] f fd
 needsize:∃f fd,Fn K mg "need_size" bP ["size"] f fd
 ones:∃f fd,Fn K mg "ones" dR ["size"] f fd
 bitsat:∃f fd,Fn K mg "bits_at" dH ["row","place","size"] f fd
 init:∃f fd,Fun K "__init__" "BitReader.__init__" iT f fd/\Binds K fd ["self","row"] []/\Mk K C f
 take:∃f fd,Me K C "take" "BitReader.take" jE ["self","size"] f fd
 left:∃f fd,Me K C "left" "BitReader.left" im ["self"] f fd
 place:∃f fd,Me K C "place" "BitReader.place" gy ["self"] f fd
structure FnD (K:PySem.W.Frag)(mg:Str->Option Value)(x:Str)(st:Stmt)(ps:List Str)(f:Addr)(fd:FuncData):Prop where
 F:∃dV,FunD K x x st dV f fd
 m:mg x=some (.ref f)
 b:Binds K fd ps []
 d:Binds K fd ps [.none]
theorem FnD.kp {K:PySem.W.Frag}{mg:Str->Option Value}{x:Str}{st:Stmt}{ps:List Str}{f:Addr}{fd:FuncData}(F:FnD K mg x st ps f fd):PySem.W.keepIn K (.ref f)=true:=F.F.elim λ _ z=>z.kp
def itm:Pc->List V
 | .sg s=>[.str (Str.ofString "sign"),vN s]
 | .cp b z=>[.str (Str.ofString "copy"),vN b,vN z]
def PT' (H:Hp)(ts:List Addr)(P:List Pc):Prop:=ts.length=P.length/\∀(i:Nat) (a:Addr) (x:Pc),ts[i]?=some a->P[i]?=some x->H a=some (.tup (itm x))
def PL (H:Hp)(l:Addr)(P:List Pc):Prop:=∃ts:List Addr,H l=some (.lst (ts.map V.ref))/\PT' H ts P
theorem PT'.keep {H H':Hp}{ts:List Addr}{P:List Pc}(h:PT' H ts P)(k:∀a xs,H a=some (.tup xs)->H' a=some (.tup xs)):PT' H' ts P:=⟨h.1,λ i a x h1 h2=>k _ _ (h.2 i a x h1 h2)⟩
theorem PL.same {H H':Hp}{l:Addr}{P:List Pc}(h:PL H l P)(s:Same H H'):PL H' l P:=by
 obtain⟨ts,h1,h2⟩:=h;exact⟨ts,s _ _ h1,h2.keep λ _ _ z=>s _ _ z⟩
theorem PT'.snoc {H:Hp}{ts:List Addr}{P:List Pc}(h:PT' H ts P){t:Addr}{x:Pc}(e:H t=some (.tup (itm x))):PT' H (ts++[t]) (P++[x]):=by
 refine⟨by simp [h.1],λ i a y h1 h2=>?_⟩;rw [List.getElem?_append] at h1 h2;rw [<-h.1] at h2
 split at h1
 ·rename_i c
  rw [if_pos c] at h2;exact h.2 i a y h1 h2
 ·rename_i c
  rw [if_neg c] at h2;have e0:i-ts.length=0:=by
   have:=(List.getElem?_eq_some_iff.mp h1).1;simp at this;lia
  rw [e0] at h1 h2;cases h1;cases h2;exact e
theorem ng {α:Type}{xs:List α}{b:Nat}{v:α}(h1:1≤b)(h2:b≤xs.length)(h:xs[xs.length-b]?=some v):atI xs (-((b:Nat):Int))=some v:=by
 have e:ixN xs.length (-((b:Nat):Int))=some (xs.length-b):=by
  unfold ixN;rw [if_neg (by lia),if_pos (by lia)];congr 1;lia
 unfold atI;rw [e];exact h
theorem oj:V.str (Str.ofString "copy")≠V.str (Str.ofString "sign"):=λ h=>absurd (V.str.inj h) (by decide+kernel)
def cpy (B:List Nat)(b:Nat):Nat->List Nat
 |0=>B
 |n+1=>cpy B b n++[(cpy B b n).getD ((cpy B b n).length-b) 0]
theorem dW (B:List Nat)(b:Nat):∀n,(cpy B b n).length=B.length+n
 |0=>rfl
 |n+1=>by
  rw [cpy,List.length_append,dW B b n];simp;lia
theorem kK {S:List Nat}{p b z:Nat}(hb1:1≤b)(hb:b≤p)(hz:p+z≤S.length)(h:∀i<z,S[p+i]?=S[p+i-b]?):∀n,n≤z->cpy (S.take p) b n=S.take (p+n)
 |0,_=>rfl
 |n+1,hn=>by
  have hl:(S.take (p+n)).length=p+n:=by rw [List.length_take];lia
  rw [cpy,kK hb1 hb hz h n (by lia),hl];have h1:p+n<S.length:=by lia
  rw [show p+(n+1)=p+n+1 by lia,List.take_add_one,List.getElem?_eq_getElem h1];congr 1;have h2:=h n (by lia);rw [List.getElem?_eq_getElem h1] at h2;rw [List.getD_eq_getElem?_getD,List.getElem?_take,if_pos (by lia),<-h2];rfl
section
variable {P : Program} {w : World} {K : PySem.W.Frag} {mg : Str -> Option Value} {base : Heap} {CB CR : Addr}
def pG:Sp:=λ vs H Q _=>∃(x:V) (m:Nat) (W:List Nat),vs=[x,vN m]/\WinV H x W/\(∀b∈W,b<256)/\W.length≤m/\∀l H',Same H H'->H l=none->H' l=some (.lst (W.map vN))->Q (.ref l) H'
theorem scNeedWin:FnScope ["before","most","window"] ["before","most"] (defScope cS):=⟨rfl,rfl,rfl,by decide+kernel,rfl,by decide+kernel,by decide+kernel⟩
theorem gz {f fN:Addr}{fd fdN:FuncData}(F:Fn K mg "need_window" cS ["before","most"] f fd)(N:Fn K mg "need_row" bX ["thing"] fN fdN)(Y:Rows K mg):FnOk P w K mg base CX0 5 f fd ["before","most"] pG:=by
 have GN:=c8 (P:=P) (w:=w) (base:=base) N Y;have T:=Y.X;refine F.F.ok scNeedWin (λ vs H Q E h=>?_) (λ cdv A outer s H vs Q E hr h=>?_)
 ·obtain⟨x,m,W,rfl,_⟩:=h;rfl
 ·obtain⟨x,m,W,rfl,hx,hb,hl,k⟩:=h;refine⟨_,ac (aM (ar iW (pv 0) dU (ax _)) (ag (az (aV ad))) aB)
   (ac (aj (i:=2) scNeedWin.nd rfl (Or.inl rfl) (am GN hr (by rfl) N.m N.F.kp N.b .nil ap (aa (pv 0) ad)))
   (ac (aM (ar cz (aq ao (by rfl) T.len PySem.boot_len (aa (pv 2) ad)) (pv 1) (ax _)) (ag aT) aB)
   (ag (az (pv 2))))),?_⟩
  rcases hx with⟨rfl,rfl⟩|⟨b,rfl,hB⟩
  ·exact⟨_,rfl,rfl,_,rfl,aJ (λ _=>⟨by decide,λ l nl=>k l _ (ak nl) nl upd_same⟩) (λ h=>absurd (decide_eq_true rfl) h)⟩
  ·refine⟨_,rfl,rfl,_,rfl,aJ (λ h=>absurd (of_decide_eq_true h) (by intro z;cases z)) (λ _=>?_)⟩;refine⟨_,rfl,b,W,rfl,hB,hb,λ l hn=>?_⟩;refine⟨_,rfl,l,_,rfl,.inl (SqL.of upd_same),_,rfl,_,_,rfl,rfl,_,rfl,aJ (λ h=>?_) (λ _=>?_)⟩
   ·have:=of_decide_eq_true h;rw [List.length_map] at this;lia
   ·exact⟨_,rfl,k l _ (ak hn) hn upd_same⟩
def jX:Sp:=λ vs H Q _=>∃(x:V) (W:List Nat),vs=[x]/\WinV H x W/\(∀b∈W,b<256)/\W.length≤192/\∀l H',Same H H'->H l=none->H' l=some (.lst (W.map vN))->Q (.ref l) H'
theorem kq:FnScope ["before"] ["before"] (defScope cF):=⟨rfl,rfl,rfl,by decide+kernel,rfl,by decide+kernel,by decide+kernel⟩
theorem iX {f fW fN:Addr}{fd fdW fdN:FuncData}(F:Fn K mg "need_ahead" cF ["before"] f fd)(Wi:Fn K mg "need_window" cS ["before","most"] fW fdW)(N:Fn K mg "need_row" bX ["thing"] fN fdN)(Y:Rows K mg):FnOk P w K mg base CX0 6 f fd ["before"] jX:=by
 have GW:=gz (P:=P) (w:=w) (base:=base) Wi N Y;obtain⟨tg,hg⟩:=Y.X.ahead;refine F.F.ok kq (λ vs H Q E h=>?_) (λ cdv A outer s H vs Q E hr h=>?_)
 ·obtain⟨x,W,rfl,_⟩:=h;rfl
 ·obtain⟨x,W,rfl,hx,hb,hl,k⟩:=h;refine⟨_,ag (az (am GW hr (by rfl) Wi.m Wi.F.kp Wi.b .nil ap (aa (pv 0) (aa (aK (v:=.int 192) (by rfl) hg ⟨tg,rfl⟩) ad)))),?_⟩;exact⟨_,rfl,x,192,W,rfl,hx,hb,hl,k⟩
def k4:Sp:=λ vs H Q _=>∃(a:Addr) (x:V) (T W:List Nat),vs=[.ref a,x]/\H a=some (.lst (T.map vN))/\(∀b∈T,b<256)/\1≤T.length/\T.length≤64/\WinV H x W/\(∀b∈W,b<256)/\W.length≤192/\
 ∀l H',Same H H'->H l=none->H' l=some (.lst (T.map vN))->Q (.ref l) H'
theorem scNeedSigns:FnScope ["text","before","signs"] ["text","before"] (defScope de):=⟨rfl,rfl,rfl,by decide+kernel,rfl,by decide+kernel,by decide+kernel⟩
theorem jn {f fA fW fN:Addr}{fd fdA fdW fdN:FuncData}(F:Fn K mg "need_signs" de ["text","before"] f fd)(Ah:Fn K mg "need_ahead" cF ["before"] fA fdA)(Wi:Fn K mg "need_window" cS ["before","most"] fW fdW)(N:Fn K mg "need_row" bX ["thing"] fN fdN)(Y:Rows K mg):FnOk P w K mg base CX0 7 f fd ["text","before"] k4:=by
 have GA:=iX (P:=P) (w:=w) (base:=base) Ah Wi N Y;have GN:=c8 (P:=P) (w:=w) (base:=base) N Y;have T:=Y.X;obtain⟨tg,hg⟩:=T.signs;refine F.F.ok scNeedSigns (λ vs H Q E h=>?_) (λ cdv A outer s H vs Q E hr h=>?_)
 ·obtain⟨a,x,T,W,rfl,_⟩:=h;rfl
 ·obtain⟨a,x,S,W,rfl,ha,hSb,h1,h64,hx,hb,hl,k⟩:=h;have hr4:Room 4 _:=hr.mono (by decide);refine⟨_,ac (aj (i:=2) scNeedSigns.nd rfl (Or.inl rfl) (am GN hr4 (by rfl) N.m N.F.kp N.b .nil ap (aa (pv 0) ad)))
   (ac (aM (PW.pt (il (ar bh (aq ao (by rfl) T.len PySem.boot_len (aa (pv 2) ad)) ae (ax _)) (fo (ar cz (aq ao (by rfl) T.len PySem.boot_len (aa (pv 2) ad)) (aK (v:=.int 64) (by rfl) hg ⟨tg,rfl⟩) (ax _))))) (ag aT) aB)
   (ac (aD (am GA hr (by rfl) Ah.m Ah.F.kp Ah.b .nil ap (aa (pv 1) ad)))
   (ag (az (pv 2))))),?_⟩
  refine seq_g λ R1 g1=>?_
  refine⟨_,rfl,a,S,rfl,ha,hSb,λ l nl=>g1 _ _ ?_⟩;clear g1;have s0:=ak (o:=.lst (S.map vN)) nl;have hll:(upd H l (.lst (S.map vN))) l=some (.lst (S.map vN)):=upd_same;generalize upd H l (.lst (S.map vN))=H1 at*;refine seq_g λ R1 g1=>?_
  refine⟨_,rfl,l,_,rfl,.inl (SqL.of hll),rfl,_,rfl,aJ (λ h=>?_) (λ _=>?_)⟩
  ·have:=of_decide_eq_true h;injection this with this
   rw [List.length_map] at this;lia
  refine⟨_,rfl,l,_,rfl,.inl (SqL.of hll),_,_,rfl,rfl,_,rfl,aJ (λ h=>?_) (λ _=>g1 _ _ ?_)⟩
  ·have:=of_decide_eq_true h;rw [List.length_map] at this;lia
  clear g1;refine seq_g λ R1 g1=>?_
  refine⟨_,rfl,x,W,rfl,hx.same s0,hb,hl,λ l2 H2 s2 n2 h22=>g1 _ _ ?_⟩;exact⟨_,rfl,k l H2 (s0.trans s2) nl (s2 _ _ hll)⟩
def mr:Sp:=λ vs H Q _=>∃(a:Addr) (xs:List V) (s e:Nat),vs=[.ref a,vN s,vN e]/\H a=some (.lst xs)/\xs.length+s≤e/\Q .non H
theorem lj:FnScope ["signs","size","end"] ["signs","size","end"] (defScope cR):=⟨rfl,rfl,rfl,by decide+kernel,rfl,by decide+kernel,by decide+kernel⟩
theorem kP {f:Addr}{fd:FuncData}(F:Fn K mg "need_room" cR ["signs","size","end"] f fd)(T:Txt K mg):FnOk P w K mg base CX0 1 f fd ["signs","size","end"] mr:=by
 refine F.F.ok lj (λ vs H Q E h=>?_) (λ cdv A outer st H vs Q E hr h=>?_)
 ·obtain⟨a,xs,s,e,rfl,_⟩:=h;rfl
 ·obtain⟨a,xs,s,e,rfl,ha,hl,k⟩:=h;refine⟨_,ag (aM (ar cz (ai aA (aq ao (by rfl) T.len PySem.boot_len (aa (pv 0) ad)) (pv 1)) (pv 2) (ax _)) (ag aT) aB),?_⟩;refine⟨_,rfl,a,_,rfl,.inl (SqL.of ha),_,rfl,_,_,rfl,rfl,_,rfl,_,_,rfl,rfl,_,rfl,aJ (λ h=>?_) (λ _=>k)⟩;have:=of_decide_eq_true h;lia
def um:Sp:=λ vs H Q _=>∃(a:Addr) (S:List Nat) (p b m:Nat),vs=[.ref a,vN p,vN b,vN m]/\H a=some (.lst (S.map vN))/\b≤p/\p+m≤S.length/\Q (vN (al S p b m)) H
theorem scAlike:FnScope ["signs","place","back","most","size"] ["signs","place","back","most"] (defScope gW):=⟨rfl,rfl,rfl,by decide+kernel,rfl,by decide+kernel,by decide+kernel⟩
theorem qw {f:Addr}{fd:FuncData}(F:Fn K mg "alike_from" gW ["signs","place","back","most"] f fd):FnOk P w K mg base CX0 1 f fd ["signs","place","back","most"] um:=by
 refine F.F.ok scAlike (λ vs H Q E h=>?_) (λ cdv A outer st H vs Q E hr h=>?_)
 ·obtain⟨a,S,p,b,m,rfl,_⟩:=h;rfl
 ·obtain⟨a,S,p,b,m,rfl,hS,hb,hm,k⟩:=h;refine⟨_,ac (aj (i:=4) scAlike.nd rfl (Or.inl rfl) ae)
   (ac (bF PassesOwn.never (PW.pt (c5 (ar df (pv 4) (pv 3) (ax _)) (cZ (ar bh (aL aN (pv 0) (ai aA (pv 1) (pv 4)) (λ _ _=>rfl)) (aL aN (pv 0) (ai aY (ai aA (pv 1) (pv 4)) (pv 2)) (λ _ _=>rfl)) (ax _)))))
    (ag (aj (i:=4) scAlike.nd rfl (Or.inl rfl) (ai aA (pv 4) ae))))
   (ag (az (pv 4)))),?_⟩
  refine seq_g λ R1 g1=>g1 _ _ ?_
  clear g1;refine seq_g λ R1 g1=>?_
  refine⟨λ n σ H2=>∃i:Nat,n=m-i/\σ=[some (.ref a),some (vN p),some (vN b),some (vN m),some (vN i)]/\H2=H/\i≤m/\∀j<i,S[p+j]?=S[p+j-b]?,⟨m,0,rfl,rfl,rfl,Nat.zero_le _,λ j hj=>absurd hj (Nat.not_lt_zero _)⟩,?_⟩;rintro n σ H2 ⟨i,rfl,rfl,rfl,hi,hall⟩;refine⟨_,rfl,_,rfl,_,_,rfl,rfl,_,rfl,aJ (λ h1=>?_) (λ h1=>?_)⟩
  ·have h2:i<m:=by have:=of_decide_eq_true h1;lia
   have e1:((p:Nat):Int)+((i:Nat):Int)=((p+i:Nat):Int):=by lia
   have e2:((p+i:Nat):Int)-((b:Nat):Int)=((p+i-b:Nat):Int):=by lia
   have l1:p+i<S.length:=by lia
   have l2:p+i-b<S.length:=by lia
   refine⟨_,rfl,_,rfl,_,rfl,_,_,rfl,rfl,?_⟩
   try dsimp only
   rw [e1];refine⟨a,_,_,_,rfl,rfl,SqL.of hS,aw (bC l1),?_⟩;refine⟨_,rfl,_,rfl,_,rfl,_,_,rfl,rfl,_,rfl,_,_,rfl,rfl,?_⟩
   try dsimp only
   rw [e1,e2];refine⟨a,_,_,_,rfl,rfl,SqL.of hS,aw (bC l2),rfl,_,rfl,aJ (λ h3=>?_) (λ h3=>?_)⟩
   ·have h4:S[p+i]=S[p+i-b]:=vN_inj.mp (of_decide_eq_true h3);refine⟨λ σ' H'=>σ'=[some (.ref a),some (vN p),some (vN b),some (vN m),some (vN (i+1))]/\H'=H2,λ σ' H' z=>⟨m-(i+1),by lia,i+1,rfl,z.1,z.2,by lia,λ j hj=>?_⟩,?_⟩
    ·by_cases e:j=i
     ·subst e;rw [List.getElem?_eq_getElem l1,List.getElem?_eq_getElem l2,h4]
     ·exact hall j (by lia)
    ·exact⟨_,rfl,_,_,rfl,rfl,rfl,rfl⟩
   ·refine g1 _ _ ⟨_,rfl,?_⟩;have h4:S[p+i]?≠S[p+i-b]?:=by
     rw [List.getElem?_eq_getElem l1,List.getElem?_eq_getElem l2];intro z;exact h3 (decide_eq_true (vN_inj.mpr (Option.some.inj z)))
    rw [lI hall h4 m (by lia)] at k;exact k
  ·refine bL (g1 _ _ ⟨_,rfl,?_⟩);have h2:i=m:=by
    have h1':¬(decide ((i:Int)<(m:Int))=true):=h1;have:¬((i:Int)<(m:Int)):=λ z=>h1' (decide_eq_true z)
    lia
   subst h2;rw [oa hall] at k;exact k
def o5:Sp:=λ vs H Q _=>∃(a:Addr) (S:List Nat) (p:Nat),vs=[.ref a,vN p]/\H a=some (.lst (S.map vN))/\p<S.length/\S.length≤1000/\∀t,H t=none->Q (.ref t) (upd H t (.tup [.str (Str.ofString "copy"),vN (lcAt S p).1,vN (lcAt S p).2]))
abbrev qG:List Str:=["signs","place","most","best_back","best_size","back","size"]
theorem scLongest:FnScope qG ["signs","place"] (defScope eT):=⟨rfl,rfl,rfl,by decide+kernel,rfl,by decide+kernel,by decide+kernel⟩
theorem lK {f fA:Addr}{fd fdA:FuncData}(F:Fn K mg "longest_copy" eT ["signs","place"] f fd)(AF:Fn K mg "alike_from" gW ["signs","place","back","most"] fA fdA)(T:Txt K mg):FnOk P w K mg base CX0 31 f fd ["signs","place"] o5:=by
 have GA:=qw (P:=P) (w:=w) (base:=base) AF;obtain⟨tf,hf⟩:=T.far;obtain⟨tm,hm⟩:=T.mostC;refine F.F.ok scLongest (λ vs H Q E h=>?_) (λ cdv A outer st H vs Q E hr h=>?_)
 ·obtain⟨a,S,p,rfl,_⟩:=h;rfl
 ·obtain⟨a,S,p,rfl,hS,hp,hlen,k⟩:=h;have hn:=hr.hd (by decide);have hr1:Room 1 _:=hr.mono (by decide);refine⟨_,ac (aj (i:=2) scLongest.nd rfl (Or.inl rfl) (aq (cC hn) (by rfl) T.min PyProof.Rows.boot_min (aa (aK (v:=.int 18) (by rfl) hm ⟨tm,rfl⟩) (aa (ai aY (aq ao (by rfl) T.len PySem.boot_len (aa (pv 0) ad)) (pv 1)) ad))))
   (ac (aj (i:=3) scLongest.nd rfl (Or.inl rfl) ae)
   (ac (aj (i:=4) scLongest.nd rfl (Or.inl rfl) ae)
   (ac (aS PassesOwn.never rfl (dC (by rfl) T.range (aa ae (aa (ai aA (aq (cC hn) (by rfl) T.min PyProof.Rows.boot_min (aa (aK (v:=.int 255) (by rfl) hf ⟨tf,rfl⟩) (aa (pv 1) ad))) ae) ad))) (aF (i:=5) scLongest.nd rfl (Or.inl rfl))
    (ac (aM (ar bh (pv 4) (pv 2) (ax _)) (ag qW) aB)
    (ag (aM (ar bh (aL aN (pv 0) (ai aA (pv 1) (pv 4)) (λ _ _=>rfl)) (aL aN (pv 0) (ai aY (ai aA (pv 1) (pv 4)) (pv 5)) (λ _ _=>rfl)) (ax _))
     (ac (aj (i:=6) scLongest.nd rfl (Or.inl rfl) (am GA hr1 (by rfl) AF.m AF.F.kp AF.b .nil ap (aa (pv 0) (aa (pv 1) (aa (pv 5) (aa (pv 2) ad))))))
     (ag (aM (ar cz (pv 6) (pv 4) (ax _)) (ac (aj (i:=3) scLongest.nd rfl (Or.inl rfl) (pv 5)) (ag (aj (i:=4) scLongest.nd rfl (Or.inl rfl) (pv 6)))) aB))) aB))))
   (ag (az (bB (aa bY (aa (pv 3) (aa (pv 4) ad))))))))),?_⟩
  refine seq_g λ R1 g1=>?_
  refine⟨_,rfl,a,_,rfl,.inl (SqL.of hS),_,rfl,_,_,rfl,rfl,_,_,rfl,g1 _ _ ?_⟩;clear g1;have em:(if((S.map vN).length:Int)-((p:Nat):Int)<18 then((S.map vN).length:Int)-((p:Nat):Int) else 18)=((most S p:Nat):Int):=by
   rw [List.length_map];unfold most
   split<;>lia
  try dsimp only
  rw [em];have hm2:most S p≤18/\p+most S p≤S.length:=by unfold most;lia
  refine seq_g λ R1 g1=>g1 _ _ ?_
  clear g1;refine seq_g λ R1 g1=>g1 _ _ ?_
  clear g1;refine seq_g λ R1 g1=>?_
  have JR:∀v5 v6:Option V,R1 [some (.ref a),some (vN p),some (vN (most S p)),some (vN (lcAt S p).1),some (vN (lcAt S p).2),v5,v6] H:=λ v5 v6=>by
   refine g1 _ _ ?_;exact⟨_,rfl,_,rfl,(by show 3≤sizeLine;decide),k⟩
  clear g1;have ef:(if((p:Nat):Int)<255 then((p:Nat):Int) else 255)=((far p:Nat):Int):=by
   unfold far
   split<;>lia
  refine⟨_,rfl,_,_,rfl,?_⟩
  try dsimp only
  rw [ef];have hfar:far p≤255/\far p≤p:=by unfold far;lia
  refine⟨_,_,rfl,rfl,1,((far p:Nat):Int)+1,rfl,⟨by lia,by lia,by lia,by lia⟩,?_⟩;have en:(((far p:Nat):Int)+1-1).toNat=far p:=by lia
  try dsimp only
  rw [en];refine bc (D:=⟨_,_,λ _ _=>False,λ _ _=>False⟩) (lo:=1) (n:=far p) (λ j σ H2=>∃v5 v6:Option V,σ=[some (.ref a),some (vN p),some (vN (most S p)),some (vN (lc S p (most S p) j).1),some (vN (lc S p (most S p) j).2),v5,v6]/\H2=H) ⟨none,none,rfl,rfl⟩ ?_ ?_
  ·rintro j σ H2 hj ⟨v5,v6,rfl,rfl⟩;have eb:(1:Int)+((j:Nat):Int)=((j+1:Nat):Int):=by lia
   try dsimp only
   rw [eb];refine seq_g λ R2 g2=>?_
   refine⟨_,rfl,_,rfl,rfl,_,rfl,aJ (λ h1=>?_) (λ h1=>?_)⟩
   ·have h2:(lc S p (most S p) j).2=most S p:=vN_inj.mp (of_decide_eq_true h1);have e:=nP h2 (far p) (by lia);have J:=JR (some (vN (j+1))) v6;unfold lcAt at J;rw [e] at J;exact J
   ·have h2:(lc S p (most S p) j).2≠most S p:=λ z=>h1 (decide_eq_true (vN_inj.mpr z))
    have hle:=mL S p (most S p) j;refine g2 _ _ ?_;clear g2;have e1:((p:Nat):Int)+(((lc S p (most S p) j).2:Nat):Int)=((p+(lc S p (most S p) j).2:Nat):Int):=by lia
    have e2:((p+(lc S p (most S p) j).2:Nat):Int)-((j+1:Nat):Int)=((p+(lc S p (most S p) j).2-(j+1):Nat):Int):=by lia
    have l1:p+(lc S p (most S p) j).2<S.length:=by lia
    have l2:p+(lc S p (most S p) j).2-(j+1)<S.length:=by lia
    refine⟨_,rfl,_,rfl,_,rfl,_,_,rfl,rfl,?_⟩
    try dsimp only
    rw [e1];refine⟨a,_,_,_,rfl,rfl,SqL.of hS,aw (bC l1),?_⟩;refine⟨_,rfl,_,rfl,_,rfl,_,_,rfl,rfl,_,rfl,_,_,rfl,rfl,?_⟩
    try dsimp only
    rw [e1,e2];refine⟨a,_,_,_,rfl,rfl,SqL.of hS,aw (bC l2),rfl,_,rfl,aJ (λ h3=>?_) (λ h3=>?_)⟩
    ·refine⟨_,rfl,_,rfl,_,rfl,_,rfl,a,S,p,j+1,most S p,rfl,hS,by lia,by lia,?_⟩;refine⟨_,rfl,_,rfl,_,_,rfl,rfl,_,rfl,aJ (λ h4=>?_) (λ h4=>?_)⟩
     ·have h5:(lc S p (most S p) j).2<al S p (j+1) (most S p):=by have:=of_decide_eq_true h4;lia
      refine⟨_,rfl,_,rfl,some (vN (j+1)),some (vN (al S p (j+1) (most S p))),?_,rfl⟩;rw [lc,if_pos h5];rfl
     ·have h5:¬(lc S p (most S p) j).2<al S p (j+1) (most S p):=λ z=>h4 (decide_eq_true (by lia))
      refine⟨some (vN (j+1)),some (vN (al S p (j+1) (most S p))),?_,rfl⟩;rw [lc,if_neg h5];rfl
    ·refine⟨some (vN (j+1)),v6,?_,rfl⟩;have h4:S[p+(lc S p (most S p) j).2]?≠S[p+(lc S p (most S p) j).2-(j+1)]?:=by
      rw [List.getElem?_eq_getElem l1,List.getElem?_eq_getElem l2];intro z;exact h3 (decide_eq_true (vN_inj.mpr (Option.some.inj z)))
     rw [tz h4];rfl
  ·rintro σ H2 ⟨v5,v6,rfl,rfl⟩;exact JR v5 v6
def qa:Sp:=λ vs H Q _=>∃(a:Addr) (S:List Nat) (p b m:Nat),vs=[.ref a,vN p,vN b,vN m]/\H a=some (.lst (S.map vN))/\b≤p/\p+m≤S.length/\Q (vN (al S p b m)) H
theorem scLAlike:FnScope ["_law_signs_here","_law_place","_law_back","_law_most","_law_size"] ["_law_signs_here","_law_place","_law_back","_law_most"] (defScope eV):=⟨rfl,rfl,rfl,by decide+kernel,rfl,by decide+kernel,by decide+kernel⟩
theorem oz {f:Addr}{fd:FuncData}(F:Fn K mg "_law_alike" eV ["_law_signs_here","_law_place","_law_back","_law_most"] f fd):FnOk P w K mg base CX0 1 f fd ["_law_signs_here","_law_place","_law_back","_law_most"] qa:=by
 refine F.F.ok scLAlike (λ vs H Q E h=>?_) (λ cdv A outer st H vs Q E hr h=>?_)
 ·obtain⟨a,S,p,b,m,rfl,_⟩:=h;rfl
 ·obtain⟨a,S,p,b,m,rfl,hS,hb,hm,k⟩:=h;refine⟨_,ac (aj (i:=4) scLAlike.nd rfl (Or.inl rfl) ae)
   (ac (bF PassesOwn.never (PW.pt (c5 (ar df (pv 4) (pv 3) (ax _)) (cZ (ar bh (aL aN (pv 0) (ai aA (pv 1) (pv 4)) (λ _ _=>rfl)) (aL aN (pv 0) (ai aY (ai aA (pv 1) (pv 4)) (pv 2)) (λ _ _=>rfl)) (ax _)))))
    (ag (aj (i:=4) scLAlike.nd rfl (Or.inl rfl) (ai aA (pv 4) ae))))
   (ag (az (pv 4)))),?_⟩
  refine seq_g λ R1 g1=>g1 _ _ ?_
  clear g1;refine seq_g λ R1 g1=>?_
  refine⟨λ n σ H2=>∃i:Nat,n=m-i/\σ=[some (.ref a),some (vN p),some (vN b),some (vN m),some (vN i)]/\H2=H/\i≤m/\∀j<i,S[p+j]?=S[p+j-b]?,⟨m,0,rfl,rfl,rfl,Nat.zero_le _,λ j hj=>absurd hj (Nat.not_lt_zero _)⟩,?_⟩;rintro n σ H2 ⟨i,rfl,rfl,rfl,hi,hall⟩;refine⟨_,rfl,_,rfl,_,_,rfl,rfl,_,rfl,aJ (λ h1=>?_) (λ h1=>?_)⟩
  ·have h2:i<m:=by have:=of_decide_eq_true h1;lia
   have e1:((p:Nat):Int)+((i:Nat):Int)=((p+i:Nat):Int):=by lia
   have e2:((p+i:Nat):Int)-((b:Nat):Int)=((p+i-b:Nat):Int):=by lia
   have l1:p+i<S.length:=by lia
   have l2:p+i-b<S.length:=by lia
   refine⟨_,rfl,_,rfl,_,rfl,_,_,rfl,rfl,?_⟩
   try dsimp only
   rw [e1];refine⟨a,_,_,_,rfl,rfl,SqL.of hS,aw (bC l1),?_⟩;refine⟨_,rfl,_,rfl,_,rfl,_,_,rfl,rfl,_,rfl,_,_,rfl,rfl,?_⟩
   try dsimp only
   rw [e1,e2];refine⟨a,_,_,_,rfl,rfl,SqL.of hS,aw (bC l2),rfl,_,rfl,aJ (λ h3=>?_) (λ h3=>?_)⟩
   ·have h4:S[p+i]=S[p+i-b]:=vN_inj.mp (of_decide_eq_true h3);refine⟨λ σ' H'=>σ'=[some (.ref a),some (vN p),some (vN b),some (vN m),some (vN (i+1))]/\H'=H2,λ σ' H' z=>⟨m-(i+1),by lia,i+1,rfl,z.1,z.2,by lia,λ j hj=>?_⟩,?_⟩
    ·by_cases e:j=i
     ·subst e;rw [List.getElem?_eq_getElem l1,List.getElem?_eq_getElem l2,h4]
     ·exact hall j (by lia)
    ·exact⟨_,rfl,_,_,rfl,rfl,rfl,rfl⟩
   ·refine g1 _ _ ⟨_,rfl,?_⟩;have h4:S[p+i]?≠S[p+i-b]?:=by
     rw [List.getElem?_eq_getElem l1,List.getElem?_eq_getElem l2];intro z;exact h3 (decide_eq_true (vN_inj.mpr (Option.some.inj z)))
    rw [lI hall h4 m (by lia)] at k;exact k
  ·refine bL (g1 _ _ ⟨_,rfl,?_⟩);have h2:i=m:=by
    have h1':¬(decide ((i:Int)<(m:Int))=true):=h1;have:¬((i:Int)<(m:Int)):=λ z=>h1' (decide_eq_true z)
    lia
   subst h2;rw [oa hall] at k;exact k
def lm:Sp:=λ vs H Q _=>∃(a:Addr) (x:V) (W T:List Nat),vs=[.ref a,x]/\H a=some (.lst (T.map vN))/\WinV H x W/\(∀b∈W,b<256)/\(∀b∈T,b<256)/\W.length≤255/\T.length≤500/\
 ∀l P H',Same H H'->H l=none->PL H' l P->Walk (W++T) W.length P (W++T).length->Q (.ref l) H'
abbrev ph:List Str:=["text","before","own_signs","signs","place","pieces","found"]
theorem scPiecesOf:FnScope ph ["text","before"] (defScope sPiecesOf):=⟨rfl,rfl,rfl,by decide+kernel,rfl,by decide+kernel,by decide+kernel⟩
structure Wins (K:PySem.W.Frag)(mg:Str->Option Value):Prop where
 R:Rows K mg
 needrow:∃f fd,Fn K mg "need_row" bX ["thing"] f fd
 needwin:∃f fd,Fn K mg "need_window" cS ["before","most"] f fd
 alike:∃f fd,Fn K mg "alike_from" gW ["signs","place","back","most"] f fd
 longest:∃f fd,Fn K mg "longest_copy" eT ["signs","place"] f fd
theorem kx {f:Addr}{fd:FuncData}(F:FnD K mg "pieces_of" sPiecesOf ["text","before"] f fd)(Y:Wins K mg):FnOk P w K mg base CX0 32 f fd ["text","before"] lm:=by
 obtain⟨R,⟨_,_,N⟩,⟨_,_,NW⟩,⟨_,_,AF⟩,⟨_,_,L⟩⟩:=Y;have GN:=c8 (P:=P) (w:=w) (base:=base) N R;have GW:=gz (P:=P) (w:=w) (base:=base) NW N R;have GL:=lK (P:=P) (w:=w) (base:=base) L AF R.X;have T:=R.X;obtain⟨tl,hlc⟩:=T.least;obtain⟨tf,hfr⟩:=T.far;obtain⟨dV,FF⟩:=F.F;refine FF.ok scPiecesOf (λ vs H Q E h=>?_) (λ cdv A outer st H vs Q E hr h=>?_)
 ·obtain⟨a,x,W,T,rfl,_⟩:=h;rfl
 ·obtain⟨a,x,W,Tx,rfl,ha,hx,hbW,hbT,hW,hT,k⟩:=h;have hr4:Room 4 _:=hr.mono (by decide);have hr5:Room 5 _:=hr.mono (by decide);refine⟨_,ac (aj (i:=2) scPiecesOf.nd rfl (Or.inl rfl) (am GN hr4 (by rfl) N.m N.F.kp N.b .nil ap (aa (pv 0) ad)))
   (ac (aj (i:=3) scPiecesOf.nd rfl (Or.inl rfl) (ai fz (am GW hr5 (by rfl) NW.m NW.F.kp NW.b .nil ap (aa (pv 1) (aa (aK (v:=.int 255) (by rfl) hfr ⟨tf,rfl⟩) ad))) (pv 2)))
   (ac (aj (i:=4) scPiecesOf.nd rfl (Or.inl rfl) (ai aY (aq ao (by rfl) T.len PySem.boot_len (aa (pv 3) ad)) (aq ao (by rfl) T.len PySem.boot_len (aa (pv 2) ad))))
   (ac (aj (i:=5) scPiecesOf.nd rfl (Or.inl rfl) (aV ad))
   (ac (bF PassesOwn.never (ar df (pv 4) (aq ao (by rfl) T.len PySem.boot_len (aa (pv 3) ad)) (ax _))
    (ac (aj (i:=6) scPiecesOf.nd rfl (Or.inl rfl) (am GL hr (by rfl) L.m L.F.kp L.b .nil ap (aa (pv 3) (aa (pv 4) ad))))
    (ag (aM (ar rm (aL a9 (pv 6) ae (λ _ _=>rfl)) (aK (v:=.int 3) (by rfl) hlc ⟨tl,rfl⟩) (ax _))
     (ac (aD (b7 PySem.F.plainAttrs_list PySem.F.slot_list_append PySem.F.type_list_append aO (pv 5) (aa (pv 6) ad)))
      (ag (aj (i:=4) scPiecesOf.nd rfl (Or.inl rfl) (ai aA (pv 4) (aL a9 (pv 6) ae (λ _ _=>rfl))))))
     (ac (aD (b7 PySem.F.plainAttrs_list PySem.F.slot_list_append PySem.F.type_list_append aO (pv 5) (aa (bB (aa bY (aa (aL aN (pv 3) (pv 4) (λ _ _=>rfl)) ad))) ad)))
      (ag (aj (i:=4) scPiecesOf.nd rfl (Or.inl rfl) (ai aA (pv 4) ae))))))))
   (ag (az (pv 5))))))),?_⟩
  refine seq_g λ R1 g1=>?_
  refine⟨_,rfl,a,Tx,rfl,ha,hbT,λ l1 n1=>g1 _ _ ?_⟩;clear g1;have s1:Same H (upd H l1 (.lst (Tx.map vN))):=ak n1;refine seq_g λ R1 g1=>?_
  refine⟨_,rfl,x,255,W,rfl,hx.same s1,hbW,hW,λ l2 H2 s2 n2 h22=>?_⟩;have h1a:H2 l1=some (.lst (Tx.map vN)):=s2 _ _ upd_same;refine⟨_,rfl,l2,l1,_,_,rfl,rfl,h22,h1a,dj (by rw [List.length_map,List.length_map];lia),λ l3 n3=>g1 _ _ ?_⟩;clear g1;have s3:=ak (o:=.lst (W.map vN++Tx.map vN)) n3
  try dsimp only
  rw [<-List.map_append] at s3 ⊢;have hS3:(upd H2 l3 (.lst ((W++Tx).map vN))) l3=some (.lst ((W++Tx).map vN)):=upd_same;have hS1:=s3 _ _ h1a;have s03:=(s1.trans s2).trans s3;generalize hH3:upd H2 l3 (.lst ((W++Tx).map vN))=H3 at*;clear hH3 s3 n3 h1a s2 n2 s1;refine seq_g λ R1 g1=>?_
  refine⟨_,rfl,l3,_,rfl,.inl (SqL.of hS3),_,rfl,l1,_,rfl,.inl (SqL.of hS1),_,_,rfl,rfl,g1 _ _ ?_⟩;clear g1;have ep:(((W++Tx).map vN).length:Int)-((Tx.map vN).length:Int)=((W.length:Nat):Int):=by
   rw [List.length_map,List.length_map,List.length_append];lia
  try dsimp only
  rw [ep];generalize hS:W++Tx=S at*;have hSl:S.length=W.length+Tx.length:=by rw [<-hS,List.length_append]
  refine seq_g λ R1 g1=>?_
  refine⟨by decide,λ l5 n5=>g1 _ _ ?_⟩;clear g1;have s5:=ak (o:=.lst []) n5;have n5':H l5=none:=none_of s03 n5;have hS5:=s5 _ _ hS3;have n35:l3≠l5:=af hS3 n5;have s05:=s03.trans s5;refine seq_g λ R1 g1=>?_
  refine⟨λ n σ H2=>∃(q:Nat) (Pp:List Pc) (ts:List Addr) (v6:Option V),n=S.length-q/\σ=[some (.ref a),some x,some (.ref l1),some (.ref l3),some (vN q),some (.ref l5),v6]/\q≤S.length/\Walk S W.length Pp q/\H2 l3=some (.lst (S.map vN))/\H2 l5=some (.lst (ts.map V.ref))/\PT' H2 ts Pp/\Same H H2,
   ⟨S.length-W.length,W.length,[],[],none,rfl,rfl,by lia,rfl,hS5,upd_same,⟨rfl,λ i b y h=>by simp at h⟩,s05⟩,?_⟩
  rintro n σ H2 ⟨q,Pp,ts,v6,rfl,rfl,hq,hw,h3,h5,hts,sm⟩;refine⟨_,rfl,_,rfl,l3,_,rfl,.inl (SqL.of h3),_,_,rfl,rfl,_,rfl,aJ (λ hc=>?_) (λ hc=>?_)⟩
  ·have hq2:q<S.length:=by have:=of_decide_eq_true hc;rw [List.length_map] at this;lia
   refine⟨λ σ' H'=>∃(q':Nat) (Pp:List Pc) (ts:List Addr) (v6:Option V),q<q'/\σ'=[some (.ref a),some x,some (.ref l1),some (.ref l3),some (vN q'),some (.ref l5),v6]/\q'≤S.length/\Walk S W.length Pp q'/\H' l3=some (.lst (S.map vN))/\H' l5=some (.lst (ts.map V.ref))/\PT' H' ts Pp/\Same H H',
    λ σ' H' ⟨q',Pp,ts,v6,hlt,z1,z2,z⟩=>⟨S.length-q',by lia,q',Pp,ts,v6,rfl,z1,z2,z⟩,?_⟩
   have hlen:Pp.length≤S.length:=by have:=bW hw;lia
   have hpz:=fF hq2;refine seq_g λ R2 g2=>?_
   refine⟨_,rfl,_,rfl,l3,S,q,rfl,h3,hq2,by lia,λ t nt=>g2 _ _ ?_⟩;clear g2;have st:=ak (o:=.tup [.str (Str.ofString "copy"),vN (lcAt S q).1,vN (lcAt S q).2]) nt;have ht:(upd H2 t (.tup [.str (Str.ofString "copy"),vN (lcAt S q).1,vN (lcAt S q).2])) t=some (.tup [.str (Str.ofString "copy"),vN (lcAt S q).1,vN (lcAt S q).2]):=upd_same;have h3t:=st _ _ h3;have h5t:=st _ _ h5;have htst:=hts.keep (H':=upd H2 t (.tup [.str (Str.ofString "copy"),vN (lcAt S q).1,vN (lcAt S q).2])) λ _ _ z=>st _ _ z
   have smt:=sm.trans st;generalize hHt:upd H2 t (.tup [.str (Str.ofString "copy"),vN (lcAt S q).1,vN (lcAt S q).2])=Ht at*;clear hHt st;have hap:∀(H4:Hp) (u:Addr),H4 l5=some (.lst (ts.map V.ref))->H4 l3=some (.lst (S.map vN))->PT' H4 ts Pp->Same H H4->H4 u=some (.tup (itm (pcAt S q)))->
     (upd H4 l5 (.lst (ts.map V.ref++[.ref u]))) l3=some (.lst (S.map vN))/\(upd H4 l5 (.lst (ts.map V.ref++[.ref u]))) l5=some (.lst ((ts++[u]).map V.ref))/\PT' (upd H4 l5 (.lst (ts.map V.ref++[.ref u]))) (ts++[u]) (Pp++[pcAt S q])/\Same H (upd H4 l5 (.lst (ts.map V.ref++[.ref u]))):=by
    intro H4 u a5 a3 at' as au;have kt:∀b xs,H4 b=some (.tup xs)->(upd H4 l5 (.lst (ts.map V.ref++[.ref u]))) b=some (.tup xs):=λ b xs z=>by
     rw [upd_ne (ne_of z a5 (by intro y;cases y))];exact z
    refine⟨by rw [upd_ne n35];exact a3,by rw [upd_same,List.map_append];rfl,(at'.keep kt).snoc (kt _ _ au),λ b o z=>?_⟩;rw [upd_ne (af z n5')];exact as _ _ z
   refine⟨_,rfl,t,_,_,_,rfl,rfl,SqT.of ht,aw (j:=2) rfl,_,_,rfl,rfl,_,rfl,aJ (λ h6=>?_) (λ h6=>?_)⟩
   ·have h7:3≤(lcAt S q).2:=by have:=of_decide_eq_true h6;lia
    have epc:pcAt S q=.cp (lcAt S q).1 (lcAt S q).2:=by unfold pcAt;rw [if_pos h7]
    obtain⟨b3,b5,bt,bs⟩:=hap Ht t h5t h3t htst smt (by rw [epc];exact ht);refine⟨_,rfl,.inl ⟨rfl,_,SqL.of h5t⟩,_,rfl,l5,_,_,rfl,rfl,h5t,aU (by rw [List.length_map,hts.1];lia),?_⟩;have ht2:(upd Ht l5 (.lst (ts.map V.ref++[.ref t]))) t=some (.tup [.str (Str.ofString "copy"),vN (lcAt S q).1,vN (lcAt S q).2]):=by
     rw [upd_ne (ne_of ht h5t (by intro y;cases y))];exact ht
    refine⟨_,rfl,_,rfl,t,_,_,_,rfl,rfl,SqT.of ht2,aw (j:=2) rfl,_,_,rfl,rfl,?_⟩;rw [epc] at bt hpz;have hw2:=ci hw hq2;rw [epc] at hw2;have hz:(Pc.cp (lcAt S q).1 (lcAt S q).2).size=(lcAt S q).2:=rfl;rw [hz] at hw2 hpz;refine⟨q+(lcAt S q).2,_,_,some (.ref t),by lia,?_,hpz.2,hw2,b3,b5,bt,bs⟩;have e2:((q:Nat):Int)+(((lcAt S q).2:Nat):Int)=((q+(lcAt S q).2:Nat):Int):=by lia
    try dsimp only
    rw [e2];rfl
   ·have h7:¬3≤(lcAt S q).2:=λ z=>h6 (decide_eq_true (by lia))
    have epc:pcAt S q=.sg S[q]:=by unfold pcAt;rw [if_neg h7];simp [List.getD,hq2]
    refine⟨_,rfl,.inl ⟨rfl,_,SqL.of h5t⟩,_,rfl,_,rfl,l3,_,_,_,rfl,rfl,SqL.of h3t,aw (bC hq2),(by show 2≤sizeLine;decide),λ u nu=>?_⟩;have su:=ak (o:=.tup [.str (Str.ofString "sign"),vN S[q]]) nu;obtain⟨b3,b5,bt,bs⟩:=hap (upd Ht u (.tup [.str (Str.ofString "sign"),vN S[q]])) u (su _ _ h5t) (su _ _ h3t) (htst.keep λ _ _ z=>su _ _ z) (smt.trans su) (by rw [epc];exact upd_same);refine⟨l5,_,_,rfl,rfl,su _ _ h5t,aU (by rw [List.length_map,hts.1];lia),?_⟩;refine⟨_,rfl,_,_,rfl,rfl,?_⟩;have hw2:=ci hw hq2;rw [epc] at bt hw2 hpz;exact⟨q+1,_,_,some (.ref t),by lia,rfl,hpz.2,hw2,b3,b5,bt,bs⟩
  ·have hq2:q=S.length:=by
    have h1:¬(decide (((q:Nat):Int)<((S.map vN).length:Int))=true):=hc;rw [List.length_map] at h1;have:¬(((q:Nat):Int)<((S.length:Nat):Int)):=λ z=>h1 (decide_eq_true z)
    lia
   subst hq2;refine g1 _ _ ⟨_,rfl,?_⟩;exact k l5 Pp H2 sm n5' ⟨ts,h5,hts⟩ hw
def oO:Sp:=λ vs H Q _=>∃(l:Addr) (B:List Nat) (b z:Nat),vs=[.ref l,vN b,vN z]/\H l=some (.lst (B.map vN))/\1≤b/\b≤B.length/\B.length+z≤1000/\Q .non (upd H l (.lst ((cpy B b z).map vN)))
theorem scAddCopy:FnScope ["signs","back","size","step"] ["signs","back","size"] (defScope di):=⟨rfl,rfl,rfl,by decide+kernel,rfl,by decide+kernel,by decide+kernel⟩
theorem lR {f:Addr}{fd:FuncData}(F:Fn K mg "add_copy" di ["signs","back","size"] f fd)(T:Txt K mg):FnOk P w K mg base CX0 1 f fd ["signs","back","size"] oO:=by
 refine F.F.ok scAddCopy (λ vs H Q E h=>?_) (λ cdv A outer s H vs Q E hr h=>?_)
 ·obtain⟨l,B,b,z,rfl,_⟩:=h;rfl
 ·obtain⟨l,B,b,z,rfl,hB,hb1,hb2,hz,k⟩:=h;refine⟨_,ag (aS PassesOwn.never rfl (bw (by rfl) T.range (aa (pv 2) ad)) (aF (i:=3) scAddCopy.nd rfl (Or.inl rfl))
    (ag (aD (b7 PySem.F.plainAttrs_list PySem.F.slot_list_append PySem.F.type_list_append aO (pv 0) (aa (aL aN (pv 0) (uP rZ (pv 1)) (λ _ _=>rfl)) ad))))),?_⟩
  refine⟨_,rfl,((z:Nat):Int),rfl,by lia,by lia,?_⟩
  try dsimp only
  rw [Int.toNat_natCast];refine bc (D:=⟨_,_,λ _ _=>False,λ _ _=>False⟩) (lo:=0) (n:=z) (λ j σ H2=>∃v3:Option V,σ=[some (.ref l),some (vN b),some (vN z),v3]/\H2=upd H l (.lst ((cpy B b j).map vN))) ⟨none,rfl,?_⟩ ?_ ?_
  ·funext c;by_cases e:c=l
   ·subst e;rw [upd_same];exact hB
   ·rw [upd_ne e]
  ·rintro j σ H2 hj ⟨v3,rfl,rfl⟩;have hlen:=dW B b j;have hg:(cpy B b j).length-b<(cpy B b j).length:=by lia
   refine⟨_,rfl,.inl ⟨rfl,_,SqL.of upd_same⟩,_,rfl,_,rfl,_,rfl,l,_,_,vN ((cpy B b j).getD ((cpy B b j).length-b) 0),rfl,rfl,SqL.of upd_same,ng hb1 (by rw [List.length_map];lia) ?_,?_⟩
   ·rw [List.length_map,bC hg,List.getD_eq_getElem?_getD,List.getElem?_eq_getElem hg];rfl
   ·refine⟨l,_,_,rfl,rfl,upd_same,aU (by rw [List.length_map];lia),?_⟩;refine⟨some (V.int ((0:Int)+((j:Nat):Int))),rfl,?_⟩;rw [uD,cpy,List.map_append];rfl
  ·rintro σ H2 ⟨v3,rfl,rfl⟩;exact k
end
def app (B:List Nat):Pc->List Nat
 | .sg s=>B++[s]
 | .cp b z=>cpy B b z
def runP (B:List Nat)(P:List Pc):List Nat:=P.foldl app B
def dg (B:List Nat):Pc->Prop
 | .sg s=>s<256
 | .cp b z=>1≤b/\b≤255/\b≤B.length/\3≤z/\z≤18
def GR:List Nat->List Pc->Prop
 |_,[]=>True
 |B,x::P=>dg B x/\GR (app B x) P
theorem gQ (B:List Nat)(x:Pc):(app B x).length=B.length+x.size:=by
 cases x with
 |sg s=>show(B++[s]).length=B.length+1;simp
 |cp b z=>exact dW B b z
theorem oy (B:List Nat)(P:List Pc)(x:Pc):runP B (P++[x])=app (runP B P) x:=by simp [runP]
theorem GR.at:∀{P:List Pc} {B:List Nat} {i:Nat} {x:Pc},GR B P->P[i]?=some x->dg (runP B (P.take i)) x
 |y::P,B,0,x,h,e=>by simp at e;subst e;exact h.1
 |y::P,B,i+1,x,h,e=>by
  have:=GR.at (P:=P) (B:=app B y) (i:=i) (x:=x) h.2 (by simpa using e);exact this
theorem GR.snoc:∀{P:List Pc} {B:List Nat} {x:Pc},GR B P->dg (runP B P) x->GR B (P++[x])
 | [],B,x,_,g=>⟨g,trivial⟩
 |y::P,B,x,h,g=>⟨h.1,GR.snoc (P:=P) (B:=app B y) h.2 g⟩
theorem oA {B:List Nat}{x:Pc}(h:dg B x):1≤x.size/\x.size≤18:=by
 cases x with
 |sg s=>exact⟨Nat.le_refl _,by show 1≤18;decide⟩
 |cp b z=>
  obtain⟨_,_,_,h1,h2⟩:1≤b/\b≤255/\b≤B.length/\3≤z/\z≤18:=h;exact⟨by show 1≤z;lia,h2⟩
theorem GR.len:∀{P:List Pc} {B:List Nat},GR B P->B.length+P.length≤(runP B P).length
 | [],B,_=>Nat.le_refl _
 |x::P,B,h=>by
  have h1:=GR.len (P:=P) (B:=app B x) h.2;have h2:=oA h.1;rw [gQ] at h1;show B.length+(P.length+1)≤(runP (app B x) P).length;lia
theorem GR.take:∀{P:List Pc} {B:List Nat} (i:Nat),GR B P->GR B (P.take i)
 |_,_,0,_=>trivial
 | [],_,i+1,_=>trivial
 |x::P,B,i+1,h=>⟨h.1,GR.take (P:=P) i h.2⟩
theorem mi (B:List Nat)(P:List Pc)(i:Nat):runP B P=runP (runP B (P.take i)) (P.drop i):=by
 unfold runP;rw [<-List.foldl_append,List.take_append_drop]
theorem GR.drop:∀{P:List Pc} {B:List Nat} (i:Nat),GR B P->GR (runP B (P.take i)) (P.drop i)
 |_,_,0,h=>h
 | [],_,i+1,_=>trivial
 |x::P,B,i+1,h=>GR.drop (P:=P) (B:=app B x) i h.2
theorem vU {S:List Nat}{p:Nat}(hb:∀b∈S,b<256)(hp:p<S.length):dg (S.take p) (pcAt S p)/\app (S.take p) (pcAt S p)=S.take (p+(pcAt S p).size):=by
 cases e:pcAt S p with
 |sg s=>
  have h:=uf hp e;refine⟨hb s (List.mem_of_getElem? h),?_⟩;show S.take p++[s]=S.take (p+1);rw [List.take_add_one,h];rfl
 |cp b z=>
  obtain⟨h1,h2,h3,h4,h5,h6,h7,_⟩:=uE hp e;refine⟨⟨h1,h3,by rw [List.length_take];lia,h4,h5⟩,?_⟩;exact kK h1 h2 h6 h7 z (Nat.le_refl _)
theorem kh {S:List Nat}(hb:∀b∈S,b<256):∀{P:List Pc} {p q:Nat},Walk S p P q->GR (S.take p) P/\runP (S.take p) P=S.take q
 | [],p,q,h=>by cases h;exact⟨trivial,rfl⟩
 |x::P,p,q,⟨h1,h2,h3⟩=>by
  subst h2;obtain⟨g,e⟩:=vU hb h1;obtain⟨i1,i2⟩:=kh hb h3;refine⟨⟨g,by rw [e];exact i1⟩,?_⟩;show runP (app (S.take p) (pcAt S p)) P=_;rw [e];exact i2
theorem ik {S:List Nat}:∀{P P':List Pc} {p q:Nat},Walk S p P q->Walk S p P' q->P=P'
 | [],[],_,_,_,_=>rfl
 | [],x::P',p,q,h,h'=>by
  cases h;have:=bW h';rw [List.length_cons] at this;lia
 |x::P,[],p,q,h,h'=>by
  cases h';have:=bW h;rw [List.length_cons] at this;lia
 |x::P,x'::P',p,q,⟨_,h2,h3⟩,⟨_,h2',h3'⟩=>by
  subst h2 h2';rw [ik h3 h3']
theorem ip {W T:List Nat}{P:List Pc}(hW:∀b∈W,b<256)(hT:∀b∈T,b<256)(h:Walk (W++T) W.length P (W++T).length):GR W P/\runP W P=W++T/\P.length≤T.length:=by
 have hb:∀b∈W++T,b<256:=λ b z=>by
  rcases List.mem_append.mp z with z|z
  ·exact hW b z
  ·exact hT b z
 obtain⟨h1,h2⟩:=kh hb h;rw [List.take_left] at h1 h2;rw [List.take_length] at h2;have:=bW h;rw [List.length_append] at this;exact⟨h1,h2,by lia⟩
structure Wys (K:PySem.W.Frag)(mg:Str->Option Value):Prop where
 V:Wins K mg
 pieces:∃f fd,FnD K mg "pieces_of" sPiecesOf ["text","before"] f fd
 addcopy:∃f fd,Fn K mg "add_copy" di ["signs","back","size"] f fd
 needahead:∃f fd,Fn K mg "need_ahead" cF ["before"] f fd
 needsigns:∃f fd,Fn K mg "need_signs" de ["text","before"] f fd
 aheadof:∃f fd,Fn K mg "signs_ahead" eS ["before"] f fd
 needroom:∃f fd,Fn K mg "need_room" cR ["signs","size","end"] f fd
 laycopy:∃f fd,Fn K mg "lay_copy" fb ["signs","back","size","end"] f fd
section
variable {P : Program} {w : World} {K : PySem.W.Frag} {mg : Str -> Option Value} {base : Heap} {B D : Addr}
def o0:Sp:=λ vs H Q _=>∃(x:V) (W:List Nat),vs=[x]/\WinV H x W/\∀l,H l=none->Q (.ref l) (upd H l (.lst (W.map vN)))
theorem ox:FnScope ["before"] ["before"] (defScope eS):=⟨rfl,rfl,rfl,by decide+kernel,rfl,by decide+kernel,by decide+kernel⟩
theorem mj {f:Addr}{fd:FuncData}(F:Fn K mg "signs_ahead" eS ["before"] f fd)(T:Txt K mg):FnOk P w K mg base CX0 1 f fd ["before"] o0:=by
 refine F.F.ok ox (λ vs H Q E h=>?_) (λ cdv A outer s H vs Q E hr h=>?_)
 ·obtain⟨x,W,rfl,_⟩:=h;rfl
 ·obtain⟨x,W,rfl,hx,k⟩:=h;refine⟨_,ag (az (eC (ar iW (pv 0) dU (ax _)) (aV ad) (bj aZ (by rfl) T.list PyProof.Rows.boot_list (aa (pv 0) ad)))),?_⟩;rcases hx with⟨rfl,rfl⟩|⟨b,rfl,hB⟩
  ·exact⟨_,rfl,rfl,_,rfl,aJ (λ _=>⟨by decide,λ l nl=>k l nl⟩) (λ h=>absurd (decide_eq_true rfl) h)⟩
  ·exact⟨_,rfl,rfl,_,rfl,aJ (λ h=>absurd (of_decide_eq_true h) (by intro z;cases z)) (λ _=>⟨_,rfl,b,_,rfl,.inl (SqL.of hB),λ l nl=>k l nl⟩)⟩
def wX:Sp:=λ vs H Q _=>∃(l:Addr) (S:List Nat) (b z e:Nat),vs=[.ref l,vN b,vN z,vN e]/\H l=some (.lst (S.map vN))/\1≤b/\b≤S.length/\S.length+z≤e/\e≤1000/\Q .non (upd H l (.lst ((cpy S b z).map vN)))
theorem wM:FnScope ["signs","back","size","end"] ["signs","back","size","end"] (defScope fb):=⟨rfl,rfl,rfl,by decide+kernel,rfl,by decide+kernel,by decide+kernel⟩
theorem vn {f fN fA:Addr}{fd fdN fdA:FuncData}(F:Fn K mg "lay_copy" fb ["signs","back","size","end"] f fd)(Nr:Fn K mg "need_room" cR ["signs","size","end"] fN fdN)(Ac:Fn K mg "add_copy" di ["signs","back","size"] fA fdA)(T:Txt K mg):FnOk P w K mg base CX0 2 f fd ["signs","back","size","end"] wX:=by
 have GN:=kP (P:=P) (w:=w) (base:=base) Nr T;have GA:=lR (P:=P) (w:=w) (base:=base) Ac T;refine F.F.ok wM (λ vs H Q E h=>?_) (λ cdv A outer s H vs Q E hr h=>?_)
 ·obtain⟨l,S,b,z,e,rfl,_⟩:=h;rfl
 ·obtain⟨l,S,b,z,e,rfl,hl,hb1,hb2,hze,he,k⟩:=h;refine⟨_,ac (aD (am GN hr (by rfl) Nr.m Nr.F.kp Nr.b .nil ap (aa (pv 0) (aa (pv 2) (aa (pv 3) ad)))))
   (ac (aM (PW.pt (il (ar bh (pv 1) ae (ax _)) (fo (ar cz (pv 1) (aq ao (by rfl) T.len PySem.boot_len (aa (pv 0) ad)) (ax _))))) (ag aT) aB)
   (ag (aD (am GA hr (by rfl) Ac.m Ac.F.kp Ac.b .nil ap (aa (pv 0) (aa (pv 1) (aa (pv 2) ad))))))),?_⟩
  refine seq_g λ R1 g1=>?_
  refine⟨_,rfl,_,rfl,_,rfl,l,_,z,e,rfl,hl,by rw [List.length_map];exact hze,g1 _ _ ?_⟩;clear g1;refine seq_g λ R1 g1=>?_
  refine⟨_,rfl,rfl,_,rfl,aJ (λ h=>?_) (λ _=>?_)⟩
  ·have:=of_decide_eq_true h;injection this with this
   lia
  refine⟨_,rfl,_,rfl,l,_,rfl,.inl (SqL.of hl),_,_,rfl,rfl,_,rfl,aJ (λ h=>?_) (λ _=>g1 _ _ ?_)⟩
  ·have:=of_decide_eq_true h;rw [List.length_map] at this;lia
  exact⟨_,rfl,_,rfl,_,rfl,l,S,b,z,rfl,hl,hb1,hb2,by lia,k⟩
end
end K19
namespace SM
section
variable {α κ : Type} {blt : κ -> κ -> Bool} {kf : α -> κ}
structure Ord (blt:κ->κ->Bool):Prop where
 irr:∀a,blt a a=false
 tr:∀a b c,blt a b=true->blt b c=true->blt a c=true
 neg:∀a b c,blt a c=true->blt a b=true\/blt b c=true
 tot:∀a b,blt a b=false->blt b a=false->a=b
variable (O : Ord blt)
abbrev Le (blt:κ->κ->Bool)(kf:α->κ)(x y:α):Prop:=blt (kf y) (kf x)=false
abbrev Lt (blt:κ->κ->Bool)(kf:α->κ)(x y:α):Prop:=blt (kf x) (kf y)=true
include O
theorem le_of_lt {x y:α}(h:Lt blt kf x y):Le blt kf x y:=by
 cases e:blt (kf y) (kf x) with
 |false=>exact e
 |true=>have:=O.tr _ _ _ h e;rw [O.irr] at this;cases this
theorem le_trans {x y z:α}(h1:Le blt kf x y)(h2:Le blt kf y z):Le blt kf x z:=by
 cases e:blt (kf z) (kf x) with
 |false=>exact e
 |true=>
  rcases O.neg _ (kf y) _ e with h|h
  ·rw [show blt (kf z) (kf y)=false from h2] at h;cases h
  ·rw [show blt (kf y) (kf x)=false from h1] at h;cases h
theorem cx {x y z:α}(h1:Lt blt kf x y)(h2:Le blt kf y z):Lt blt kf x z:=by
 rcases O.neg _ (kf z) _ h1 with h|h
 ·exact h
 ·rw [show blt (kf z) (kf y)=false from h2] at h;cases h
theorem dl {x y z:α}(h1:Le blt kf x y)(h2:Lt blt kf y z):Lt blt kf x z:=by
 rcases O.neg _ (kf x) _ h2 with h|h
 ·rw [show blt (kf y) (kf x)=false from h1] at h;cases h
 ·exact h
omit O in
def eqv (blt:κ->κ->Bool)(kf:α->κ)(k:κ)(x:α):Bool:= !blt (kf x) k&& !blt k (kf x)
omit O in
theorem eqv_iff {k:κ}{x:α}:eqv blt kf k x=true<->blt (kf x) k=false/\blt k (kf x)=false:=by unfold eqv;simp
omit O in
def Stb (blt:κ->κ->Bool)(kf:α->κ)(xs ys:List α):Prop:=∀k,xs.filter (eqv blt kf k)=ys.filter (eqv blt kf k)
omit O in
theorem Stb.refl (xs:List α):Stb blt kf xs xs:=λ _=>rfl
omit O in
theorem Stb.trans {xs ys zs:List α}(h:Stb blt kf xs ys)(g:Stb blt kf ys zs):Stb blt kf xs zs:=λ k=>(h k).trans (g k)
omit O in
theorem Stb.symm {xs ys:List α}(h:Stb blt kf xs ys):Stb blt kf ys xs:=λ k=>(h k).symm
omit O in
theorem Stb.app {xs ys us vs:List α}(h:Stb blt kf xs ys)(g:Stb blt kf us vs):Stb blt kf (xs++us) (ys++vs):=λ k=>by rw [List.filter_append,List.filter_append,h k,g k]
omit O in
theorem eqv_self (O:Ord blt)(x:α):eqv blt kf (kf x) x=true:=by unfold eqv;simp [O.irr]
theorem Stb.mem {xs ys:List α}(h:Stb blt kf xs ys){x:α}(hx:x∈xs):x∈ys:=by
 have:x∈xs.filter (eqv blt kf (kf x)):=List.mem_filter.mpr ⟨hx,eqv_self O x⟩;rw [h] at this;exact(List.mem_filter.mp this).1
theorem cX {X Y:List α}(h:∀y∈Y,∀x∈X,Lt blt kf y x):Stb blt kf (X++Y) (Y++X):=λ k=>by
 rw [List.filter_append,List.filter_append];by_cases hx:∃x∈X,eqv blt kf k x=true
 ·obtain⟨x,hx,ex⟩:=hx;have hy:Y.filter (eqv blt kf k)=[]:=List.filter_eq_nil_iff.mpr λ y hy ey=>by
   have l:=h y hy x hx;have ex:=eqv_iff.mp ex;have ey:=eqv_iff.mp ey;have:blt (kf y) k=true\/blt k (kf x)=true:=O.neg _ k _ l;rcases this with z|z
   ·rw [ey.1] at z;cases z
   ·rw [ex.2] at z;cases z
  rw [hy,List.append_nil,List.nil_append]
 ·have hx':X.filter (eqv blt kf k)=[]:=List.filter_eq_nil_iff.mpr λ x hx' ex=>hx ⟨x,hx',ex⟩
  rw [hx',List.append_nil,List.nil_append]
theorem stb_uniq:∀{xs ys:List α},xs.Pairwise (Le blt kf)->ys.Pairwise (Le blt kf)->Stb blt kf xs ys->xs=ys
 | [],[],_,_,_=>rfl
 | [],y::ys,_,_,h=>by have:=Stb.mem O h.symm (List.mem_cons_self (a:=y) (l:=ys));cases this
 |x::xs,[],_,_,h=>by have:=Stb.mem O h (List.mem_cons_self (a:=x) (l:=xs));cases this
 |x::xs,y::ys,hx,hy,h=>by
  have hxm:=Stb.mem O h (List.mem_cons_self (a:=x) (l:=xs));have hym:=Stb.mem O h.symm (List.mem_cons_self (a:=y) (l:=ys));have l1:Le blt kf x y:=by
   rcases List.mem_cons.mp hym with rfl|z
   ·exact O.irr _
   ·exact(List.pairwise_cons.mp hx).1 y z
  have l2:Le blt kf y x:=by
   rcases List.mem_cons.mp hxm with rfl|z
   ·exact O.irr _
   ·exact(List.pairwise_cons.mp hy).1 x z
  have ex:eqv blt kf (kf x) x=true:=eqv_self O x;have ey:eqv blt kf (kf x) y=true:=eqv_iff.mpr ⟨l1,l2⟩;have e:=h (kf x);rw [List.filter_cons_of_pos ex,List.filter_cons_of_pos ey] at e;obtain⟨rfl,_⟩:=List.cons.inj e;have ht:Stb blt kf xs ys:=λ k=>by
   have e:=h k;by_cases z:eqv blt kf k x=true
   ·rw [List.filter_cons_of_pos z,List.filter_cons_of_pos z] at e;exact(List.cons.inj e).2
   ·rw [List.filter_cons_of_neg z,List.filter_cons_of_neg z] at e;exact e
  rw [stb_uniq (List.pairwise_cons.mp hx).2 (List.pairwise_cons.mp hy).2 ht]
omit O in
structure Mg (blt:κ->κ->Bool)(kf:α->κ)(all out A B:List α):Prop where
 s1:(out++A).Pairwise (Le blt kf)
 s2:(out++B).Pairwise (Le blt kf)
 st:Stb blt kf (out++A++B) all
omit O in
theorem Mg.pushA {all out A B X:List α}(h:Mg blt kf all out (X++A) B)(hX:∀x∈X,∀y∈B,Le blt kf x y):Mg blt kf all (out++X) A B:=by
 refine⟨by rw [List.append_assoc];exact h.s1,?_,by rw [List.append_assoc out];exact h.st⟩;rw [List.append_assoc,List.pairwise_append];have h1:=List.pairwise_append.mp h.s1;have h2:=List.pairwise_append.mp h.s2;refine⟨h1.1,?_,λ a ha b hb=>?_⟩
 ·rw [List.pairwise_append];exact⟨(List.pairwise_append.mp h1.2.1).1,h2.2.1,hX⟩
 ·rcases List.mem_append.mp hb with z|z
  ·exact h1.2.2 a ha b (List.mem_append_left _ z)
  ·exact h2.2.2 a ha b z
theorem Mg.pushB {all out A B Y:List α}(h:Mg blt kf all out A (Y++B))(hY:∀y∈Y,∀x∈A,Lt blt kf y x):Mg blt kf all (out++Y) A B:=by
 have h1:=List.pairwise_append.mp h.s1;have h2:=List.pairwise_append.mp h.s2;refine⟨?_,by rw [List.append_assoc];exact h.s2,?_⟩
 ·rw [List.append_assoc,List.pairwise_append];refine⟨h1.1,?_,λ a ha b hb=>?_⟩
  ·rw [List.pairwise_append];exact⟨(List.pairwise_append.mp h2.2.1).1,h1.2.1,λ a ha b hb=>le_of_lt O (hY a ha b hb)⟩
  ·rcases List.mem_append.mp hb with z|z
   ·exact h2.2.2 a ha b (List.mem_append_left _ z)
   ·exact h1.2.2 a ha b z
 ·refine Stb.trans ?_ h.st;have:Stb blt kf (out++(Y++A)++B) (out++(A++Y)++B):=(Stb.refl out|>.app (cX O hY).symm).app (Stb.refl B);rw [<-List.append_assoc,<-List.append_assoc] at this;rw [<-List.append_assoc (out++A)];exact this
omit O in
theorem Mg.endA {all out A:List α}(h:Mg blt kf all out A []):(out++A).Pairwise (Le blt kf)/\Stb blt kf (out++A) all:=⟨h.s1,by have:=h.st;rwa [List.append_nil] at this⟩
omit O in
theorem Mg.endB {all out B:List α}(h:Mg blt kf all out [] B):(out++B).Pairwise (Le blt kf)/\Stb blt kf (out++B) all:=⟨h.s2,by have:=h.st;rwa [List.append_nil] at this⟩
omit O in
structure Mh (blt:κ->κ->Bool)(kf:α->κ)(all A B out:List α):Prop where
 s1:(A++out).Pairwise (Le blt kf)
 s2:(B++out).Pairwise (Le blt kf)
 st:Stb blt kf (A++B++out) all
omit O in
theorem Mh.pushB {all A B out Y:List α}(h:Mh blt kf all A (B++Y) out)(hY:∀x∈A,∀y∈Y,Le blt kf x y):Mh blt kf all A B (Y++out):=by
 refine⟨?_,by rw [<-List.append_assoc];exact h.s2,by rw [<-List.append_assoc,List.append_assoc A];exact h.st⟩;have h1:=List.pairwise_append.mp h.s1;have h2:=List.pairwise_append.mp h.s2;rw [List.pairwise_append];refine⟨h1.1,?_,λ a ha b hb=>?_⟩
 ·rw [List.pairwise_append];exact⟨(List.pairwise_append.mp h2.1).2.1,h2.2.1,λ a ha b hb=>h2.2.2 a (List.mem_append_right _ ha) b hb⟩
 ·rcases List.mem_append.mp hb with z|z
  ·exact hY a ha b z
  ·exact h1.2.2 a ha b z
theorem Mh.pushA {all A B out X:List α}(h:Mh blt kf all (A++X) B out)(hX:∀y∈B,∀x∈X,Lt blt kf y x):Mh blt kf all A B (X++out):=by
 have h1:=List.pairwise_append.mp h.s1;have h2:=List.pairwise_append.mp h.s2;refine⟨by rw [<-List.append_assoc];exact h.s1,?_,?_⟩
 ·rw [List.pairwise_append];refine⟨h2.1,?_,λ a ha b hb=>?_⟩
  ·rw [List.pairwise_append];exact⟨(List.pairwise_append.mp h1.1).2.1,h1.2.1,λ a ha b hb=>h1.2.2 a (List.mem_append_right _ ha) b hb⟩
  ·rcases List.mem_append.mp hb with z|z
   ·exact le_of_lt O (hX a ha b z)
   ·exact h2.2.2 a ha b z
 ·refine Stb.trans ?_ h.st;have:Stb blt kf (A++(B++X)++out) (A++(X++B)++out):=(Stb.refl A|>.app (cX O hX).symm).app (Stb.refl out);rw [<-List.append_assoc,<-List.append_assoc] at this;rw [<-List.append_assoc (A++B)];exact this
omit O in
theorem Mh.endA {all A out:List α}(h:Mh blt kf all A [] out):(A++out).Pairwise (Le blt kf)/\Stb blt kf (A++out) all:=⟨h.s1,by have:=h.st;rwa [List.append_nil] at this⟩
omit O in
theorem Mh.endB {all B out:List α}(h:Mh blt kf all [] B out):(B++out).Pairwise (Le blt kf)/\Stb blt kf (B++out) all:=⟨h.s2,h.st⟩
end
end SM
namespace SG
open PySem PyProof.Rows
def eh:Bool->Keyed->Array Keyed->Nat->Nat->Nat->StateT SortSt Sem (Option Nat):=sortPriv%PySem.Builtin.gallop
def pV:Array Keyed->Array Keyed->StateT SortSt Sem (Array Keyed):=sortPriv%PySem.Builtin.mergeLo
def qv:Array Keyed->Array Keyed->StateT SortSt Sem (Array Keyed):=sortPriv%PySem.Builtin.mergeHi
def kf (κ:KeyKind)(p:Keyed):κ.α:=(κ.keyOf p.1).getD κ.dflt
def Has (κ:KeyKind)(p:Keyed):Prop:=∃a,κ.keyOf p.1=some a
theorem ord (κ:KeyKind):SM.Ord κ.blt:=⟨κ.irrefl,κ.trans,κ.negTrans,κ.total⟩
section
variable {prog : Program} {w : World} {A : Around} {E : Value -> Shared -> Prop} {s : Shared} {κ : KeyKind}
theorem gv (hO:κ.OneLt){st:SortSt}{x y:Keyed}{Q:Option Bool->SortSt->Prop}(hk:kindOf st=oneType')(hx:Has κ x)(hy:Has κ y)(h:Q (some (κ.blt (kf κ x) (kf κ y))) st):
  wpS (model prog w) A E s (lt' x y) Q st:=by
 obtain⟨a,ha⟩:=hx;obtain⟨b,hb⟩:=hy;rw [lt'_eq];refine wpS_bind (wpS_get ?_);rw [hk,keyLt'_oneType];refine wpS_bind (wpS_lift (wpAny_attempt (hO prog w A _ s x.1 y.1 a b ha hb ⟨rfl,?_⟩)));unfold kf at h;rw [ha,hb] at h;exact wpS_pure h
theorem wpS_elem {st:SortSt}{arr:Array Keyed}{i:Nat}{Q:Keyed->SortSt->Prop}(hi:i<arr.size)(h:Q arr[i] st):wpS (model prog w) A E s (elem' arr i) Q st:=by
 rw [elem'_eq,getElem?_pos arr i hi];exact wpS_pure h
def byd (κ:KeyKind)(left:Bool)(key:Keyed)(arr:Array Keyed)(j:Nat):Bool:=if left=true then κ.blt (KK κ arr j) (kf κ key) else !κ.blt (kf κ key) (KK κ arr j)
theorem cO {arr:Array Keyed}{j:Nat}(h:j<arr.size):KK κ arr j=kf κ arr[j]:=by unfold KK;rw [getElem?_pos arr j h];rfl
def vT (left:Bool)(key:Keyed)(arr:Array Keyed)(j:Nat):StateT SortSt Sem (Option Bool):=elem' arr j>>= λ y=>if left=true then lt' y key else lt' key y>>= λ o=>pure (o.map λ c=> !c)
theorem uv (hO:κ.OneLt){st:SortSt}{left:Bool}{key:Keyed}{arr:Array Keyed}{j:Nat}{Q:Option Bool->SortSt->Prop}(hk:kindOf st=oneType')(hj:j<arr.size)(hkey:Has κ key)(ha:Has κ arr[j])
  (h:Q (some (byd κ left key arr j)) st):wpS (model prog w) A E s (vT left key arr j) Q st:=by
 unfold vT;unfold byd at h;rw [cO hj] at h;refine wpS_bind (wpS_elem hj ?_);cases left with
 |true=>
  simp only [if_true] at h ⊢;exact gv hO hk ha hkey h
 |false=>
  simp only [Bool.false_eq_true,if_false] at h ⊢;exact wpS_bind (gv hO hk hkey ha (wpS_pure h))
theorem mP {st:SortSt}{n lo hi:Nat}{c:Nat->Bool}{f:Nat->(Option (Option Nat)×Nat×Nat)->StateT SortSt Sem (ForInStep (Option (Option Nat)×Nat×Nat))}{Q:(Option (Option Nat)×Nat×Nat)->SortSt->Prop}
  (h1:lo≤hi) (h2:hi≤n) (mono:∀i j,i≤j->j<n->c j=true->c i=true) (hlo:∀i,i<lo->c i=true) (hhi:∀i,hi≤i->i<n->c i=false)
  (fd:∀x lo hi,lo≥hi->wpS (model prog w) A E s (f x (none,lo,hi)) (λ r st'=>st'=st/\r=.done (none,lo,hi)) st)
  (fy:∀x lo hi,lo<hi->hi≤n->wpS (model prog w) A E s (f x (none,lo,hi)) (λ r st'=>st'=st/\r=if c (lo+(hi-lo)/2)=true then .yield (none,lo+(hi-lo)/2+1,hi) else .yield (none,lo,lo+(hi-lo)/2)) st)
  (h:∀k,k≤n->(∀i,i<k->c i=true)->(∀i,k≤i->i<n->c i=false)->Q (none,k,k) st):wpS (model prog w) A E s (forIn [:n] (none,lo,hi) f) Q st:=by
 refine wpS_forRange (I:=λ x d st'=>st'=st/\∃lo hi,d=(none,lo,hi)/\lo≤hi/\hi≤n/\hi-lo≤n-x/\(∀i,i<lo->c i=true)/\(∀i,hi≤i->i<n->c i=false)) ?_ ?_ ⟨rfl,lo,hi,rfl,h1,h2,by lia,hlo,hhi⟩
 ·rintro x d st' _ hx ⟨rfl,lo,hi,rfl,h1,h2,h3,hlo,hhi⟩;by_cases hge:lo≥hi
  ·refine wpS_mono (fd x lo hi hge) ?_;rintro r st' ⟨rfl,rfl⟩;have:lo=hi:=by lia
   subst this;exact h lo h2 hlo hhi
  ·refine wpS_mono (fy x lo hi (by lia) h2) ?_;rintro r st' ⟨rfl,rfl⟩;by_cases hc:c (lo+(hi-lo)/2)=true
   ·rw [if_pos hc];exact⟨rfl,_,_,rfl,by lia,h2,by lia,λ i hi'=>mono i _ (by lia) (by lia) hc,hhi⟩
   ·rw [if_neg hc];refine⟨rfl,_,_,rfl,by lia,by lia,by lia,hlo,λ i h1 h2=>?_⟩;cases e:c i with
    |false=>rfl
    |true=>exact absurd (mono _ i h1 h2 e) hc
 ·rintro d st' ⟨rfl,lo,hi,rfl,h1,h2,h3,hlo,hhi⟩;have:lo=hi:=by lia
  subst this;exact h lo h2 hlo hhi
theorem c6 (hO:κ.OneLt){left:Bool}{key:Keyed}{arr:Array Keyed}{base n hint:Nat}{st:SortSt}{Q:Option Nat->SortSt->Prop}(hk:kindOf st=oneType')(hn:base+n≤arr.size)(hh:hint<n)(hkey:Has κ key)
  (hall:∀p∈arr.toList,Has κ p) (mono:∀i j,i≤j->j<n->byd κ left key arr (base+j)=true->byd κ left key arr (base+i)=true)
  (h:∀k,k≤n->(∀i,i<k->byd κ left key arr (base+i)=true)->(∀i,k≤i->i<n->byd κ left key arr (base+i)=false)->Q (some k) st):
  wpS (model prog w) A E s (eh left key arr base n hint) Q st:=by
 have hB:∀(i:Nat) {Q':Option Bool->SortSt->Prop},i<n->Q' (some (byd κ left key arr (base+i))) st->wpS (model prog w) A E s (vT left key arr (base+i)) Q' st:=λ i Q' hi hq=>
  uv hO hk (by lia) hkey (hall _ (by simp)) hq
 have fin:∀lo hi,lo≤hi->hi≤n->(∀i,i<lo->byd κ left key arr (base+i)=true)->(∀i,hi≤i->i<n->byd κ left key arr (base+i)=false)->True:=λ _ _ _ _ _ _=>trivial
 refine wpS_bind (hB hint hh ?_);dsimp only;cases hr:byd κ left key arr (base+hint) with
 |true=>
  rw [if_pos rfl];refine wpS_bind (wpS_mono (wpS_forRange (I:=λ x d st'=>st'=st/\∃la of,d=(none,la,of)/\la<of/\x<of/\hint+la<n/\byd κ left key arr (base+(hint+la))=true)
   (Q:=λ d st'=>st'=st/\∃la of,d=(none,la,of)/\la<of/\hint+la<n/\byd κ left key arr (base+(hint+la))=true/\(n-hint≤of\/(hint+of<n/\byd κ left key arr (base+(hint+of))=false))) ?_ ?_ ⟨rfl,0,1,rfl,by lia,by lia,by lia,hr⟩) ?_)
  ·rintro x d st' _ hx ⟨rfl,la,of,rfl,h1,h2,h3,h4⟩;dsimp only;by_cases hge:of≥n-hint
   ·rw [if_pos hge];exact wpS_pure ⟨rfl,la,of,rfl,h1,h3,h4,.inl hge⟩
   ·rw [if_neg hge];refine wpS_bind (hB (hint+of) (by lia) ?_);dsimp only;cases e:byd κ left key arr (base+(hint+of)) with
    |false=>
     rw [if_pos (by rfl)];exact wpS_pure ⟨rfl,la,of,rfl,h1,h3,h4,.inr ⟨by lia,e⟩⟩
    |true=>
     rw [if_neg (by decide)];exact wpS_pure ⟨rfl,of,2*of+1,rfl,by lia,by lia,by lia,e⟩
  ·rintro d st' ⟨rfl,la,of,rfl,h1,h2,h3,h4⟩;exact⟨rfl,la,of,rfl,h1,h3,h4,.inl (by lia)⟩
  ·rintro d st' ⟨rfl,la,of,rfl,h1,h3,h4,h5⟩;dsimp only;refine wpS_bind (mP (c:=λ i=>byd κ left key arr (base+i)) (by lia) (by lia) mono (λ i hi=>mono i _ (show i≤hint+la by lia) h3 h4) (λ i h6 h7=>?_) ?_ ?_ λ k h6 h7 h8=>?_)
   ·rcases h5 with z|⟨z,z2⟩
    ·lia
    ·cases e:byd κ left key arr (base+i) with
     |false=>rfl
     |true=>rw [mono _ i (show hint+of≤i by lia) h7 e] at z2;cases z2
   ·intro x lo hi hge;dsimp only;rw [if_pos hge];exact wpS_pure ⟨rfl,rfl⟩
   ·intro x lo hi hlt hhn;dsimp only;rw [if_neg (by lia)];refine wpS_bind (hB _ (by lia) ?_);dsimp only
    split
    ·exact wpS_pure ⟨rfl,rfl⟩
    ·exact wpS_pure ⟨rfl,rfl⟩
   ·exact wpS_pure (h k h6 h7 h8)
 |false=>
  rw [if_neg (by decide)];refine wpS_bind (wpS_mono (wpS_forRange (I:=λ x d st'=>st'=st/\∃la of,d=(none,la,of)/\la<of/\x<of/\la≤hint/\byd κ left key arr (base+(hint-la))=false)
   (Q:=λ d st'=>st'=st/\∃la of,d=(none,la,of)/\la<of/\la≤hint/\byd κ left key arr (base+(hint-la))=false/\(hint+1≤of\/(of≤hint/\byd κ left key arr (base+(hint-of))=true))) ?_ ?_ ⟨rfl,0,1,rfl,by lia,by lia,by lia,hr⟩) ?_)
  ·rintro x d st' _ hx ⟨rfl,la,of,rfl,h1,h2,h3,h4⟩;dsimp only;by_cases hge:of≥hint+1
   ·rw [if_pos hge];exact wpS_pure ⟨rfl,la,of,rfl,h1,h3,h4,.inl hge⟩
   ·rw [if_neg hge];refine wpS_bind (hB (hint-of) (by lia) ?_);dsimp only;cases e:byd κ left key arr (base+(hint-of)) with
    |true=>
     rw [if_pos (by rfl)];exact wpS_pure ⟨rfl,la,of,rfl,h1,h3,h4,.inr ⟨by lia,e⟩⟩
    |false=>
     rw [if_neg (by decide)];exact wpS_pure ⟨rfl,of,2*of+1,rfl,by lia,by lia,by lia,e⟩
  ·rintro d st' ⟨rfl,la,of,rfl,h1,h2,h3,h4⟩;exact⟨rfl,la,of,rfl,h1,h3,h4,.inl (by lia)⟩
  ·rintro d st' ⟨rfl,la,of,rfl,h1,h3,h4,h5⟩;dsimp only;refine wpS_bind (mP (c:=λ i=>byd κ left key arr (base+i)) (by lia) (by lia) mono (λ i hi=>?_) (λ i h6 h7=>?_) ?_ ?_ λ k h6 h7 h8=>?_)
   ·rcases h5 with z|⟨z,z2⟩
    ·lia
    ·exact mono i _ (show i≤hint-of by lia) (by lia) z2
   ·cases e:byd κ left key arr (base+i) with
    |false=>rfl
    |true=>rw [mono _ i (show hint-la≤i by lia) h7 e] at h4;cases h4
   ·intro x lo hi hge;dsimp only;rw [if_pos hge];exact wpS_pure ⟨rfl,rfl⟩
   ·intro x lo hi hlt hhn;dsimp only;rw [if_neg (by lia)];refine wpS_bind (hB _ (by lia) ?_);dsimp only
    split
    ·exact wpS_pure ⟨rfl,rfl⟩
    ·exact wpS_pure ⟨rfl,rfl⟩
   ·exact wpS_pure (h k h6 h7 h8)
end
end SG
namespace SG
open PySem PyProof.Rows SM
section
variable {κ : KeyKind} {a b : Array Keyed}
abbrev LeK (κ:KeyKind):Keyed->Keyed->Prop:=Le κ.blt (kf κ)
abbrev LtK (κ:KeyKind):Keyed->Keyed->Prop:=Lt κ.blt (kf κ)
def bR (κ:KeyKind)(a b r:Array Keyed):Prop:=r.toList.Pairwise (LeK κ)/\Stb κ.blt (kf κ) r.toList (a.toList++b.toList)
def MA (κ:KeyKind)(a b out:Array Keyed)(ia ib:Nat):Prop:=Mg κ.blt (kf κ) (a.toList++b.toList) out.toList (a.toList.drop ia) (b.toList.drop ib)
theorem MA.sa {out:Array Keyed}{ia ib:Nat}(h:MA κ a b out ia ib):(a.toList.drop ia).Pairwise (LeK κ):=(List.pairwise_append.mp h.s1).2.1
theorem MA.sb {out:Array Keyed}{ia ib:Nat}(h:MA κ a b out ia ib):(b.toList.drop ib).Pairwise (LeK κ):=(List.pairwise_append.mp h.s2).2.1
theorem dL {xs:Array Keyed}{i:Nat}(h:i<xs.size):xs.toList.drop i=xs[i]::xs.toList.drop (i+1):=by
 have:i<xs.toList.length:=by simpa using h
 rw [List.drop_eq_getElem_cons this];rfl
theorem fQ {xs:Array Keyed}{i:Nat}(h:i<xs.size)(s:(xs.toList.drop i).Pairwise (LeK κ)){y:Keyed}(hy:y∈xs.toList.drop i):LeK κ xs[i] y:=by
 rw [dL h] at s hy;rcases List.mem_cons.mp hy with rfl|z
 ·exact(ord κ).irr _
 ·exact(List.pairwise_cons.mp s).1 y z
theorem gq {xs:Array Keyed}{i k:Nat}:(xs.extract i (i+k)).toList=(xs.toList.drop i).take k:=by
 rw [Array.toList_extract,List.extract_eq_take_drop];congr 1;lia
theorem dF {xs:Array Keyed}{i:Nat}:(xs.extract i xs.size).toList=xs.toList.drop i:=by
 rw [Array.toList_extract,List.extract_eq_take_drop,List.take_of_length_le (by simp)]
theorem gA {xs:Array Keyed}{i k:Nat}:(xs.toList.drop i).take k++xs.toList.drop (i+k)=xs.toList.drop i:=by
 rw [<-List.drop_drop,List.take_append_drop]
theorem MA.pushA {out:Array Keyed}{ia ib k:Nat}(h:MA κ a b out ia ib)(hX:∀x∈(a.toList.drop ia).take k,∀y∈b.toList.drop ib,LeK κ x y):MA κ a b (out++a.extract ia (ia+k)) (ia+k) ib:=by
 unfold MA at h ⊢;rw [Array.toList_append,gq];rw [<-gA (k:=k)] at h;exact Mg.pushA h hX
theorem MA.pushB {out:Array Keyed}{ia ib k:Nat}(h:MA κ a b out ia ib)(hY:∀y∈(b.toList.drop ib).take k,∀x∈a.toList.drop ia,LtK κ y x):MA κ a b (out++b.extract ib (ib+k)) ia (ib+k):=by
 unfold MA at h ⊢;rw [Array.toList_append,gq];rw [<-gA (xs:=b) (k:=k)] at h;exact Mg.pushB (ord κ) h hY
theorem jZ {out xs:Array Keyed}{i:Nat}(h:i<xs.size):out.push xs[i]=out++xs.extract i (i+1):=by
 apply Array.toList_inj.mp;rw [Array.toList_push,Array.toList_append,gq,dL h];rfl
theorem MA.pushA1 {out:Array Keyed}{ia ib:Nat}(h:MA κ a b out ia ib)(hia:ia<a.size)(hib:ib<b.size)(hl:LeK κ a[ia] b[ib]):MA κ a b (out.push a[ia]) (ia+1) ib:=by
 rw [jZ hia];refine h.pushA λ x hx y hy=>?_
 rw [dL hia] at hx;have:x=a[ia]:=by simpa using hx
 subst this;exact le_trans (ord κ) hl (fQ hib h.sb hy)
theorem MA.pushB1 {out:Array Keyed}{ia ib:Nat}(h:MA κ a b out ia ib)(hia:ia<a.size)(hib:ib<b.size)(hl:LtK κ b[ib] a[ia]):MA κ a b (out.push b[ib]) ia (ib+1):=by
 rw [jZ hib];refine h.pushB λ y hy x hx=>?_
 rw [dL hib] at hy;have:y=b[ib]:=by simpa using hy
 subst this;exact cx (ord κ) hl (fQ hia h.sa hx)
theorem MA.doneB {out:Array Keyed}{ia ib:Nat}(h:MA κ a b out ia ib)(e:ib=b.size):bR κ a b (out++a.extract ia a.size++b.extract ib b.size):=by
 unfold MA at h;have e0:b.toList.drop ib=[]:=List.drop_eq_nil_of_le (by simp [e]);rw [e0] at h;unfold bR;rw [Array.toList_append,Array.toList_append,dF,dF,e0,List.append_nil];exact h.endA
theorem MA.doneA {out:Array Keyed}{ia ib:Nat}(h:MA κ a b out ia ib)(e:ia=a.size):bR κ a b (out++a.extract ia a.size++b.extract ib b.size):=by
 unfold MA at h;have e0:a.toList.drop ia=[]:=List.drop_eq_nil_of_le (by simp [e]);rw [e0] at h;unfold bR;rw [Array.toList_append,Array.toList_append,dF,dF,e0,List.append_nil];exact h.endB
theorem MA.last {out:Array Keyed}{ia ib:Nat}(h:MA κ a b out ia ib)(e:ia+1=a.size)(hl:∀y∈b.toList,∀x∈a.toList.drop (a.size-1),LtK κ y x):bR κ a b (out++b.extract ib b.size++a.extract ia a.size):=by
 have h2:=h.pushB (k:=b.size-ib) λ y hy x hx=>hl y (List.mem_of_mem_drop (List.mem_of_mem_take hy)) x (by rw [show a.size-1=ia by lia];exact hx)
 unfold MA at h2;have e0:b.toList.drop (ib+(b.size-ib))=[]:=List.drop_eq_nil_of_le (by simp;lia);rw [e0] at h2;have h3:=h2.endA;unfold bR;rw [Array.toList_append] at h3;rw [Array.toList_append,Array.toList_append,dF,dF];have e1:(b.extract ib (ib+(b.size-ib))).toList=b.toList.drop ib:=by rw [gq,List.take_of_length_le (by simp)]
 rw [e1] at h3;exact h3
structure Stay (st st':SortSt):Prop where
 k:kindOf st'=kindOf st
 a:arrOf st'=arrOf st
 p:pendingOf st'=pendingOf st
 f:failedOf st'=failedOf st
theorem Stay.refl (st:SortSt):Stay st st:=⟨rfl,rfl,rfl,rfl⟩
end
section
variable {prog : Program} {w : World} {A : Around} {E : Value -> Shared -> Prop} {s : Shared} {κ : KeyKind} {a b : Array Keyed}
def tH:Nat->StateT SortSt Sem Unit:=sortPriv%PySem.Builtin.setMinGallop
theorem wpS_setMin {st0 st:SortSt}{g:Nat}{Q:Unit->SortSt->Prop}(h0:Stay st0 st)(h:∀st',Stay st0 st'->Q () st'):wpS (model prog w) A E s (tH g) Q st:=by
 refine wpS_modify (h _ ⟨h0.k,h0.a,h0.p,h0.f⟩)
theorem uK {xs:Array Keyed}(h:xs.toList.Pairwise (LeK κ)){i j:Nat}(hij:i≤j)(hj:j<xs.size):κ.blt (KK κ xs j) (KK κ xs i)=false:=by
 rw [cO hj,cO (by lia)];rcases Nat.lt_or_ge i j with z|z
 ·exact(List.pairwise_iff_getElem.mp h) i j (by simp;lia) (by simpa using hj) z
 ·have:i=j:=by lia
  subst this;exact(ord κ).irr _
theorem nK (hO:κ.OneLt){st:SortSt}{key:Keyed}{xs:Array Keyed}{i n hint:Nat}{Q:Option Nat->SortSt->Prop}(hk:kindOf st=oneType')(hs:xs.toList.Pairwise (LeK κ))(hall:∀p∈xs.toList,Has κ p)(hkey:Has κ key)(hn:i+n≤xs.size)(hh:hint<n)
  (h:∀k,k≤n->(∀j,j<k->κ.blt (kf κ key) (KK κ xs (i+j))=false)->(∀j,k≤j->j<n->κ.blt (kf κ key) (KK κ xs (i+j))=true)->Q (some k) st):wpS (model prog w) A E s (eh false key xs i n hint) Q st:=by
 have eb:∀j,byd κ false key xs j= !κ.blt (kf κ key) (KK κ xs j):=λ j=>rfl
 refine c6 hO hk hn hh hkey hall (λ p q hpq hq hb=>?_) λ k h1 h2 h3=>h k h1 (λ j hj=>?_) λ j hj hj2=>?_
 ·rw [eb] at hb ⊢;have hb':κ.blt (kf κ key) (KK κ xs (i+q))=false:=by simpa using hb
  have:=uK hs (show i+p≤i+q by lia) (by lia);cases e:κ.blt (kf κ key) (KK κ xs (i+p)) with
  |false=>rfl
  |true=>
   rcases κ.negTrans _ (KK κ xs (i+q)) _ e with z|z
   ·rw [hb'] at z;cases z
   ·rw [this] at z;cases z
 ·have:=h2 j hj;rw [eb] at this;simpa using this
 ·have:=h3 j hj hj2;rw [eb] at this;simpa using this
theorem oh (hO:κ.OneLt){st:SortSt}{key:Keyed}{xs:Array Keyed}{i n hint:Nat}{Q:Option Nat->SortSt->Prop}(hk:kindOf st=oneType')(hs:xs.toList.Pairwise (LeK κ))(hall:∀p∈xs.toList,Has κ p)(hkey:Has κ key)(hn:i+n≤xs.size)(hh:hint<n)
  (h:∀k,k≤n->(∀j,j<k->κ.blt (KK κ xs (i+j)) (kf κ key)=true)->(∀j,k≤j->j<n->κ.blt (KK κ xs (i+j)) (kf κ key)=false)->Q (some k) st):wpS (model prog w) A E s (eh true key xs i n hint) Q st:=by
 have eb:∀j,byd κ true key xs j=κ.blt (KK κ xs j) (kf κ key):=λ j=>rfl
 refine c6 hO hk hn hh hkey hall (λ p q hpq hq hb=>?_) λ k h1 h2 h3=>h k h1 (λ j hj=>?_) λ j hj hj2=>?_
 ·rw [eb] at hb ⊢;have:=uK hs (show i+p≤i+q by lia) (by lia);rcases κ.negTrans _ (KK κ xs (i+p)) _ hb with z|z
  ·rw [this] at z;cases z
  ·exact z
 ·exact h2 j hj
 ·exact h3 j hj hj2
end
section
variable {M : Model} {A : Around} {E : Value -> Shared -> Prop} {s : Shared} {α : Type}
theorem aH {c:Prop} [Decidable c] {m1 m2:StateT SortSt Sem α}{Q:α->SortSt->Prop}{st:SortSt}(hc:c)(h:wpS M A E s m1 Q st):wpS M A E s (if c then m1 else m2) Q st:=by rw [if_pos hc];exact h
theorem aE {c:Prop} [Decidable c] {m1 m2:StateT SortSt Sem α}{Q:α->SortSt->Prop}{st:SortSt}(hc:¬c)(h:wpS M A E s m2 Q st):wpS M A E s (if c then m1 else m2) Q st:=by rw [if_neg hc];exact h
theorem cq {c:Prop} [Decidable c] {m1 m2:StateT SortSt Sem α}{Q:α->SortSt->Prop}{st:SortSt}(h1:wpS M A E s m1 Q st)(h2:wpS M A E s m2 Q st):wpS M A E s (if c then m1 else m2) Q st:=by
 by_cases hc:c
 ·exact aH hc h1
 ·exact aE hc h2
end
theorem jt {xs:Array Keyed}{i k:Nat}{x:Keyed}(h:x∈(xs.toList.drop i).take k):∃j,j<k/\∃hj:i+j<xs.size,x=xs[i+j]:=by
 obtain⟨j,hj⟩:=List.mem_iff_getElem?.mp h;rw [List.getElem?_take] at hj
 split at hj
 ·rename_i hjk
  rw [List.getElem?_drop] at hj;have hlt:=(List.getElem?_eq_some_iff.mp hj).1;refine⟨j,hjk,by simpa using hlt,?_⟩;have:=(List.getElem?_eq_some_iff.mp hj).2;rw [<-this];rfl
 ·cases hj
section
variable {prog : Program} {w : World} {A : Around} {E : Value -> Shared -> Prop} {s : Shared} {κ : KeyKind} {a b : Array Keyed}
def LoQ (κ:KeyKind)(a b:Array Keyed)(st0:SortSt){β:Type}(low:Nat)(pr:Array Keyed->Nat->Nat->β->Prop)(c:Option (Array Keyed)×β)(st:SortSt):Prop:=
 Stay st0 st/\((∃r,c.1=some r/\bR κ a b r)\/∃out ia ib,c.1=none/\pr out ia ib c.2/\MA κ a b out ia ib/\ia+1<a.size/\ib<b.size/\low≤ia+ib)
theorem kD (hO:κ.OneLt){st:SortSt}{Q:Array Keyed->SortSt->Prop}(hk:kindOf st=oneType')(ha:∀p∈a.toList,Has κ p)(hb:∀p∈b.toList,Has κ p)(sa:a.toList.Pairwise (LeK κ))(sb:b.toList.Pairwise (LeK κ))
  (na:0<a.size) (nb:0<b.size) (h0:LtK κ b[0] a[0]) (hl:∀y∈b.toList,∀x∈a.toList.drop (a.size-1),LtK κ y x) (h:∀r st',Stay st st'->bR κ a b r->Q r st'):
  wpS (model prog w) A E s (pV a b) Q st:=by
 refine wpS_bind (wpS_lift (wpAny_rule ⟨rfl,?_⟩))
 extract_lets total done lastOfA ia0 ib0
 refine wpS_bind (wpS_elem nb ?_)
 extract_lets out0
 have hM0:MA κ a b out0 0 1:=MA.pushB1 (out:=#[]) (ia:=0) (ib:=0) ⟨sa,sb,Stb.refl _⟩ na nb h0;by_cases e1:1=b.size
 ·refine aH (by simpa [ib0] using e1) (wpS_pure (h _ _ (Stay.refl _) (hM0.doneB e1)))
 refine aE (by simpa [ib0] using e1) ?_;by_cases e2:0+1=a.size
 ·refine aH (by simpa [ia0] using e2) (wpS_pure (h _ _ (Stay.refl _) (hM0.last e2 hl)))
 refine aE (by simpa [ia0] using e2) ?_;refine wpS_bind (wpS_get ?_)
 extract_lets mg0
 refine wpS_bind (wpS_mono (wpS_forRange (I:=λ y c st'=>LoQ κ a b st (y+1) (λ out ia ib d=>∃mg,d=(out,ia,ib,mg)) c st'/\c.1=none) (Q:=λ c st'=>Stay st st'/\∃r,c.1=some r/\bR κ a b r) ?_ ?_ ⟨⟨Stay.refl _,.inr ⟨out0,0,1,rfl,⟨_,rfl⟩,hM0,by lia,by lia,by lia⟩⟩,rfl⟩) ?_)
 rotate_left
 ·rintro c st' ⟨⟨_,⟨r,e,_⟩|⟨out,ia,ib,_,_,_,q1,q2,q3⟩⟩,en⟩
  ·rw [en] at e;cases e
  ·exfalso;have:max 0 total=a.size+b.size:=by simp [total]
   lia
 ·rintro⟨c1,c2⟩ st' ⟨hst,r,e,hW⟩;dsimp only at e;subst e;exact wpS_pure (h r st' hst hW)
 rintro y c st1 _ hy ⟨⟨hst1,⟨r,e,_⟩|⟨out1,ia1,ib1,_,⟨mg1,e2⟩,hM1,q1,q2,q3⟩⟩,en⟩
 ·rw [en] at e;cases e
 obtain⟨c1,c2⟩:=c;dsimp only at en e2;subst en e2;refine wpS_bind (wpS_mono (wpS_forRange (I:=λ x c st'=>LoQ κ a b st (y+1+x) (λ out ia ib d=>∃p q,d=(out,ia,ib,p,q)) c st'/\c.1=none) (Q:=λ c st'=>LoQ κ a b st (y+1+1) (λ out ia ib d=>∃p q,d=(out,ia,ib,p,q)) c st') ?_ ?_ ⟨⟨hst1,.inr ⟨out1,ia1,ib1,rfl,⟨_,_,rfl⟩,hM1,q1,q2,q3⟩⟩,rfl⟩) ?_)
 ·rintro x c st2 _ hx ⟨⟨hst2,⟨r,e,_⟩|⟨out2,ia2,ib2,_,⟨p2,r2,e2⟩,hM2,t1,t2,t3⟩⟩,en⟩
  ·rw [en] at e;cases e
  obtain⟨c1,c2⟩:=c;dsimp only at en e2;subst en e2;refine wpS_bind (wpS_elem t2 (wpS_bind (wpS_elem (show ia2<a.size by lia) (wpS_bind (gv hO (hst2.k.trans hk) (hb _ (by simp)) (ha _ (by simp)) ?_)))));cases e:κ.blt (kf κ b[ib2]) (kf κ a[ia2]) with
  |true=>
   have hM':=hM2.pushB1 (by lia) t2 e;refine aH rfl (wpS_bind (wpS_elem t2 ?_));by_cases hz:ib2+1=b.size
   ·refine aH (beq_iff_eq.mpr hz) (wpS_pure ⟨hst2,.inl ⟨_,rfl,hM'.doneB hz⟩⟩)
   ·refine aE (λ z=>hz (beq_iff_eq.mp z)) (cq (wpS_pure ⟨hst2,.inr ⟨_,ia2,ib2+1,rfl,⟨_,_,rfl⟩,hM',by lia,by lia,by lia⟩⟩) (wpS_pure ⟨⟨hst2,.inr ⟨_,ia2,ib2+1,rfl,⟨_,_,rfl⟩,hM',by lia,by lia,by lia⟩⟩,rfl⟩))
  |false=>
   have hM':=hM2.pushA1 (by lia) t2 e;refine aE (by decide) (wpS_bind (wpS_elem (show ia2<a.size by lia) ?_));by_cases hz:ia2+1+1=a.size
   ·refine aH (beq_iff_eq.mpr hz) (wpS_pure ⟨hst2,.inl ⟨_,rfl,hM'.last hz hl⟩⟩)
   ·refine aE (λ z=>hz (beq_iff_eq.mp z)) (cq (wpS_pure ⟨hst2,.inr ⟨_,ia2+1,ib2,rfl,⟨_,_,rfl⟩,hM',by lia,by lia,by lia⟩⟩) (wpS_pure ⟨⟨hst2,.inr ⟨_,ia2+1,ib2,rfl,⟨_,_,rfl⟩,hM',by lia,by lia,by lia⟩⟩,rfl⟩))
 ·rintro c st' ⟨⟨_,⟨r,e,_⟩|⟨out,ia,ib,_,_,_,t1,t2,t3⟩⟩,en⟩
  ·rw [en] at e;cases e
  ·exfalso;have:max 0 total=a.size+b.size:=by simp [total]
   lia
 rintro⟨c1,c2⟩ st2 ⟨hst2,⟨r,e,hW⟩|⟨out2,ia2,ib2,e,⟨p2,r2,e2⟩,hM2,t1,t2,t3⟩⟩
 ·dsimp only at e;subst e;exact wpS_pure ⟨hst2,r,rfl,hW⟩
 dsimp only at e e2;subst e e2;refine wpS_bind (wpS_lift (wpAny_rule ⟨rfl,?_⟩));refine wpS_bind (wpS_mono (wpS_forRange (I:=λ x c st'=>LoQ κ a b st (y+1+1) (λ out ia ib d=>∃g p q,d=(out,ia,ib,g,p,q)) c st'/\c.1=none) (Q:=λ c st'=>LoQ κ a b st (y+1+1) (λ out ia ib d=>∃g p q,d=(out,ia,ib,g,p,q)) c st') ?_ ?_ ⟨⟨hst2,.inr ⟨out2,ia2,ib2,rfl,⟨_,_,_,rfl⟩,hM2,t1,t2,t3⟩⟩,rfl⟩) ?_)
 ·clear hM2 t1 t2 t3 hM1 q1 q2 q3;rintro x c st3 _ hx ⟨⟨hst3,⟨r,e,_⟩|⟨out3,ia3,ib3,_,⟨g3,p3,r3,e2⟩,hM3,t1,t2,t3⟩⟩,en⟩
  ·rw [en] at e;cases e
  obtain⟨c1,c2⟩:=c;dsimp only at en e2;subst en e2
  extract_lets v1 v2 v3 v4 v5 v6 v7 v8 v9 v10 v11 v12 jp
  have hjp:∀g,wpS (model prog w) A E s (jp () g) (λ r st'=>match r with
    | .done c'=>LoQ κ a b st (y+1+1) (λ out ia ib d=>∃g p q,d=(out,ia,ib,g,p,q)) c' st'
    | .yield c'=>LoQ κ a b st (y+1+1) (λ out ia ib d=>∃g p q,d=(out,ia,ib,g,p,q)) c' st'/\c'.1=none) st3:=by
   intro g;refine wpS_bind (wpS_setMin hst3 λ st4 hst4=>wpS_bind (wpS_elem t2 (wpS_bind (nK hO (hst4.k.trans hk) sa ha (hb _ (by simp)) (show ia3+(a.size-ia3)≤a.size by lia) (show 0<a.size-ia3 by lia) λ k f1 f2 f3=>?_))));have f1':k≤a.size-ia3:=f1;have hM4:MA κ a b (out3++a.extract ia3 (ia3+k)) (ia3+k) ib3:=hM3.pushA λ x hx y hy=>by
    obtain⟨j,hj,hj2,rfl⟩:=jt hx;have:=f2 j hj;rw [cO hj2] at this;exact le_trans (ord κ) this (fQ t2 hM3.sb hy)
   dsimp-zeta only
   extract_lets u1 jp2
   have hjp2:∀out ia,MA κ a b out ia ib3->∀hia:ia+1<a.size,LtK κ b[ib3] a[ia]->y+1+1≤ia+ib3->wpS (model prog w) A E s (jp2 () out ia) (λ r st'=>match r with
     | .done c'=>LoQ κ a b st (y+1+1) (λ out ia ib d=>∃g p q,d=(out,ia,ib,g,p,q)) c' st'
     | .yield c'=>LoQ κ a b st (y+1+1) (λ out ia ib d=>∃g p q,d=(out,ia,ib,g,p,q)) c' st'/\c'.1=none) st4:=by
    intro out ia hM hia hlt hlow;refine wpS_bind (wpS_elem t2 ?_);have hM5:=hM.pushB1 (by lia) t2 hlt;by_cases hz:ib3+1=b.size
    ·refine aH (beq_iff_eq.mpr hz) (wpS_pure ⟨hst4,.inl ⟨_,rfl,hM5.doneB hz⟩⟩)
    refine aE (λ z=>hz (beq_iff_eq.mp z)) ?_;refine wpS_bind (wpS_elem (show ia<a.size by lia) (wpS_bind (oh hO (hst4.k.trans hk) sb hb (ha _ (by simp)) (show ib3+1+(b.size-(ib3+1))≤b.size by lia) (show 0<b.size-(ib3+1) by lia) λ k2 d1 d2 d3=>?_)));have d1':k2≤b.size-(ib3+1):=d1;dsimp-zeta only
    extract_lets w1 w2 jp3
    have hjp3:∀out ib,MA κ a b out ia ib->∀hib:ib<b.size,LeK κ a[ia] b[ib]->y+1+1≤ia+ib->wpS (model prog w) A E s (jp3 () out ib) (λ r st'=>match r with
      | .done c'=>LoQ κ a b st (y+1+1) (λ out ia ib d=>∃g p q,d=(out,ia,ib,g,p,q)) c' st'
      | .yield c'=>LoQ κ a b st (y+1+1) (λ out ia ib d=>∃g p q,d=(out,ia,ib,g,p,q)) c' st'/\c'.1=none) st4:=by
     intro out ib hM hib hle hlow;refine wpS_bind (wpS_elem (show ia<a.size by lia) ?_);have hM6:=hM.pushA1 (by lia) hib hle;by_cases hz:ia+1+1=a.size
     ·refine aH (beq_iff_eq.mpr hz) (wpS_pure ⟨hst4,.inl ⟨_,rfl,hM6.last hz hl⟩⟩)
     refine aE (λ z=>hz (beq_iff_eq.mp z)) (cq (wpS_pure ⟨hst4,.inr ⟨_,ia+1,ib,rfl,⟨_,_,_,rfl⟩,hM6,by lia,by lia,by lia⟩⟩) (wpS_pure ⟨⟨hst4,.inr ⟨_,ia+1,ib,rfl,⟨_,_,_,rfl⟩,hM6,by lia,by lia,by lia⟩⟩,rfl⟩))
    clear_value jp3
    by_cases hk0:k2>0
    ·refine aH hk0 ?_;have hM7:=hM5.pushB (k:=k2) λ y hy x hx=>by
      obtain⟨j,hj,hj2,rfl⟩:=jt hy;have:=d2 j hj;rw [cO hj2] at this;exact cx (ord κ) this (fQ (show ia<a.size by lia) hM5.sa hx)
     by_cases hz2:ib3+1+k2=b.size
     ·refine aH (beq_iff_eq.mpr hz2) (wpS_pure ⟨hst4,.inl ⟨_,rfl,hM7.doneB hz2⟩⟩)
     ·refine aE (λ z=>hz2 (beq_iff_eq.mp z)) (hjp3 _ (ib3+1+k2) hM7 (by lia) ?_ (by lia));have:=d3 k2 (Nat.le_refl _) (show k2<b.size-(ib3+1) by lia);rw [cO (show ib3+1+k2<b.size by lia)] at this;exact this
    ·refine aE hk0 (hjp3 _ (ib3+1) hM5 (by lia) ?_ (by lia));have:=d3 0 (by lia) (show 0<b.size-(ib3+1) by lia);rw [cO (show ib3+1+0<b.size by lia)] at this;exact this
   clear_value jp2
   by_cases hk0:k>0
   ·refine aH hk0 ?_;by_cases hz:ia3+k+1=a.size
    ·refine aH (beq_iff_eq.mpr hz) (wpS_pure ⟨hst4,.inl ⟨_,rfl,hM4.last hz hl⟩⟩)
    refine aE (λ z=>hz (beq_iff_eq.mp z)) ?_;by_cases hz2:ia3+k=a.size
    ·refine aH (beq_iff_eq.mpr hz2) (wpS_pure ⟨hst4,.inl ⟨_,rfl,hM4.doneA hz2⟩⟩)
    ·refine aE (λ z=>hz2 (beq_iff_eq.mp z)) (hjp2 _ (ia3+k) hM4 (by lia) ?_ (by lia));have:=f3 k (Nat.le_refl _) (show k<a.size-ia3 by lia);rw [cO (show ia3+k<a.size by lia)] at this;exact this
   ·refine aE hk0 (hjp2 _ ia3 hM3 t1 ?_ t3);have:=f3 0 (by lia) (show 0<a.size-ia3 by lia);rw [cO (show ia3+0<a.size by lia)] at this;exact this
  clear_value jp
  exact cq (wpS_mono (hjp _) λ r st' q=>by cases r<;>exact q) (wpS_mono (hjp _) λ r st' q=>by cases r<;>exact q)
 ·rintro c st' ⟨q,_⟩;exact q
 rintro⟨c1,c2⟩ st3 ⟨hst3,⟨r,e,hW⟩|⟨out3,ia3,ib3,e,⟨g3,p3,r3,e2⟩,hM3,u1,u2,u3⟩⟩
 ·dsimp only at e;subst e;exact wpS_pure ⟨hst3,r,rfl,hW⟩
 dsimp only at e e2;subst e e2;exact wpS_bind (wpS_setMin hst3 λ st4 hst4=>wpS_pure ⟨⟨hst4,.inr ⟨out3,ia3,ib3,rfl,⟨_,rfl⟩,hM3,u1,u2,by lia⟩⟩,rfl⟩)
end
section
variable {κ : KeyKind} {a b : Array Keyed}
def MH (κ:KeyKind)(a b out:Array Keyed)(na nb:Nat):Prop:=Mh κ.blt (kf κ) (a.toList++b.toList) (a.toList.take na) (b.toList.take nb) out.toList.reverse
theorem MH.sa {out:Array Keyed}{na nb:Nat}(h:MH κ a b out na nb):(a.toList.take na).Pairwise (LeK κ):=(List.pairwise_append.mp h.s1).1
theorem MH.sb {out:Array Keyed}{na nb:Nat}(h:MH κ a b out na nb):(b.toList.take nb).Pairwise (LeK κ):=(List.pairwise_append.mp h.s2).1
theorem f7 {xs:Array Keyed}{i:Nat}(h:i<xs.size):xs.toList.take (i+1)=xs.toList.take i++[xs[i]]:=by
 have h':i<xs.toList.length:=by simpa using h
 rw [List.take_add_one,List.getElem?_eq_getElem h'];rfl
theorem gd {xs:Array Keyed}{i:Nat}(h:i<xs.size)(s:(xs.toList.take (i+1)).Pairwise (LeK κ)){y:Keyed}(hy:y∈xs.toList.take (i+1)):LeK κ y xs[i]:=by
 rw [f7 h] at s hy;rcases List.mem_append.mp hy with z|z
 ·exact(List.pairwise_append.mp s).2.2 y z _ (by simp)
 ·have:y=xs[i]:=by simpa using z
  subst this;exact(ord κ).irr _
theorem cA {xs:Array Keyed}{i n:Nat}(h:i≤n):(xs.extract i n).toList=(xs.toList.drop i).take (n-i):=by
 rw [Array.toList_extract,List.extract_eq_take_drop]
theorem jH {xs:Array Keyed}{i n:Nat}(h:i≤n):xs.toList.take i++(xs.extract i n).toList=xs.toList.take n:=by
 rw [cA h];have:n=i+(n-i):=by lia
 rw(config:={occs:=.pos [2]}) [this];rw [List.take_add]
theorem gi {xs:Array Keyed}{i n:Nat}{x:Keyed}(hin:i≤n)(hn:n≤xs.size)(h:x∈(xs.extract i n).toList):∃j,i≤j/\∃hj:j<n,x=xs[j]:=by
 rw [cA hin] at h;obtain⟨j,hj,hj2,rfl⟩:=jt h;exact⟨i+j,by lia,by lia,rfl⟩
theorem MH.pushA {out:Array Keyed}{na nb at':Nat}(h:MH κ a b out na nb)(hat:at'≤na)(hX:∀y∈b.toList.take nb,∀x∈(a.extract at' na).toList,LtK κ y x):MH κ a b (out++(a.extract at' na).reverse) at' nb:=by
 unfold MH at h ⊢;rw [<-jH hat] at h;rw [Array.toList_append,List.reverse_append,Array.toList_reverse,List.reverse_reverse];exact Mh.pushA (ord κ) h hX
theorem MH.pushB {out:Array Keyed}{na nb at':Nat}(h:MH κ a b out na nb)(hat:at'≤nb)(hY:∀x∈a.toList.take na,∀y∈(b.extract at' nb).toList,LeK κ x y):MH κ a b (out++(b.extract at' nb).reverse) na at':=by
 unfold MH at h ⊢;rw [<-jH (xs:=b) hat] at h;rw [Array.toList_append,List.reverse_append,Array.toList_reverse,List.reverse_reverse];exact Mh.pushB h hY
theorem jY {out xs:Array Keyed}{i:Nat}(h:i<xs.size):out.push xs[i]=out++(xs.extract i (i+1)).reverse:=by
 apply Array.toList_inj.mp;rw [Array.toList_push,Array.toList_append,Array.toList_reverse,gq,dL h];rfl
theorem MH.pushA1 {out:Array Keyed}{i j:Nat}(h:MH κ a b out (i+1) (j+1))(hi:i<a.size)(hj:j<b.size)(hl:LtK κ b[j] a[i]):MH κ a b (out.push a[i]) i (j+1):=by
 rw [jY hi];refine h.pushA (by lia) λ y hy x hx=>?_
 obtain⟨q,q1,q2,rfl⟩:=gi (by lia) (by lia) hx;have:q=i:=by lia
 subst this;exact dl (ord κ) (gd hj h.sb hy) hl
theorem MH.pushB1 {out:Array Keyed}{i j:Nat}(h:MH κ a b out (i+1) (j+1))(hi:i<a.size)(hj:j<b.size)(hl:LeK κ a[i] b[j]):MH κ a b (out.push b[j]) (i+1) j:=by
 rw [jY hj];refine h.pushB (by lia) λ x hx y hy=>?_
 obtain⟨q,q1,q2,rfl⟩:=gi (by lia) (by lia) hy;have:q=j:=by lia
 subst this;exact le_trans (ord κ) (gd hi h.sa hx) hl
theorem MH.doneA {out:Array Keyed}{na nb:Nat}(h:MH κ a b out na nb)(e:na=0):bR κ a b (a.extract 0 na++b.extract 0 nb++out.reverse):=by
 subst e;unfold MH at h;rw [List.take_zero] at h;unfold bR;rw [Array.toList_append,Array.toList_append,Array.toList_reverse,cA (Nat.zero_le _),cA (Nat.zero_le _),List.drop_zero,List.drop_zero,Nat.sub_zero,Nat.sub_zero,List.take_zero,List.nil_append];exact h.endB
theorem MH.doneB {out:Array Keyed}{na nb:Nat}(h:MH κ a b out na nb)(e:nb=0):bR κ a b (a.extract 0 na++b.extract 0 nb++out.reverse):=by
 subst e;unfold MH at h;rw [List.take_zero] at h;unfold bR;rw [Array.toList_append,Array.toList_append,Array.toList_reverse,cA (Nat.zero_le _),cA (Nat.zero_le _),List.drop_zero,List.drop_zero,Nat.sub_zero,Nat.sub_zero,List.take_zero,List.append_nil];exact h.endA
theorem MH.first {out:Array Keyed}{na nb:Nat}(h:MH κ a b out na nb)(e:nb=1)(hf:∀y∈b.toList.take 1,∀x∈a.toList,LtK κ y x):bR κ a b (b.extract 0 nb++a.extract 0 na++out.reverse):=by
 subst e;have h2:=h.pushA (at':=0) (Nat.zero_le _) λ y hy x hx=>hf y hy x (by rw [cA (Nat.zero_le _),List.drop_zero] at hx;exact List.mem_of_mem_take hx)
 unfold MH at h2;rw [List.take_zero,Array.toList_append,List.reverse_append,Array.toList_reverse,List.reverse_reverse] at h2;have h3:=h2.endB;unfold bR;rw [Array.toList_append,Array.toList_append,Array.toList_reverse,List.append_assoc];rw [cA (xs:=b) (Nat.zero_le _),List.drop_zero,Nat.sub_zero];exact h3
end
section
variable {prog : Program} {w : World} {A : Around} {E : Value -> Shared -> Prop} {s : Shared} {κ : KeyKind} {a b : Array Keyed}
def HiQ (κ:KeyKind)(a b:Array Keyed)(st0:SortSt){β:Type}(low:Nat)(pr:Array Keyed->Nat->Nat->β->Prop)(c:Option (Array Keyed)×β)(st:SortSt):Prop:=
 Stay st0 st/\((∃r,c.1=some r/\bR κ a b r)\/∃out i j,c.1=none/\pr out (i+1) (j+1) c.2/\MH κ a b out (i+1) (j+1)/\i<a.size/\j<b.size/\0<j/\i+1+(j+1)+low≤a.size+b.size)
theorem jT (hO:κ.OneLt){st:SortSt}{Q:Array Keyed->SortSt->Prop}(hk:kindOf st=oneType')(ha:∀p∈a.toList,Has κ p)(hb:∀p∈b.toList,Has κ p)(sa:a.toList.Pairwise (LeK κ))(sb:b.toList.Pairwise (LeK κ))
  (na:0<a.size) (nb:0<b.size) (hf:∀y∈b.toList.take 1,∀x∈a.toList,LtK κ y x) (hl:LtK κ b[b.size-1] a[a.size-1]) (h:∀r st',Stay st st'->bR κ a b r->Q r st'):
  wpS (model prog w) A E s (qv a b) Q st:=by
 obtain⟨ma,hma⟩:∃ma,a.size=ma+1:=⟨a.size-1,by lia⟩;obtain⟨mb,hmb⟩:∃mb,b.size=mb+1:=⟨b.size-1,by lia⟩;have hlt:LtK κ (b[mb]'(by lia)) (a[ma]'(by lia)):=by
  have e1:b.size-1=mb:=by lia
  have e2:a.size-1=ma:=by lia
  simp only [e1,e2] at hl;exact hl
 have hM00:MH κ a b #[] (ma+1) (mb+1):=by
  unfold MH;have e1:a.toList.take (ma+1)=a.toList:=List.take_of_length_le (by simp;lia);have e2:b.toList.take (mb+1)=b.toList:=List.take_of_length_le (by simp;lia);rw [e1,e2];exact⟨by simpa using sa,by simpa using sb,by simpa using Stb.refl _⟩
 have hM0:MH κ a b #[a[ma]'(by lia)] ma (mb+1):=hM00.pushA1 (by lia) (by lia) hlt;refine wpS_bind (wpS_lift (wpAny_rule ⟨rfl,?_⟩))
 extract_lets total done firstOfB na0 nb0
 have ena:na0=ma:=by show a.size-1=ma;lia
 have enb:nb0=mb+1:=hmb
 clear_value na0 nb0
 subst ena enb;refine wpS_bind (wpS_elem (show na0<a.size by lia) ?_)
 extract_lets out0
 by_cases e1:na0=0
 ·refine aH (beq_iff_eq.mpr e1) (wpS_pure (h _ _ (Stay.refl _) (hM0.doneA e1)))
 refine aE (λ z=>e1 (beq_iff_eq.mp z)) ?_;by_cases e2:mb+1=1
 ·refine aH (beq_iff_eq.mpr e2) (wpS_pure (h _ _ (Stay.refl _) (hM0.first e2 hf)))
 refine aE (λ z=>e2 (beq_iff_eq.mp z)) ?_;obtain⟨i0,rfl⟩:∃i0,na0=i0+1:=⟨na0-1,by lia⟩;refine wpS_bind (wpS_get ?_)
 extract_lets mg0
 refine wpS_bind (wpS_mono (wpS_forRange (I:=λ y c st'=>HiQ κ a b st (y+1) (λ out ia ib d=>∃mg,d=(ia,ib,out,mg)) c st'/\c.1=none) (Q:=λ c st'=>Stay st st'/\∃r,c.1=some r/\bR κ a b r) ?_ ?_ ⟨⟨Stay.refl _,.inr ⟨out0,i0,mb,rfl,⟨_,rfl⟩,hM0,by lia,by lia,by lia,by lia⟩⟩,rfl⟩) ?_)
 rotate_left
 ·rintro c st' ⟨⟨_,⟨r,e,_⟩|⟨out,i,j,_,_,_,q1,q2,q3,q4⟩⟩,en⟩
  ·rw [en] at e;cases e
  ·exfalso;have:max 0 total=a.size+b.size:=by simp [total]
   lia
 ·rintro⟨c1,c2⟩ st' ⟨hst,r,e,hW⟩;dsimp only at e;subst e;exact wpS_pure (h r st' hst hW)
 clear hM0 hM00;rintro y c st1 _ hy ⟨⟨hst1,⟨r,e,_⟩|⟨out1,i1,j1,_,⟨mg1,e2⟩,hM1,q1,q2,q3,q4⟩⟩,en⟩
 ·rw [en] at e;cases e
 obtain⟨c1,c2⟩:=c;dsimp only at en e2;subst en e2;refine wpS_bind (wpS_mono (wpS_forRange (I:=λ x c st'=>HiQ κ a b st (y+1+x) (λ out ia ib d=>∃p q,d=(ia,ib,out,p,q)) c st'/\c.1=none) (Q:=λ c st'=>HiQ κ a b st (y+1+1) (λ out ia ib d=>∃p q,d=(ia,ib,out,p,q)) c st') ?_ ?_ ⟨⟨hst1,.inr ⟨out1,i1,j1,rfl,⟨_,_,rfl⟩,hM1,q1,q2,q3,q4⟩⟩,rfl⟩) ?_)
 ·rintro x c st2 _ hx ⟨⟨hst2,⟨r,e,_⟩|⟨out2,i2,j2,_,⟨p2,r2,e2⟩,hM2,t1,t2,t3,t4⟩⟩,en⟩
  ·rw [en] at e;cases e
  obtain⟨c1,c2⟩:=c;dsimp only at en e2;subst en e2;refine wpS_bind (wpS_elem (i:=j2) t2 (wpS_bind (wpS_elem (i:=i2) t1 (wpS_bind (gv hO (hst2.k.trans hk) (hb _ (by simp)) (ha _ (by simp)) ?_)))));cases e:κ.blt (kf κ b[j2]) (kf κ a[i2]) with
  |true=>
   have hM':=hM2.pushA1 t1 t2 e;refine aH rfl (wpS_bind (wpS_elem (i:=i2) t1 ?_));by_cases hz:i2=0
   ·refine aH (beq_iff_eq.mpr hz) (wpS_pure ⟨hst2,.inl ⟨_,rfl,hM'.doneA hz⟩⟩)
   ·obtain⟨i3,rfl⟩:∃i3,i2=i3+1:=⟨i2-1,by lia⟩;refine aE (λ z=>hz (beq_iff_eq.mp z)) (cq (wpS_pure ⟨hst2,.inr ⟨_,i3,j2,rfl,⟨_,_,rfl⟩,hM',by lia,by lia,by lia,by lia⟩⟩) (wpS_pure ⟨⟨hst2,.inr ⟨_,i3,j2,rfl,⟨_,_,rfl⟩,hM',by lia,by lia,by lia,by lia⟩⟩,rfl⟩))
  |false=>
   have hM':=hM2.pushB1 t1 t2 e;refine aE (by decide) (wpS_bind (wpS_elem (i:=j2) t2 ?_));by_cases hz:j2=1
   ·refine aH (beq_iff_eq.mpr hz) (wpS_pure ⟨hst2,.inl ⟨_,rfl,hM'.first hz hf⟩⟩)
   ·obtain⟨j3,rfl⟩:∃j3,j2=j3+1:=⟨j2-1,by lia⟩;refine aE (λ z=>hz (beq_iff_eq.mp z)) (cq (wpS_pure ⟨hst2,.inr ⟨_,i2,j3,rfl,⟨_,_,rfl⟩,hM',by lia,by lia,by lia,by lia⟩⟩) (wpS_pure ⟨⟨hst2,.inr ⟨_,i2,j3,rfl,⟨_,_,rfl⟩,hM',by lia,by lia,by lia,by lia⟩⟩,rfl⟩))
 ·rintro c st' ⟨⟨_,⟨r,e,_⟩|⟨out,i,j,_,_,_,t1,t2,t3,t4⟩⟩,en⟩
  ·rw [en] at e;cases e
  ·exfalso;have:max 0 total=a.size+b.size:=by simp [total]
   lia
 rintro⟨c1,c2⟩ st2 ⟨hst2,⟨r,e,hW⟩|⟨out2,i2,j2,e,⟨p2,r2,e2⟩,hM2,t1,t2,t3,t4⟩⟩
 ·dsimp only at e;subst e;exact wpS_pure ⟨hst2,r,rfl,hW⟩
 dsimp only at e e2;subst e e2;refine wpS_bind (wpS_lift (wpAny_rule ⟨rfl,?_⟩));refine wpS_bind (wpS_mono (wpS_forRange (I:=λ x c st'=>HiQ κ a b st (y+1+1) (λ out ia ib d=>∃g p q,d=(ia,ib,out,g,p,q)) c st'/\c.1=none) (Q:=λ c st'=>HiQ κ a b st (y+1+1) (λ out ia ib d=>∃g p q,d=(ia,ib,out,g,p,q)) c st') ?_ ?_ ⟨⟨hst2,.inr ⟨out2,i2,j2,rfl,⟨_,_,_,rfl⟩,hM2,t1,t2,t3,t4⟩⟩,rfl⟩) ?_)
 ·clear hM2 t1 t2 t3 t4 hM1 q1 q2 q3 q4;rintro x c st3 _ hx ⟨⟨hst3,⟨r,e,_⟩|⟨out3,i3,j3,_,⟨g3,p3,r3,e2⟩,hM3,t1,t2,t3,t4⟩⟩,en⟩
  ·rw [en] at e;cases e
  obtain⟨c1,c2⟩:=c;dsimp only at en e2;subst en e2
  extract_lets v1 v2 v3 v4 v5 v6 v7 v8 v9 v10 v11 v12 jp
  have hjp:∀g,wpS (model prog w) A E s (jp () g) (λ r st'=>match r with
    | .done c'=>HiQ κ a b st (y+1+1) (λ out ia ib d=>∃g p q,d=(ia,ib,out,g,p,q)) c' st'
    | .yield c'=>HiQ κ a b st (y+1+1) (λ out ia ib d=>∃g p q,d=(ia,ib,out,g,p,q)) c' st'/\c'.1=none) st3:=by
   intro g;refine wpS_bind (wpS_setMin hst3 λ st4 hst4=>wpS_bind (wpS_elem (i:=j3) t2 (wpS_bind (nK (i:=0) (n:=i3+1) (hint:=i3) hO (hst4.k.trans hk) sa ha (hb _ (by simp)) (by lia) (by lia) λ k f1 f2 f3=>?_))));have hM4:MH κ a b (out3++(a.extract k (i3+1)).reverse) k (j3+1):=hM3.pushA f1 λ y hy x hx=>by
    obtain⟨q,q1,q2,rfl⟩:=gi f1 (by lia) hx;have:=f3 q q1 (by lia);rw [Nat.zero_add,cO (show q<a.size by lia)] at this;exact dl (ord κ) (gd t2 hM3.sb hy) this
   dsimp-zeta only
   extract_lets u1 u2 jp2
   have hjp2:∀out i,MH κ a b out (i+1) (j3+1)->∀hi:i<a.size,LeK κ a[i] b[j3]->i+1+(j3+1)+(y+1+1)≤a.size+b.size->wpS (model prog w) A E s (jp2 () (i+1) out) (λ r st'=>match r with
     | .done c'=>HiQ κ a b st (y+1+1) (λ out ia ib d=>∃g p q,d=(ia,ib,out,g,p,q)) c' st'
     | .yield c'=>HiQ κ a b st (y+1+1) (λ out ia ib d=>∃g p q,d=(ia,ib,out,g,p,q)) c' st'/\c'.1=none) st4:=by
    intro out i hM hi hle hlow;refine wpS_bind (wpS_elem (i:=j3) t2 ?_);have hM5:=hM.pushB1 hi t2 hle;by_cases hz:j3=1
    ·refine aH (beq_iff_eq.mpr hz) (wpS_pure ⟨hst4,.inl ⟨_,rfl,hM5.first hz hf⟩⟩)
    refine aE (λ z=>hz (beq_iff_eq.mp z)) ?_;obtain⟨j4,rfl⟩:∃j4,j3=j4+1:=⟨j3-1,by lia⟩;refine wpS_bind (wpS_elem (i:=i) hi (wpS_bind (oh (i:=0) (n:=j4+1) (hint:=j4) hO (hst4.k.trans hk) sb hb (ha _ (by simp)) (by lia) (by lia) λ k2 d1 d2 d3=>?_)));dsimp-zeta only
    extract_lets w1 w2 w3 jp3
    have hjp3:∀out j,MH κ a b out (i+1) (j+1)->∀hj:j<b.size,0<j->LtK κ b[j] a[i]->i+1+(j+1)+(y+1+1)≤a.size+b.size->wpS (model prog w) A E s (jp3 () (j+1) out) (λ r st'=>match r with
      | .done c'=>HiQ κ a b st (y+1+1) (λ out ia ib d=>∃g p q,d=(ia,ib,out,g,p,q)) c' st'
      | .yield c'=>HiQ κ a b st (y+1+1) (λ out ia ib d=>∃g p q,d=(ia,ib,out,g,p,q)) c' st'/\c'.1=none) st4:=by
     intro out j hM hj hj0 hlt hlow;refine wpS_bind (wpS_elem (i:=i) hi ?_);have hM6:=hM.pushA1 hi hj hlt;by_cases hz:i=0
     ·refine aH (beq_iff_eq.mpr hz) (wpS_pure ⟨hst4,.inl ⟨_,rfl,hM6.doneA hz⟩⟩)
     obtain⟨i5,rfl⟩:∃i5,i=i5+1:=⟨i-1,by lia⟩;refine aE (λ z=>hz (beq_iff_eq.mp z)) (cq (wpS_pure ⟨hst4,.inr ⟨_,i5,j,rfl,⟨_,_,_,rfl⟩,hM6,by lia,by lia,by lia,by lia⟩⟩) (wpS_pure ⟨⟨hst4,.inr ⟨_,i5,j,rfl,⟨_,_,_,rfl⟩,hM6,by lia,by lia,by lia,by lia⟩⟩,rfl⟩))
    clear_value jp3
    have hlast:∀q,q+1=k2->∀hq:q<b.size,LtK κ b[q] a[i]:=λ q hq hq2=>by
     have:=d2 q (by lia);rw [Nat.zero_add,cO hq2] at this;exact this
    by_cases hk0:j4+1-k2>0
    ·refine aH hk0 ?_;have hM7:=hM5.pushB (at':=k2) d1 λ x hx y hy=>by
      obtain⟨q,q1,q2,rfl⟩:=gi d1 (by lia) hy;have:=d3 q q1 (by lia);rw [Nat.zero_add,cO (show q<b.size by lia)] at this;exact le_trans (ord κ) (gd hi hM5.sa hx) this
     by_cases hz2:k2=1
     ·refine aH (beq_iff_eq.mpr hz2) (wpS_pure ⟨hst4,.inl ⟨_,rfl,hM7.first hz2 hf⟩⟩)
     refine aE (λ z=>hz2 (beq_iff_eq.mp z)) ?_;by_cases hz3:k2=0
     ·refine aH (beq_iff_eq.mpr hz3) (wpS_pure ⟨hst4,.inl ⟨_,rfl,hM7.doneB hz3⟩⟩)
     refine aE (λ z=>hz3 (beq_iff_eq.mp z)) ?_;obtain⟨k3,rfl⟩:∃k3,k2=k3+1:=⟨k2-1,by lia⟩;exact hjp3 _ k3 hM7 (by lia) (by lia) (hlast k3 rfl _) (by lia)
    ·refine aE hk0 ?_;exact hjp3 _ j4 hM5 (by lia) (by lia) (hlast j4 (by lia) _) (by lia)
   clear_value jp2
   have hlast:∀q,q+1=k->∀hq:q<a.size,LeK κ a[q] b[j3]:=λ q hq hq2=>by
    have:=f2 q (by lia);rw [Nat.zero_add,cO hq2] at this;exact this
   by_cases hk0:i3+1-k>0
   ·refine aH hk0 ?_;by_cases hz:k=0
    ·refine aH (beq_iff_eq.mpr hz) (wpS_pure ⟨hst4,.inl ⟨_,rfl,hM4.doneA hz⟩⟩)
    refine aE (λ z=>hz (beq_iff_eq.mp z)) ?_;obtain⟨k3,rfl⟩:∃k3,k=k3+1:=⟨k-1,by lia⟩;exact hjp2 _ k3 hM4 (by lia) (hlast k3 rfl _) (by lia)
   ·refine aE hk0 ?_;exact hjp2 _ i3 hM3 t1 (hlast i3 (by lia) _) t4
  clear_value jp
  exact cq (wpS_mono (hjp _) λ r st' q=>by cases r<;>exact q) (wpS_mono (hjp _) λ r st' q=>by cases r<;>exact q)
 ·rintro c st' ⟨q,_⟩;exact q
 rintro⟨c1,c2⟩ st3 ⟨hst3,⟨r,e,hW⟩|⟨out3,i3,j3,e,⟨g3,p3,r3,e2⟩,hM3,u1,u2,u3,u4⟩⟩
 ·dsimp only at e;subst e;exact wpS_pure ⟨hst3,r,rfl,hW⟩
 dsimp only at e e2;subst e e2;exact wpS_bind (wpS_setMin hst3 λ st4 hst4=>wpS_pure ⟨⟨hst4,.inr ⟨out3,i3,j3,rfl,⟨_,rfl⟩,hM3,u1,u2,u3,by lia⟩⟩,rfl⟩)
end
section
variable {prog : Program} {w : World} {A : Around} {E : Value -> Shared -> Prop} {s : Shared} {κ : KeyKind}
theorem pQ (hO:κ.OneLt){st:SortSt}{key:Keyed}{xs:Array Keyed}{i n hint:Nat}{Q:Option Nat->SortSt->Prop}(hk:kindOf st=oneType')(hs:∀p q,p≤q->q<n->κ.blt (KK κ xs (i+q)) (KK κ xs (i+p))=false)(hall:∀p∈xs.toList,Has κ p)(hkey:Has κ key)(hn:i+n≤xs.size)(hh:hint<n)
  (h:∀k,k≤n->(∀j,j<k->κ.blt (kf κ key) (KK κ xs (i+j))=false)->(∀j,k≤j->j<n->κ.blt (kf κ key) (KK κ xs (i+j))=true)->Q (some k) st):wpS (model prog w) A E s (eh false key xs i n hint) Q st:=by
 have eb:∀j,byd κ false key xs j= !κ.blt (kf κ key) (KK κ xs j):=λ j=>rfl
 refine c6 hO hk hn hh hkey hall (λ p q hpq hq hb=>?_) λ k h1 h2 h3=>h k h1 (λ j hj=>?_) λ j hj hj2=>?_
 ·rw [eb] at hb ⊢;have hb':κ.blt (kf κ key) (KK κ xs (i+q))=false:=by simpa using hb
  have:=hs p q hpq hq;cases e:κ.blt (kf κ key) (KK κ xs (i+p)) with
  |false=>rfl
  |true=>
   rcases κ.negTrans _ (KK κ xs (i+q)) _ e with z|z
   ·rw [hb'] at z;cases z
   ·rw [this] at z;cases z
 ·have:=h2 j hj;rw [eb] at this;simpa using this
 ·have:=h3 j hj hj2;rw [eb] at this;simpa using this
theorem qF (hO:κ.OneLt){st:SortSt}{key:Keyed}{xs:Array Keyed}{i n hint:Nat}{Q:Option Nat->SortSt->Prop}(hk:kindOf st=oneType')(hs:∀p q,p≤q->q<n->κ.blt (KK κ xs (i+q)) (KK κ xs (i+p))=false)(hall:∀p∈xs.toList,Has κ p)(hkey:Has κ key)(hn:i+n≤xs.size)(hh:hint<n)
  (h:∀k,k≤n->(∀j,j<k->κ.blt (KK κ xs (i+j)) (kf κ key)=true)->(∀j,k≤j->j<n->κ.blt (KK κ xs (i+j)) (kf κ key)=false)->Q (some k) st):wpS (model prog w) A E s (eh true key xs i n hint) Q st:=by
 have eb:∀j,byd κ true key xs j=κ.blt (KK κ xs j) (kf κ key):=λ j=>rfl
 refine c6 hO hk hn hh hkey hall (λ p q hpq hq hb=>?_) λ k h1 h2 h3=>h k h1 (λ j hj=>?_) λ j hj hj2=>?_
 ·rw [eb] at hb ⊢;have:=hs p q hpq hq;rcases κ.negTrans _ (KK κ xs (i+p)) _ hb with z|z
  ·rw [this] at z;cases z
  ·exact z
 ·exact h2 j hj
 ·exact h3 j hj hj2
end
theorem jB (o:Nat):∀(r:List Keyed) (n:Nat) (xs:Array Keyed),o+n+r.length≤xs.size->
  ((r.zipIdx n).foldl (λ a x=>a.setIfInBounds (o+x.2) x.1) xs).toList=xs.toList.take (o+n)++r++xs.toList.drop (o+n+r.length)
 | [],n,xs,h=>by simp
 |x::r,n,xs,h=>by
  rw [List.length_cons] at h;have hlt:o+n<xs.toList.length:=by simp;lia
  rw [List.zipIdx_cons,List.foldl_cons,jB o r (n+1) _ (by rw [Array.size_setIfInBounds];lia),Array.toList_setIfInBounds];have e1:(xs.toList.set (o+n) x).take (o+(n+1))=xs.toList.take (o+n)++[x]:=by
   rw [show o+(n+1)=o+n+1 by lia,List.take_add_one,List.getElem?_set_self hlt,List.take_set_of_le (Nat.le_refl _)];rfl
  have e2:(xs.toList.set (o+n) x).drop (o+(n+1)+r.length)=xs.toList.drop (o+n+(r.length+1)):=by
   rw [List.drop_set_of_lt (by lia)];congr 1;lia
  rw [e1,e2,List.length_cons];simp [List.append_assoc]
section
variable {κ : KeyKind}
theorem dG {xs:Array Keyed}{P X S:List Keyed}(e:xs.toList=P++X++S){j:Nat}(hj:j<X.length):KK κ xs (P.length+j)=kf κ X[j]:=by
 have hlt:P.length+j<xs.size:=by
  have:xs.toList.length=xs.size:=by simp
  rw [<-this,e];simp;lia
 rw [cO hlt];congr 1;have:xs[P.length+j]=xs.toList[P.length+j]'(by simpa using hlt):=by simp
 rw [this];simp only [e];rw [List.getElem_append_left (by simp;lia),List.getElem_append_right (by lia)];congr 1;lia
theorem gf {xs:Array Keyed}{P X S:List Keyed}(e:xs.toList=P++X++S){j:Nat}(hj:j<X.length):∃hlt:P.length+j<xs.size,xs[P.length+j]=X[j]:=by
 have hlt:P.length+j<xs.size:=by
  have:xs.toList.length=xs.size:=by simp
  rw [<-this,e];simp;lia
 refine⟨hlt,?_⟩;have:xs[P.length+j]=xs.toList[P.length+j]'(by simpa using hlt):=by simp
 rw [this];simp only [e];rw [List.getElem_append_left (by simp;lia),List.getElem_append_right (by lia)];congr 1;lia
theorem kz {xs:Array Keyed}{P X S:List Keyed}(e:xs.toList=P++X++S){i n:Nat}(hi:i≤n)(hn:n≤X.length):(xs.extract (P.length+i) (P.length+n)).toList=(X.drop i).take (n-i):=by
 rw [cA (by lia),e,show P.length+n-(P.length+i)=n-i by lia];rw [List.append_assoc,<-List.drop_drop,List.drop_left,List.drop_append_of_le_length (by lia),List.take_append_of_le_length (by simp;lia)]
theorem iG {xs:Array Keyed}{P X S:List Keyed}(e:xs.toList=P++X++S)(h:X.Pairwise (LeK κ))(p q:Nat)(hpq:p≤q)(hq:q<X.length):κ.blt (KK κ xs (P.length+q)) (KK κ xs (P.length+p))=false:=by
 rw [dG e hq,dG e (show p<X.length by lia)];rcases Nat.lt_or_ge p q with z|z
 ·exact(List.pairwise_iff_getElem.mp h) p q (by lia) hq z
 ·have:p=q:=by lia
  subst this;exact(ord κ).irr _
end
end SG
namespace SM
variable {α κ : Type} {blt : κ -> κ -> Bool} {kf : α -> κ}
theorem first_split {p:α->Bool}:∀{ys:List α},(∃y∈ys,p y=true)->∃l1 y l2,ys=l1++y::l2/\p y=true/\∀z∈l1,¬p z=true
 | [],h=>by obtain⟨y,hy,_⟩:=h;cases hy
 |z::ys,h=>by
  by_cases hz:p z=true
  ·exact⟨[],z,ys,rfl,hz,λ _ h=>nomatch h⟩
  ·obtain⟨y,hy,hp⟩:=h;rcases List.mem_cons.mp hy with rfl|hy
   ·exact absurd hp hz
   ·obtain⟨l1,y,l2,e,h1,h2⟩:=first_split ⟨y,hy,hp⟩;refine⟨z::l1,y,l2,by rw [e];rfl,h1,λ u hu=>?_⟩;rcases List.mem_cons.mp hu with rfl|hu
    ·exact hz
    ·exact h2 u hu
theorem stb_perm (O:Ord blt):∀{xs ys:List α},Stb blt kf xs ys->xs.Perm ys
 | [],ys,h=>by
  cases ys with
  |nil=>exact .nil
  |cons y ys=>have:=Stb.mem O h.symm (List.mem_cons_self (a:=y) (l:=ys));cases this
 |x::xs,ys,h=>by
  have hx:=Stb.mem O h (List.mem_cons_self (a:=x) (l:=xs));obtain⟨l1,y,l2,rfl,hy,h1⟩:=first_split ⟨x,hx,eqv_self (blt:=blt) (kf:=kf) O x⟩;have e:=h (kf x);have n1:l1.filter (eqv blt kf (kf x))=[]:=List.filter_eq_nil_iff.mpr h1;rw [List.filter_cons_of_pos (eqv_self O x),List.filter_append,n1,List.nil_append,List.filter_cons_of_pos hy] at e;obtain⟨rfl,e2⟩:=List.cons.inj e;have ht:Stb blt kf xs (l1++l2):=λ k=>by
   by_cases hk:eqv blt kf k x=true
   ·have z:=eqv_iff.mp hk;have:kf x=k:=O.tot _ _ z.1 z.2;subst this;rw [List.filter_append,n1,List.nil_append];exact e2
   ·have e3:=h k;rw [List.filter_cons_of_neg hk,List.filter_append,List.filter_cons_of_neg hk] at e3;rw [List.filter_append];exact e3
  exact(List.Perm.cons x (stb_perm O ht)).trans List.perm_middle.symm
end SM
namespace SG
open PySem PyProof.Rows SM
theorem o2 {xs:Array Keyed}(h:0<xs.size):xs[0]∈xs.toList.take 1:=by
 have:=f7 (xs:=xs) (i:=0) h;rw [Nat.zero_add] at this;rw [this];simp
theorem pZ {xs:Array Keyed}(h:0<xs.size):xs[xs.size-1]∈xs.toList.drop (xs.size-1):=by
 rw [dL (show xs.size-1<xs.size by lia)];simp
section
variable {prog : Program} {w : World} {A : Around} {E : Value -> Shared -> Prop} {s : Shared} {κ : KeyKind}
theorem ui {M:Model}{σ:Type}{x:σ}{Q:PUnit->σ->Prop}{st:σ}(h:Q ⟨⟩ x):wpS M A E s (set x:StateT σ Sem PUnit) Q st:=by
 unfold wpS;rw [StateT.run_set];exact wpAny_pure ⟨rfl,h⟩
theorem kl (hO:κ.OneLt){st:SortSt}{i:Nat}{P X Y S:List Keyed}{pw pw2:Nat}{Q:Bool->SortSt->Prop}(hk:kindOf st=oneType')(hf:failedOf st=none)(hall:∀p∈(arrOf st).toList,Has κ p)
  (e:(arrOf st).toList=P++X++Y++S) (hX:X.Pairwise (LeK κ)) (hY:Y.Pairwise (LeK κ)) (nX:0<X.length) (nY:0<Y.length)
  (p1:(pendingOf st)[i]?=some (P.length,X.length,pw)) (p2:(pendingOf st)[i+1]?=some ((P++X).length,Y.length,pw2))
  (h:∀st' Z,kindOf st'=oneType'->failedOf st'=none->pendingOf st'=((pendingOf st).setIfInBounds i (P.length,X.length+Y.length,pw)).eraseIdxIfInBounds (i+1)->(arrOf st').toList=P++Z++S->Z.Pairwise (LeK κ)->Stb κ.blt (kf κ) Z (X++Y)->Q true st'):
  wpS (model prog w) A E s (mergeAt' i) Q st:=by
 have eX:(arrOf st).toList=P++X++(Y++S):=by rw [e];simp
 have eY:(arrOf st).toList=(P++X)++Y++S:=e;have lPX:(P++X).length=P.length+X.length:=List.length_append;have lA:(arrOf st).size=P.length+X.length+Y.length+S.length:=by
  have:(arrOf st).toList.length=(arrOf st).size:=by simp
  rw [<-this,e];simp [Nat.add_assoc]
 have hmX:∀x∈X,Has κ x:=λ x hx=>hall x (by rw [e];simp [hx])
 have hmY:∀y∈Y,Has κ y:=λ y hy=>hall y (by rw [e];simp [hy])
 refine wpS_bind (wpS_get ?_);dsimp-zeta only;rw [p1,p2];dsimp-zeta only;refine wpS_bind (ui ?_);obtain⟨hy0,ey0⟩:=gf eY (j:=0) nY;refine wpS_bind (wpS_elem (i:=(P++X).length) (by omega) ?_);have ey:(arrOf st)[(P++X).length]'(by omega)=Y[0]:=ey0;rw [ey];refine wpS_bind (pQ hO hk (iG eX hX) hall (hmY _ (List.getElem_mem _)) (show P.length+X.length≤(arrOf st).size by omega) nX λ k f1 f2 f3=>?_);have g2:∀j (hj:j<k),LeK κ (X[j]'(by omega)) Y[0]:=λ j hj=>by
  have:=f2 j hj;rw [dG eX (show j<X.length by omega)] at this;exact this
 have g3:∀j,k≤j->∀hj:j<X.length,LtK κ Y[0] X[j]:=λ j hj hj2=>by
  have:=f3 j hj hj2;rw [dG eX hj2] at this;exact this
 have y0le:∀y∈Y,LeK κ Y[0] y:=λ y hy=>by
  obtain⟨j,hj,rfl⟩:=List.mem_iff_getElem.mp hy;rcases Nat.eq_zero_or_pos j with rfl|z
  ·exact(ord κ).irr _
  ·exact(List.pairwise_iff_getElem.mp hY) 0 j nY hj z
 dsimp-zeta only;by_cases hz:X.length-k=0
 ·refine aH (beq_iff_eq.mpr hz) (wpS_pure (h _ (X++Y) hk hf rfl (by show(arrOf st).toList=_;rw [e];simp) ?_ (Stb.refl _)));rw [List.pairwise_append];refine⟨hX,hY,λ x hx y hy=>?_⟩;obtain⟨j,hj,rfl⟩:=List.mem_iff_getElem.mp hx;exact le_trans (ord κ) (g2 j (by omega)) (y0le y hy)
 refine aE (λ z=>hz (beq_iff_eq.mp z)) ?_;obtain⟨hx0,ex0⟩:=gf eX (j:=X.length-1) (by omega);have eix:P.length+k+(X.length-k)-1=P.length+(X.length-1):=by omega
 rw [eix];refine wpS_bind (wpS_elem (i:=P.length+(X.length-1)) hx0 ?_);rw [ex0];refine wpS_bind (qF hO hk (iG eY hY) hall (hmX _ (List.getElem_mem _)) (show(P++X).length+Y.length≤(arrOf st).size by omega) (show Y.length-1<Y.length by omega) λ k2 d1 d2 d3=>?_);have c2:∀j (hj:j<k2),LtK κ (Y[j]'(by omega)) (X[X.length-1]'(by omega)):=λ j hj=>by
  have:=d2 j hj;rw [dG eY (show j<Y.length by omega)] at this;exact this
 have c3:∀j,k2≤j->∀hj:j<Y.length,LeK κ (X[X.length-1]'(by omega)) Y[j]:=λ j hj hj2=>by
  have:=d3 j hj hj2;rw [dG eY hj2] at this;exact this
 have hk2:0<k2:=by
  rcases Nat.eq_zero_or_pos k2 with rfl|z
  ·have a1:=c3 0 (Nat.le_refl _) nY;have a2:=g3 (X.length-1) (by omega) (by omega);have a3:κ.blt (kf κ Y[0]) (kf κ (X[X.length-1]'(by omega)))=false:=a1;have a4:κ.blt (kf κ Y[0]) (kf κ (X[X.length-1]'(by omega)))=true:=a2;rw [a3] at a4;cases a4
  ·exact z
 have xlast:∀x∈X,LeK κ x (X[X.length-1]'(by omega)):=λ x hx=>by
  obtain⟨j,hj,rfl⟩:=List.mem_iff_getElem.mp hx;rcases Nat.lt_or_ge j (X.length-1) with z|z
  ·exact(List.pairwise_iff_getElem.mp hX) j _ hj (by omega) z
  ·have:j=X.length-1:=by omega
   subst this;exact(ord κ).irr _
 dsimp-zeta only;refine aE (λ z=>absurd (beq_iff_eq.mp z) (by omega)) ?_
 extract_lets x y jp
 have ex:x.toList=X.drop k:=by
  show((arrOf st).extract (P.length+k) ((P++X).length)).toList=_;rw [lPX,kz eX (by omega) (Nat.le_refl _),List.take_of_length_le (by simp)]
 have ey':y.toList=Y.take k2:=by
  show((arrOf st).extract ((P++X).length) ((P++X).length+k2)).toList=_;have:=kz eY (i:=0) (n:=k2) (by omega) d1;rw [Nat.add_zero] at this;rw [this,List.drop_zero,Nat.sub_zero]
 have lx:x.size=X.length-k:=by rw [<-Array.length_toList,ex,List.length_drop]
 have ly:y.size=k2:=by rw [<-Array.length_toList,ey',List.length_take];omega
 have hxa:∀p∈x.toList,Has κ p:=λ p hp=>hmX p (by rw [ex] at hp;exact List.mem_of_mem_drop hp)
 have hya:∀p∈y.toList,Has κ p:=λ p hp=>hmY p (by rw [ey'] at hp;exact List.mem_of_mem_take hp)
 have sx:x.toList.Pairwise (LeK κ):=by rw [ex];exact hX.sublist (List.drop_sublist _ _)
 have sy:y.toList.Pairwise (LeK κ):=by rw [ey'];exact hY.sublist (List.take_sublist _ _)
 have xge:∀u∈x.toList,LtK κ Y[0] u:=λ u hu=>by
  rw [ex] at hu;obtain⟨j,hj,rfl⟩:=List.mem_iff_getElem.mp hu;rw [List.getElem_drop];exact g3 _ (by omega) _
 have hfirst:∀v∈y.toList.take 1,∀u∈x.toList,LtK κ v u:=λ v hv u hu=>by
  rw [ey',List.take_take,show min 1 k2=1 by omega] at hv;have:v=Y[0]:=by
   obtain⟨j,hj,rfl⟩:=List.mem_iff_getElem.mp hv;rw [List.length_take] at hj;have:j=0:=by omega
   subst this;rw [List.getElem_take]
  subst this;exact xge u hu
 have hlast:∀v∈y.toList,∀u∈x.toList.drop (x.size-1),LtK κ v u:=λ v hv u hu=>by
  rw [ey'] at hv;obtain⟨j,hj,rfl⟩:=List.mem_iff_getElem.mp hv;rw [List.length_take] at hj;rw [List.getElem_take];rw [ex,lx,List.drop_drop] at hu;have:u=X[X.length-1]'(by omega):=by
   obtain⟨q,hq,rfl⟩:=List.mem_iff_getElem.mp hu;rw [List.length_drop] at hq;rw [List.getElem_drop];congr 1;omega
  subst this;exact c2 j (by omega)
 have hj:∀(r:Array Keyed) (st2:SortSt),kindOf st2=oneType'->arrOf st2=arrOf st->failedOf st2=none->pendingOf st2=((pendingOf st).setIfInBounds i (P.length,X.length+Y.length,pw)).eraseIdxIfInBounds (i+1)->bR κ x y r->wpS (model prog w) A E s (jp r) Q st2:=by
  intro r st2 b1 b2 b3 b4 hW;have lr:r.toList.length=(X.length-k)+k2:=by
   rw [(stb_perm (ord κ) hW.2).length_eq,List.length_append,Array.length_toList,Array.length_toList,lx,ly]
  refine wpS_bind (wpS_modify ?_);refine wpS_bind (wpS_get ?_);have hfn:(failedOf st2).isNone=true:=by rw [b3];rfl
  refine wpS_pure ?_;show Q ((failedOf st2).isNone) _;rw [hfn];refine h _ (X.take k++r.toList++Y.drop k2) b1 b3 b4 ?_ ?_ ?_
  ·show((r.toList.zipIdx 0).foldl (λ a x=>a.setIfInBounds (P.length+k+x.2) x.1) (arrOf st2)).toList=_;rw [b2,jB (P.length+k) r.toList 0 (arrOf st) (by rw [lr,lA];omega),Nat.add_zero,lr,e];have t1:(P++X++Y++S).take (P.length+k)=P++X.take k:=by
    rw [List.append_assoc,List.append_assoc,List.take_append,List.take_of_length_le (by omega),show P.length+k-P.length=k by omega,List.take_append_of_le_length (by omega)]
   have t2:(P++X++Y++S).drop (P.length+k+(X.length-k+k2))=Y.drop k2++S:=by
    rw [List.append_assoc (P++X),show P.length+k+(X.length-k+k2)=(P++X).length+k2 by rw [lPX];omega,<-List.drop_drop,List.drop_left,List.drop_append_of_le_length (by omega)]
   rw [t1,t2];simp [List.append_assoc]
  ·have memr:∀u∈r.toList,u∈x.toList\/u∈y.toList:=λ u hu=>List.mem_append.mp (Stb.mem (ord κ) hW.2 hu)
   rw [List.append_assoc,List.pairwise_append,List.pairwise_append];refine⟨hX.sublist (List.take_sublist _ _),⟨hW.1,hY.sublist (List.drop_sublist _ _),λ u hu v hv=>?_⟩,λ u hu v hv=>?_⟩
   ·obtain⟨q,hq,rfl⟩:=List.mem_iff_getElem.mp hv;rw [List.length_drop] at hq;rw [List.getElem_drop];rcases memr u hu with z|z
    ·rw [ex] at z;exact le_trans (ord κ) (xlast u (List.mem_of_mem_drop z)) (c3 _ (by omega) _)
    ·rw [ey'] at z;obtain⟨j,hj,rfl⟩:=List.mem_iff_getElem.mp z;rw [List.length_take] at hj;rw [List.getElem_take];exact(List.pairwise_iff_getElem.mp hY) j _ (by omega) (by omega) (by omega)
   ·obtain⟨q,hq,rfl⟩:=List.mem_iff_getElem.mp hu;rw [List.length_take] at hq;rw [List.getElem_take];have a1:=g2 q (by omega);rcases List.mem_append.mp hv with z|z
    ·rcases memr v z with z|z
     ·exact le_trans (ord κ) a1 (le_of_lt (ord κ) (xge v z))
     ·rw [ey'] at z;exact le_trans (ord κ) a1 (y0le v (List.mem_of_mem_take z))
    ·exact le_trans (ord κ) a1 (y0le v (List.mem_of_mem_drop z))
  ·have q1:=((Stb.refl (blt:=κ.blt) (kf:=kf κ) (X.take k)).app hW.2).app (Stb.refl (Y.drop k2));rw [ex,ey'] at q1;have:X.take k++(X.drop k++Y.take k2)++Y.drop k2=X++Y:=by
    rw [<-List.append_assoc,List.take_append_drop,List.append_assoc,List.take_append_drop]
   rw [this] at q1;exact q1
 clear_value jp
 have nx:0<x.size:=by omega
 have ny:0<y.size:=by omega
 refine cq (wpS_bind (kD hO hk hxa hya sx sy nx ny (hfirst _ (o2 ny) _ (by simp)) hlast λ r st' hst hW=>hj r st' (hst.k.trans hk) hst.a (hst.f.trans hf) hst.p hW))
  (wpS_bind (jT hO hk hxa hya sx sy nx ny hfirst (hlast _ (by simp) _ (pZ nx)) λ r st' hst hW=>hj r st' (hst.k.trans hk) hst.a (hst.f.trans hf) hst.p hW))
end
theorem toL {xs:Array Keyed}(k:Nat):xs[k]?=xs.toList[k]?:=by simp
theorem jC {xs:Array Keyed}{A' M B:List Keyed}(e:xs.toList=A'++M++B):(mirror xs A'.length (A'.length+M.length) ((A'.length+M.length-A'.length)/2)).toList=A'++M.reverse++B:=by
 have hs:A'.length+M.length≤xs.size:=by
  rw [<-Array.length_toList,e];simp
 apply List.ext_getElem?;intro k;rw [<-toL,getElem?_mirror_all hs k,toL,toL,e];by_cases h:A'.length≤k/\k<A'.length+M.length
 ·rw [if_pos h,List.append_assoc,List.append_assoc,List.getElem?_append_right (by lia),List.getElem?_append_right h.1,List.getElem?_append_left (by lia),List.getElem?_append_left (by simp;lia),List.getElem?_reverse (by lia)];congr 1;lia
 ·rw [if_neg h,List.append_assoc,List.append_assoc];rcases Nat.lt_or_ge k A'.length with z|z
  ·rw [List.getElem?_append_left z,List.getElem?_append_left z]
  ·rw [List.getElem?_append_right z,List.getElem?_append_right z,List.getElem?_append_right (by lia),List.getElem?_append_right (by simp;lia),List.length_reverse]
theorem kj {xs:Array Keyed}{A' M B:List Keyed}{x:Keyed}(e:xs.toList=A'++M++[x]++B):(bubble xs (A'.length+M.length) (A'.length+M.length-A'.length)).toList=A'++[x]++M++B:=by
 have hs:A'.length+M.length<xs.size:=by
  rw [<-Array.length_toList,e];simp
 apply List.ext_getElem?;intro k;rw [<-toL,getElem?_bubble hs _ (by lia) k,toL,toL,toL,e,show A'.length+M.length-(A'.length+M.length-A'.length)=A'.length by lia];have e1:(A'++M++[x]++B)[A'.length+M.length]?=some x:=by
  rw [List.append_assoc (A'++M),List.getElem?_append_right (by simp)];simp
 rw [e1];by_cases h1:k=A'.length
 ·subst h1;rw [if_pos rfl,List.append_assoc,List.append_assoc,List.getElem?_append_right (Nat.le_refl _)];simp
 ·rw [if_neg h1];by_cases h2:A'.length<k/\k≤A'.length+M.length
  ·rw [if_pos h2,List.append_assoc (A'++M),List.append_assoc,List.getElem?_append_right (by lia),List.getElem?_append_left (by lia),List.append_assoc (A'++[x]),List.getElem?_append_right (by simp;lia),List.getElem?_append_left (by simp;lia)];congr 1;simp;lia
  ·rw [if_neg h2];rcases Nat.lt_or_ge k A'.length with z|z
   ·rw [List.append_assoc (A'++M),List.append_assoc,List.getElem?_append_left z,List.append_assoc (A'++[x]),List.append_assoc,List.getElem?_append_left z]
   ·rw [List.getElem?_append_right (by simp;lia),List.getElem?_append_right (by simp;lia)];congr 1;simp
section
variable {prog : Program} {w : World} {A : Around} {E : Value -> Shared -> Prop} {s : Shared} {κ : KeyKind}
structure At (κ:KeyKind)(st:SortSt)(pe:Array (Nat×Nat×Nat))(l:List Keyed):Prop where
 k:kindOf st=oneType'
 f:failedOf st=none
 p:pendingOf st=pe
 a:(arrOf st).toList=l
 has:∀p∈l,Has κ p
theorem At.setA {st:SortSt}{pe:Array (Nat×Nat×Nat)}{l l':List Keyed}(h:At κ st pe l){xs:Array Keyed}(e:xs.toList=l')(hm:∀p∈l',p∈l):At κ (setArr st xs) pe l':=⟨h.k,h.f,h.p,e,λ p hp=>h.has p (hm p hp)⟩
theorem wpS_ltL (hO:κ.OneLt){st:SortSt}{pe:Array (Nat×Nat×Nat)}{P X S:List Keyed}{i j:Nat}{Q:Option Bool->SortSt->Prop}(h:At κ st pe (P++X++S))(hi:i<X.length)(hj:j<X.length)
  (hq:Q (some (κ.blt (kf κ X[i]) (kf κ X[j]))) st):wpS (model prog w) A E s (ltAt' (P.length+i) (P.length+j)) Q st:=by
 rw [ltAt'_eq];refine wpS_bind (wpS_get ?_);obtain⟨h1,e1⟩:=gf h.a hi;obtain⟨h2,e2⟩:=gf h.a hj;refine wpS_bind (wpS_elem h1 (wpS_bind (wpS_elem h2 ?_)));rw [e1,e2];exact gv hO h.k (h.has _ (by simp)) (h.has _ (by simp)) hq
theorem wpS_rev {st:SortSt}{pe:Array (Nat×Nat×Nat)}{A' M B:List Keyed}{i j:Nat}{Q:Unit->SortSt->Prop}(h:At κ st pe (A'++M++B))(ei:i=A'.length)(ej:j=A'.length+M.length)(hq:∀st',At κ st' pe (A'++M.reverse++B)->Q () st'):
  wpS (model prog w) A E s (reverseSlice' i j) Q st:=by
 subst ei ej;exact wpS_reverse (hq _ (h.setA (jC h.a) λ p hp=>by simpa using hp))
theorem rD {st:SortSt}{pe:Array (Nat×Nat×Nat)}{A' M B:List Keyed}{x:Keyed}{i j:Nat}{Q:Unit->SortSt->Prop}(h:At κ st pe (A'++M++[x]++B))(ei:i=A'.length+M.length)(ej:j=A'.length)(hq:∀st',At κ st' pe (A'++[x]++M++B)->Q () st'):
  wpS (model prog w) A E s (moveDown' i j) Q st:=by
 subst ei ej;rw [moveDown'_eq];exact wpS_modify (hq _ (h.setA (kj h.a) λ p hp=>by
  simp only [List.mem_append,List.mem_singleton] at hp ⊢;rcases hp with((z|z)|z)|z
  ·exact .inl (.inl (.inl z))
  ·exact .inl (.inr z)
  ·exact .inl (.inl (.inr z))
  ·exact .inr z))
end
def pk:Nat->Nat->StateT SortSt Sem (Option Nat):=sortPriv%PySem.Builtin.countRun
section
variable {κ : KeyKind}
theorem sO {l:List Keyed}{x:Keyed}(h:l.Pairwise (LeK κ))(hx:∀y∈l,LeK κ y x):(l++[x]).Pairwise (LeK κ):=by
 rw [List.pairwise_append];exact⟨h,by simp,λ a ha b hb=>by
  have:b=x:=by simpa using hb
  subst this;exact hx a ha⟩
theorem nG {l:List Keyed}(h:l.Pairwise (LeK κ)){n:Nat}(hn:n+1=l.length){y:Keyed}(hy:y∈l):LeK κ y (l[n]'(by lia)):=by
 obtain⟨j,hj,rfl⟩:=List.mem_iff_getElem.mp hy;rcases Nat.lt_or_ge j n with z|z
 ·exact(List.pairwise_iff_getElem.mp h) j n hj (by lia) z
 ·have:j=n:=by lia
  subst this;exact(ord κ).irr _
structure Ds (κ:KeyKind)(X D0 Eb:List Keyed)(n neq:Nat):Prop where
 le:Eb.length=neq+1
 ln:D0.length+Eb.length=n
 eq:∀u∈Eb,∀v∈Eb,LeK κ u v
 sd:D0.reverse.Pairwise (LeK κ)
 lt:∀u∈Eb,∀d∈D0,LtK κ u d
 st:Stb κ.blt (kf κ) (Eb++D0.reverse) (X.take n)
theorem Ds.sorted {X D0 Eb:List Keyed}{n neq:Nat}(h:Ds κ X D0 Eb n neq):(Eb++D0.reverse).Pairwise (LeK κ):=by
 rw [List.pairwise_append];exact⟨List.pairwise_of_forall_mem_list λ u hu v hv=>h.eq u hu v hv,h.sd,λ u hu d hd=>le_of_lt (ord κ) (h.lt u hu d (List.mem_reverse.mp hd))⟩
theorem cE {X:List Keyed}{n:Nat}(hn:n<X.length):X.take (n+1)=X.take n++[X[n]]:=by
 rw [List.take_add_one,List.getElem?_eq_getElem hn];rfl
theorem Ds.next {X D0 Eb:List Keyed}{n neq:Nat}(h:Ds κ X D0 Eb n neq)(hn:n<X.length)(hlt:∀u∈Eb,LtK κ X[n] u):Ds κ X (D0++Eb.reverse) [X[n]] (n+1) 0:=by
 have hall:∀u∈Eb++D0.reverse,LtK κ X[n] u:=λ u hu=>by
  rcases List.mem_append.mp hu with z|z
  ·exact hlt u z
  ·have hne:0<Eb.length:=by have:=h.le;lia
   have e0:Eb[0]∈Eb:=List.getElem_mem hne;exact(ord κ).tr _ _ _ (hlt _ e0) (h.lt _ e0 u (List.mem_reverse.mp z))
 refine⟨rfl,by rw [List.length_append,List.length_reverse,h.ln];rfl,λ u hu v hv=>?_,?_,λ u hu d hd=>?_,?_⟩
 ·have e1:u=X[n]:=by simpa using hu
  have e2:v=X[n]:=by simpa using hv
  subst e1;subst e2;exact(ord κ).irr _
 ·rw [List.reverse_append,List.reverse_reverse];exact h.sorted
 ·have e1:u=X[n]:=by simpa using hu
  subst e1;refine hall d ?_;rcases List.mem_append.mp hd with z|z
  ·exact List.mem_append_right _ (List.mem_reverse.mpr z)
  ·exact List.mem_append_left _ (List.mem_reverse.mp z)
 ·rw [List.reverse_append,List.reverse_reverse,cE hn];refine Stb.trans ?_ (h.st.app (Stb.refl [X[n]]));refine(cX (ord κ) λ y hy x hx=>?_).symm;have e1:y=X[n]:=by simpa using hy
  subst e1;exact hall x hx
theorem Ds.more {X D0 Eb:List Keyed}{n neq:Nat}(h:Ds κ X D0 Eb n neq)(hn:n<X.length)(h1:∀u∈Eb,LeK κ X[n] u)(h2:∀u∈Eb,LeK κ u X[n]):Ds κ X D0 (Eb++[X[n]]) (n+1) (neq+1):=by
 have hne:0<Eb.length:=by have:=h.le;lia
 have e0:Eb[0]∈Eb:=List.getElem_mem hne;have hD:∀d∈D0,LtK κ X[n] d:=λ d hd=>dl (ord κ) (h1 _ e0) (h.lt _ e0 d hd)
 refine⟨by rw [List.length_append,h.le];rfl,by rw [List.length_append,<-Nat.add_assoc,h.ln];rfl,λ u hu v hv=>?_,h.sd,λ u hu d hd=>?_,?_⟩
 ·rcases List.mem_append.mp hu with z|z<;>rcases List.mem_append.mp hv with z2|z2
  ·exact h.eq u z v z2
  ·have:v=X[n]:=by simpa using z2
   subst this;exact h2 u z
  ·have:u=X[n]:=by simpa using z
   subst this;exact h1 v z2
  ·have e1:u=X[n]:=by simpa using z
   have e2:v=X[n]:=by simpa using z2
   subst e1;subst e2;exact(ord κ).irr _
 ·rcases List.mem_append.mp hu with z|z
  ·exact h.lt u z d hd
  ·have:u=X[n]:=by simpa using z
   subst this;exact hD d hd
 ·rw [cE hn];refine Stb.trans ?_ (h.st.app (Stb.refl [X[n]]));rw [List.append_assoc,List.append_assoc];refine(Stb.refl Eb).app (cX (ord κ) λ y hy x hx=>?_).symm;have:y=X[n]:=by simpa using hy
  subst this;exact hD x (List.mem_reverse.mp hx)
end
section
variable {prog : Program} {w : World} {A : Around} {E : Value -> Shared -> Prop} {s : Shared} {κ : KeyKind}
theorem rl (hO:κ.OneLt){st:SortSt}{pe:Array (Nat×Nat×Nat)}{P X S:List Keyed}{a nrem:Nat}{f:Nat->(Option (Option Nat)×Nat)->StateT SortSt Sem (ForInStep (Option (Option Nat)×Nat))}{Q:(Option (Option Nat)×Nat)->SortSt->Prop}
  (h:At κ st pe (P++X++S)) (hn:nrem=X.length) (ha:1≤a) (han:a≤nrem) (hs:(X.take a).Pairwise (LeK κ))
  (hf:∀(x n:Nat) (hn1:1≤n) (hn2:n<nrem),wpS (model prog w) A E s (f x (none,n)) (λ r st'=>st'=st/\r=if κ.blt (kf κ (X[n]'(by lia))) (kf κ (X[n-1]'(by lia)))=true then .done (none,n) else .yield (none,n+1)) st)
  (hq:∀n,a≤n->n≤nrem->(X.take n).Pairwise (LeK κ)->(n=nrem\/∃hlt:n<X.length,LtK κ X[n] (X[n-1]'(by lia)))->Q (none,n) st):wpS (model prog w) A E s (forIn [a:nrem] (none,a) f) Q st:=by
 refine wpS_forRange (I:=λ x c st'=>st'=st/\c=(none,x)/\(X.take x).Pairwise (LeK κ)) ?_ ?_ ⟨rfl,rfl,hs⟩
 ·rintro x c st' hax hxn ⟨rfl,rfl,hs'⟩;refine wpS_mono (hf x x (by lia) hxn) ?_;rintro r st'' ⟨rfl,rfl⟩;by_cases hc:κ.blt (kf κ (X[x]'(by lia))) (kf κ (X[x-1]'(by lia)))=true
  ·rw [if_pos hc];exact hq x hax (by lia) hs' (.inr ⟨by lia,hc⟩)
  ·rw [if_neg hc];refine⟨rfl,rfl,?_⟩;rw [cE (show x<X.length by lia)];refine sO hs' λ y hy=>?_
   have l1:=nG hs' (n:=x-1) (by rw [List.length_take];lia) hy;rw [List.getElem_take] at l1;exact le_trans (ord κ) l1 (by simpa using hc)
 ·rintro c st' ⟨rfl,rfl,hs'⟩;rw [show max a nrem=nrem by lia] at hs' ⊢;exact hq nrem han (Nat.le_refl _) hs' (.inl rfl)
theorem jb (hO:κ.OneLt){st:SortSt}{pe:Array (Nat×Nat×Nat)}{P X S:List Keyed}{lo nrem:Nat}{Q:Option Nat->SortSt->Prop}(h:At κ st pe (P++X++S))(hlo:lo=P.length)(hn:nrem=X.length)(h1:1≤nrem)
  (hq:∀m Y st',1≤m->m≤nrem->Y.length=m->Y.Pairwise (LeK κ)->Stb κ.blt (kf κ) Y (X.take m)->At κ st' pe (P++(Y++X.drop m)++S)->Q (some m) st'):wpS (model prog w) A E s (pk lo nrem) Q st:=by
 subst hlo;have up:∀{st:SortSt} {X:List Keyed},At κ st pe (P++X++S)->∀(hXn:nrem=X.length) (n:Nat) (hn1:1≤n) (hn2:n<nrem) {Q:Option Bool->SortSt->Prop},Q (some (κ.blt (kf κ (X[n]'(by lia))) (kf κ (X[n-1]'(by lia))))) st->wpS (model prog w) A E s (ltAt' (P.length+n) (P.length+n-1)) Q st:=by
  intro st X h hn n hn1 hn2 Q hq;rw [show P.length+n-1=P.length+(n-1) by lia];exact wpS_ltL hO h (by lia) (by lia) hq
 refine wpS_bind (rl hO h hn (Nat.le_refl 1) h1 ?_ ?_ λ n hn1 hn2 hs hor=>?_)
 ·cases X with
  |nil=>simp
  |cons x X=>simp
 ·intro x n hn1 hn2;refine wpS_bind (up h hn n hn1 hn2 ?_);dsimp only
  split
  ·exact wpS_pure ⟨rfl,rfl⟩
  ·exact wpS_pure ⟨rfl,rfl⟩
 dsimp-zeta only;have same:P++X++S=P++(X.take n++X.drop n)++S:=by rw [List.take_append_drop]
 have lt:(X.take n).length=n:=by rw [List.length_take];lia
 by_cases e1:n=nrem
 ·refine aH (beq_iff_eq.mpr e1) (wpS_pure (hq n (X.take n) st hn1 hn2 lt hs (Stb.refl _) (same▸h)))
 refine aE (λ z=>e1 (beq_iff_eq.mp z)) ?_;obtain⟨hlt,hless⟩:=hor.resolve_left e1
 extract_lets v1 v2 jp
 have hjp:∀st1,At κ st1 pe (P++((X.take n).reverse++X.drop n)++S)->(∀u∈X.take n,∀v∈X.take n,LeK κ u v)->wpS (model prog w) A E s (jp ()) Q st1:=by
  intro st1 hA1 heq;refine wpS_bind (wpS_lift (wpAny_rule ⟨rfl,?_⟩));have hprev:(X[n-1]'(by lia))∈X.take n:=by
   rw [List.mem_take_iff_getElem];exact⟨n-1,by lia,rfl⟩
  have hX0:∀u∈X.take n,LtK κ X[n] u:=λ u hu=>cx (ord κ) hless (heq _ hprev u hu)
  have hD0:Ds κ X (X.take n).reverse [X[n]] (n+1) 0:=by
   refine⟨rfl,by rw [List.length_reverse,lt];rfl,λ u hu v hv=>?_,by rw [List.reverse_reverse];exact hs,λ u hu d hd=>?_,?_⟩
   ·have e1:u=X[n]:=by simpa using hu
    have e2:v=X[n]:=by simpa using hv
    subst e1;subst e2;exact(ord κ).irr _
   ·have e1:u=X[n]:=by simpa using hu
    subst e1;exact hX0 d (List.mem_reverse.mp hd)
   ·rw [List.reverse_reverse,cE hlt];refine(cX (ord κ) λ y hy x hx=>?_).symm;have e1:y=X[n]:=by simpa using hy
    subst e1;exact hX0 x hx
  have hA0:At κ st1 pe (P++((X.take n).reverse++[X[n]]++X.drop (n+1))++S):=by
   rw [List.append_assoc (X.take n).reverse,List.singleton_append,<-List.drop_eq_getElem_cons hlt];exact hA1
  refine wpS_bind (wpS_mono (wpS_forRange (I:=λ x c st'=>∃D0 Eb neq,c=(none,x,neq)/\Ds κ X D0 Eb x neq/\At κ st' pe (P++(D0++Eb++X.drop x)++S))
   (Q:=λ c st'=>∃m D0 Eb neq,c=(none,m,neq)/\m≤nrem/\n+1≤m/\Ds κ X D0 Eb m neq/\At κ st' pe (P++(D0++Eb++X.drop m)++S)) ?_ ?_ ⟨_,_,0,rfl,hD0,hA0⟩) ?_)
  ·rintro x c st2 hax hxn ⟨D0,Eb,neq,rfl,hD,hA⟩;have hax':n+1≤x:=hax;have hl1:=hD.le;have hl2:=hD.ln;have hxX:x<X.length:=by lia
   have lC:nrem=(D0++Eb++X.drop x).length:=by rw [List.length_append,List.length_append,List.length_drop];lia
   have hc1:(D0++Eb++X.drop x)[x]'(by lia)=X[x]:=by
    rw [List.getElem_append_right (by rw [List.length_append];lia),List.getElem_drop];congr 1;rw [List.length_append];lia
   have hc2:(D0++Eb++X.drop x)[x-1]'(by lia)=Eb[neq]'(by lia):=by
    rw [List.getElem_append_left (by rw [List.length_append];lia),List.getElem_append_right (by lia)];congr 1;lia
   have hEl:(Eb[neq]'(by lia))∈Eb:=List.getElem_mem _;refine wpS_bind (up hA lC x (by lia) hxn ?_);rw [hc1,hc2];dsimp only;cases e:κ.blt (kf κ X[x]) (kf κ (Eb[neq]'(by lia))) with
   |true=>
    refine aH rfl ?_;have hN:=hD.next hxX λ u hu=>cx (ord κ) e (hD.eq _ hEl u hu)
    have fin:∀st3,At κ st3 pe (P++D0++Eb.reverse++(X.drop x++S))->At κ st3 pe (P++(D0++Eb.reverse++[X[x]]++X.drop (x+1))++S):=λ st3 h3=>by
     rw [List.append_assoc (D0++Eb.reverse),List.singleton_append,<-List.drop_eq_getElem_cons hxX];simpa [List.append_assoc] using h3
    by_cases hneq:neq>0
    ·refine aH hneq (wpS_bind (wpS_rev (A':=P++D0) (M:=Eb) (B:=X.drop x++S) (by simpa [List.append_assoc] using hA) (by rw [List.length_append];lia) (by rw [List.length_append];lia) λ st3 hA3=>wpS_pure ⟨_,_,0,rfl,hN,fin st3 hA3⟩))
    ·have hrev:Eb.reverse=Eb:=by
      match Eb,hl1 with
      | [y],_=>rfl
      |y::z::r,q=>exact absurd q (by simp;lia)
     refine aE hneq (wpS_pure ⟨_,_,0,rfl,hN,fin st2 ?_⟩);rw [hrev];simpa [List.append_assoc] using hA
   |false=>
    refine aE (by decide) ?_;rw [show P.length+x-1=P.length+(x-1) by lia];refine wpS_bind (wpS_ltL hO hA (by lia) (by lia) ?_);rw [hc1,hc2];dsimp only;cases e2:κ.blt (kf κ (Eb[neq]'(by lia))) (kf κ X[x]) with
    |true=>exact aH rfl (wpS_pure ⟨x,D0,Eb,neq,rfl,by lia,hax',hD,hA⟩)
    |false=>
     refine aE (by decide) (wpS_pure ⟨D0,_,neq+1,rfl,hD.more hxX (λ u hu=>le_trans (ord κ) e2 (hD.eq _ hEl u hu)) (λ u hu=>le_trans (ord κ) (hD.eq u hu _ hEl) e),?_⟩);rw [<-List.append_assoc D0,List.append_assoc (D0++Eb),List.singleton_append,<-List.drop_eq_getElem_cons hxX];exact hA
  ·rintro c st2 ⟨D0,Eb,neq,rfl,hD,hA⟩;have:max (n+1) nrem=nrem:=by lia
   have this':max v1 nrem=nrem:=this;rw [this'] at hD hA ⊢;exact⟨nrem,D0,Eb,neq,rfl,Nat.le_refl _,by lia,hD,hA⟩
  ·rintro c st2 ⟨m,D0,Eb,neq,ec,hm1,hm2,hD,hA⟩;subst ec;have hl1:=hD.le;have hl2:=hD.ln;dsimp-zeta only
   extract_lets r1 r2 r3 r4 jp3
   have er3:m=r3:=rfl;have er4:neq=r4:=rfl
   clear_value r3 r4
   subst er3 er4;have hjp3:∀st3,At κ st3 pe (P++D0++Eb.reverse++(X.drop m++S))->wpS (model prog w) A E s (jp3 ()) Q st3:=by
    intro st3 hA3;refine wpS_bind (wpS_rev (A':=P) (M:=D0++Eb.reverse) (B:=X.drop m++S) (by simpa [List.append_assoc] using hA3) rfl (by rw [List.length_append,List.length_reverse,hl2]) λ st4 hA4=>?_);rw [List.reverse_append,List.reverse_reverse] at hA4;have lY:(Eb++D0.reverse).length=m:=by rw [List.length_append,List.length_reverse];lia
    have lYX:nrem=(Eb++D0.reverse++X.drop m).length:=by rw [List.length_append,lY,List.length_drop];lia
    have hA5:At κ st4 pe (P++(Eb++D0.reverse++X.drop m)++S):=by simpa [List.append_assoc] using hA4
    refine wpS_bind (rl (X:=Eb++D0.reverse++X.drop m) hO hA5 lYX (by lia) hm1 ?_ ?_ λ n2 hn3 hn4 hs2 _=>?_)
    ·rw [List.take_append_of_le_length (by lia),List.take_of_length_le (by lia)];exact hD.sorted
    ·intro x n2 hn3 hn4;refine wpS_bind (up hA5 lYX n2 hn3 hn4 ?_);dsimp only
     split
     ·exact wpS_pure ⟨rfl,rfl⟩
     ·exact wpS_pure ⟨rfl,rfl⟩
    refine wpS_pure (hq n2 _ st4 (by lia) hn4 (by rw [List.length_take];lia) hs2 ?_ ?_)
    ·have e1:(Eb++D0.reverse++X.drop m).take n2=Eb++D0.reverse++(X.drop m).take (n2-m):=by
      rw [List.take_append,List.take_of_length_le (by lia),lY]
     have e2:X.take n2=X.take m++(X.drop m).take (n2-m):=by
      rw [<-List.take_add,show m+(n2-m)=n2 by lia]
     rw [e1,e2];exact hD.st.app (Stb.refl _)
    ·have e1:(Eb++D0.reverse++X.drop m).drop n2=X.drop n2:=by
      rw [List.drop_append,List.drop_eq_nil_of_le (show(Eb++D0.reverse).length≤n2 by lia),List.nil_append,lY,List.drop_drop,show m+(n2-m)=n2 by lia]
     rw [<-e1,List.take_append_drop];exact hA5
   clear_value jp3
   by_cases hneq:neq>0
   ·refine aH hneq (wpS_bind (wpS_rev (A':=P++D0) (M:=Eb) (B:=X.drop m++S) (by simpa [List.append_assoc] using hA) (by rw [List.length_append];lia) (by rw [List.length_append];lia) λ st3 hA3=>hjp3 st3 hA3))
   ·have hrev:Eb.reverse=Eb:=by
     match Eb,hl1 with
     | [y],_=>rfl
     |y::z::r,q=>exact absurd q (by simp;lia)
    refine aE hneq (hjp3 st2 ?_);rw [hrev];simpa [List.append_assoc] using hA
 clear_value jp
 by_cases hgt:n>1
 ·refine aH hgt ?_;rw [show P.length+n-1=P.length+(n-1) by lia];refine wpS_bind (wpS_ltL (i:=0) hO h (by lia) (by lia) ?_);dsimp only;cases er:κ.blt (kf κ (X[0]'(by lia))) (kf κ (X[n-1]'(by lia))) with
  |true=>exact aH rfl (wpS_pure (hq n (X.take n) st hn1 hn2 lt hs (Stb.refl _) (same▸h)))
  |false=>
   refine aE (by decide) (wpS_bind (wpS_rev (A':=P) (M:=X.take n) (B:=X.drop n++S) ?_ rfl (by rw [lt]) λ st3 hA3=>hjp st3 (by simpa [List.append_assoc] using hA3) λ u hu v hv=>?_))
   ·have e0:P++X.take n++(X.drop n++S)=P++X++S:=by rw [List.append_assoc P,<-List.append_assoc (X.take n),List.take_append_drop,<-List.append_assoc]
    rw [e0];exact h
   ·have l1:=nG hs (n:=n-1) (by lia) hu;rw [List.getElem_take] at l1;obtain⟨j,hj,rfl⟩:=List.mem_iff_getElem.mp hv;rw [List.getElem_take];have l2:LeK κ (X[0]'(by lia)) (X[j]'(by lia)):=by
     rcases Nat.eq_zero_or_pos j with rfl|z
     ·exact(ord κ).irr _
     ·have:=(List.pairwise_iff_getElem.mp hs) 0 j (by lia) hj z;rw [List.getElem_take,List.getElem_take] at this;exact this
    exact le_trans (ord κ) l1 (le_trans (ord κ) er l2)
 ·refine aE hgt (hjp st ?_ λ u hu v hv=>?_)
  ·have:n=1:=by lia
   subst this;rw [same] at h;have e1:(X.take 1).reverse=X.take 1:=by
    cases X with
    |nil=>rfl
    |cons x X=>rfl
   rw [e1];exact h
  ·have:n=1:=by lia
   subst this;obtain⟨j,hj,rfl⟩:=List.mem_iff_getElem.mp hu;obtain⟨q,hq',rfl⟩:=List.mem_iff_getElem.mp hv;have e1:j=0:=by lia
   have e2:q=0:=by lia
   subst e1;subst e2;exact(ord κ).irr _
theorem gG (hO:κ.OneLt){st:SortSt}{pe:Array (Nat×Nat×Nat)}{P Y R S:List Keyed}{lo n ok:Nat}{Q:Bool->SortSt->Prop}(h:At κ st pe (P++(Y++R)++S))(hlo:lo=P.length)(hY:Y.Pairwise (LeK κ))(lY:Y.length=ok)(h1:1≤ok)(hok:ok≤n)(hn:n≤ok+R.length)
  (hq:∀Y' st',Y'.length=n->Y'.Pairwise (LeK κ)->Stb κ.blt (kf κ) Y' (Y++R.take (n-ok))->At κ st' pe (P++(Y'++R.drop (n-ok))++S)->Q true st'):wpS (model prog w) A E s (binarySort' lo n ok) Q st:=by
 subst hlo;refine wpS_bind (wpS_mono (wpS_forRange (I:=λ k c st'=>c=(none,())/\∃Y',Y'.length=k/\Y'.Pairwise (LeK κ)/\Stb κ.blt (kf κ) Y' (Y++R.take (k-ok))/\At κ st' pe (P++(Y'++R.drop (k-ok))++S))
  (Q:=λ c st'=>c=(none,())/\∃Y',Y'.length=n/\Y'.Pairwise (LeK κ)/\Stb κ.blt (kf κ) Y' (Y++R.take (n-ok))/\At κ st' pe (P++(Y'++R.drop (n-ok))++S)) ?step ?fin ?init) ?post)
 case post=>
  rintro c st' ⟨rfl,Y',e1,e2,e3,e4⟩;exact wpS_pure (hq Y' st' e1 e2 e3 e4)
 case init=>
  have e:max ok 1=ok:=by lia
  rw [e];refine⟨rfl,Y,lY,hY,?_,?_⟩
  ·rw [Nat.sub_self,List.take_zero,List.append_nil];exact Stb.refl _
  ·rw [Nat.sub_self,List.drop_zero];exact h
 case fin=>
  rintro c st' ⟨rfl,Y',e1,e2,e3,e4⟩;rw [show max (max ok 1) n=n by lia] at e1 e3 e4;exact⟨rfl,Y',e1,e2,e3,e4⟩
 case step=>
  rintro k c st' hak hkn ⟨rfl,Y',e1,e2,e3,e4⟩;have hak':ok≤k:=by lia
  have hkr:k-ok<R.length:=by lia
  have lC:(Y'++R.drop (k-ok)).length=k+(R.length-(k-ok)):=by rw [List.length_append,List.length_drop,e1]
  have hx:(Y'++R.drop (k-ok))[k]'(by lia)=R[k-ok]:=by
   rw [List.getElem_append_right (by lia),List.getElem_drop];congr 1;lia
  have hy:∀m (hm:m<k),(Y'++R.drop (k-ok))[m]'(by lia)=Y'[m]'(by lia):=λ m hm=>List.getElem_append_left (by lia)
  extract_lets v1 v2
  refine wpS_bind (wpS_mono (wpS_forRange (I:=λ x c st''=>st''=st'/\∃l r,c=(none,l,r)/\l≤r/\r≤k/\r-l≤k-x/\
    (∀i (hi:i<l) (hik:i<k),LeK κ (Y'[i]'(by lia)) R[k-ok])/\(∀i,r≤i->∀hi:i<k,LtK κ R[k-ok] (Y'[i]'(by lia))))
   (Q:=λ c st''=>st''=st'/\∃l r,c=(none,l,r)/\l≤k/\(∀i (hi:i<l) (hik:i<k),LeK κ (Y'[i]'(by lia)) R[k-ok])/\(∀i,l≤i->∀hi:i<k,LtK κ R[k-ok] (Y'[i]'(by lia)))) ?istep ?ifin ?iinit) ?ipost)
  case iinit=>exact⟨rfl,0,k,rfl,by lia,by lia,by lia,λ i hi=>absurd hi (by lia),λ i h1 h2=>absurd h1 (by lia)⟩
  case ifin=>
   rintro c st'' ⟨rfl,l,r,rfl,hlr,hrk,hm,hlo,hhi⟩;have:l=r:=by lia
   subst this;exact⟨rfl,l,l,rfl,hrk,hlo,hhi⟩
  case istep=>
   rintro x c st'' _ hxk ⟨rfl,l,r,rfl,hlr,hrk,hm,hlo,hhi⟩;dsimp only;by_cases hge:l≥r
   ·have:l=r:=by lia
    subst this;exact aH (Nat.le_refl _) (wpS_pure ⟨rfl,l,l,rfl,hrk,hlo,hhi⟩)
   ·refine aE hge (wpS_bind (wpS_ltL (i:=k) (j:=(l+r)/2) hO e4 (by lia) (by lia) ?_));rw [hx,hy _ (show(l+r)/2<k by lia)];dsimp only;cases hless:κ.blt (kf κ R[k-ok]) (kf κ (Y'[(l+r)/2]'(by lia)))
    case true=>
     refine aH rfl (wpS_pure ⟨rfl,l,(l+r)/2,rfl,by lia,by lia,by lia,hlo,λ i h1 h2=>?_⟩);rcases Nat.lt_or_ge ((l+r)/2) i with z|z
     ·exact cx (ord κ) hless ((List.pairwise_iff_getElem.mp e2) _ i (by lia) (by lia) z)
     ·have:i=(l+r)/2:=by lia
      subst this;exact hless
    case false=>
     refine aE (by decide) (wpS_pure ⟨rfl,(l+r)/2+1,r,rfl,by lia,by lia,by lia,λ i h1 h2=>?_,hhi⟩);rcases Nat.lt_or_ge i ((l+r)/2) with z|z
     ·exact le_trans (ord κ) ((List.pairwise_iff_getElem.mp e2) i _ (by lia) (by lia) z) hless
     ·have:i=(l+r)/2:=by lia
      subst this;exact hless
  case ipost=>
   rintro c st'' ⟨rfl,l,r,rfl,hlk,hlo,hhi⟩;have hd:R.drop (k-ok)=R[k-ok]::R.drop (k+1-ok):=by
    rw [List.drop_eq_getElem_cons hkr];congr 2;lia
   have hA:At κ st'' pe ((P++Y'.take l)++Y'.drop l++[R[k-ok]]++(R.drop (k+1-ok)++S)):=by
    rw [hd] at e4;have e0:(P++Y'.take l)++Y'.drop l++[R[k-ok]]++(R.drop (k+1-ok)++S)=P++(Y'++R[k-ok]::R.drop (k+1-ok))++S:=by
     rw [List.append_assoc P,List.take_append_drop];simp [List.append_assoc]
    rw [e0];exact e4
   have lt:(Y'.take l).length=l:=by rw [List.length_take];lia
   have ld:(Y'.drop l).length=k-l:=by rw [List.length_drop];lia
   refine wpS_bind (rD hA (by rw [List.length_append,lt,ld];show P.length+k=_;lia) (by rw [List.length_append,lt]) λ st3 hA3=>wpS_pure ⟨rfl,Y'.take l++[R[k-ok]]++Y'.drop l,?_,?_,?_,?_⟩)
   ·rw [List.length_append,List.length_append,lt,ld];show l+1+(k-l)=k+1;lia
   ·have m1:∀y∈Y'.take l,LeK κ y R[k-ok]:=λ y hy=>by
     obtain⟨j,hj,rfl⟩:=List.mem_iff_getElem.mp hy;rw [List.getElem_take];exact hlo j (by lia) (by lia)
    have m2:∀y∈Y'.drop l,LeK κ R[k-ok] y:=λ y hy=>by
     obtain⟨j,hj,rfl⟩:=List.mem_iff_getElem.mp hy;rw [List.getElem_drop];exact le_of_lt (ord κ) (hhi _ (by lia) (by lia))
    rw [List.append_assoc,List.pairwise_append];refine⟨e2.sublist (List.take_sublist _ _),?_,λ a ha b hb=>?_⟩
    ·rw [List.singleton_append,List.pairwise_cons];exact⟨m2,e2.sublist (List.drop_sublist _ _)⟩
    ·rcases List.mem_append.mp hb with z|z
     ·have:b=R[k-ok]:=by simpa using z
      subst this;exact m1 a ha
     ·exact le_trans (ord κ) (m1 a ha) (m2 b z)
   ·have e5:R.take (k+1-ok)=R.take (k-ok)++[R[k-ok]]:=by
     rw [show k+1-ok=(k-ok)+1 by lia,cE hkr]
    rw [e5,<-List.append_assoc];refine Stb.trans ?_ (e3.app (Stb.refl [R[k-ok]]));have sw:Stb κ.blt (kf κ) (Y'.take l++([R[k-ok]]++Y'.drop l)) (Y'.take l++(Y'.drop l++[R[k-ok]])):=(Stb.refl _).app (cX (ord κ) λ y hy x hx=>by
     have:y=R[k-ok]:=by simpa using hy
     subst this;obtain⟨j,hj,rfl⟩:=List.mem_iff_getElem.mp hx;rw [List.getElem_drop];exact hhi _ (by lia) (by lia)).symm
    rw [<-List.append_assoc,<-List.append_assoc,List.take_append_drop] at sw;exact sw
   ·simpa [List.append_assoc] using hA3
end
def bM (o:Nat):List (List Keyed)->List (Nat×Nat)
 | []=>[]
 |r::Rs=>(o,r.length)::bM (o+r.length) Rs
theorem bG (o:Nat):∀Rs,(bM o Rs).length=Rs.length
 | []=>rfl
 |r::Rs=>by show(bM _ Rs).length+1=_;rw [bG _ Rs];rfl
theorem bD (o:Nat):∀(As Bs:List (List Keyed)),bM o (As++Bs)=bM o As++bM (o+As.flatten.length) Bs
 | [],Bs=>by simp [bM]
 |r::As,Bs=>by
  show(o,r.length)::bM (o+r.length) (As++Bs)=(o,r.length)::(bM (o+r.length) As++_);rw [bD _ As Bs,List.flatten_cons,List.length_append,Nat.add_assoc]
theorem hJ {α β:Type}(f:α->β):∀(l:List α) (i:Nat),(l.eraseIdx i).map f=(l.map f).eraseIdx i
 | [],_=>rfl
 |a::l,0=>rfl
 |a::l,i+1=>by show f a::(l.eraseIdx i).map f=f a::(l.map f).eraseIdx i;rw [hJ f l i]
abbrev two (e:Nat×Nat×Nat):Nat×Nat:=(e.1,e.2.1)
def Pend (Rs:List (List Keyed))(pe:Array (Nat×Nat×Nat)):Prop:=pe.toList.map two=bM 0 Rs
theorem Pend.size {Rs:List (List Keyed)}{pe:Array (Nat×Nat×Nat)}(h:Pend Rs pe):pe.size=Rs.length:=by
 have:=congrArg List.length h;rw [List.length_map,bG,Array.length_toList] at this;exact this
theorem Pend.push {Rs:List (List Keyed)}{pe:Array (Nat×Nat×Nat)}(h:Pend Rs pe){r:List Keyed}{lo n pw:Nat}(e1:lo=Rs.flatten.length)(e2:n=r.length):Pend (Rs++[r]) (pe.push (lo,n,pw)):=by
 unfold Pend at h ⊢;subst e1 e2;rw [Array.toList_push,List.map_append,h,bD,Nat.zero_add];rfl
theorem Pend.modify {Rs:List (List Keyed)}{pe:Array (Nat×Nat×Nat)}(h:Pend Rs pe)(i:Nat){f:Nat×Nat×Nat->Nat×Nat×Nat}(hf:∀e,two (f e)=two e):Pend Rs (pe.modify i f):=by
 unfold Pend at h ⊢;rw [<-h];apply List.ext_getElem?;intro j;rw [List.getElem?_map,List.getElem?_map];have:(pe.modify i f).toList[j]?=if i=j then(pe.toList[j]?).map f else pe.toList[j]?:=by
  rw [Array.getElem?_toList,Array.getElem?_toList,Array.getElem?_modify]
 rw [this]
 split
 ·cases e:pe.toList[j]? with
  |none=>rfl
  |some v=>show some (two (f v))=some (two v);rw [hf]
 ·rfl
theorem Pend.at {As Bs:List (List Keyed)}{X:List Keyed}{pe:Array (Nat×Nat×Nat)}(h:Pend (As++X::Bs) pe){i:Nat}(hi:i=As.length):∃pw,pe[i]?=some (As.flatten.length,X.length,pw):=by
 subst hi;unfold Pend at h;have e:(pe.toList.map two)[As.length]?=some (As.flatten.length,X.length):=by
  rw [h,bD,List.getElem?_append_right (by rw [bG];exact Nat.le_refl _),bG,Nat.sub_self,Nat.zero_add];rfl
 rw [List.getElem?_map,Array.getElem?_toList] at e;cases e2:pe[As.length]? with
 |none=>rw [e2] at e;cases e
 |some v=>
  rw [e2] at e;have e3:two v=(As.flatten.length,X.length):=Option.some.inj e;obtain⟨v1,v2,v3⟩:=v;have e4:=congrArg Prod.fst e3;have e5:=congrArg Prod.snd e3;dsimp only at e4 e5;subst e4 e5;exact⟨v3,rfl⟩
theorem Pend.merge {As Bs:List (List Keyed)}{X Y Z:List Keyed}{pe:Array (Nat×Nat×Nat)}{i pw:Nat}(h:Pend (As++X::Y::Bs) pe)(hi:i=As.length)(hZ:Z.length=X.length+Y.length):
  Pend (As++Z::Bs) ((pe.setIfInBounds i (As.flatten.length,X.length+Y.length,pw)).eraseIdxIfInBounds (i+1)):=by
 subst hi;have hs:=h.size;unfold Pend at h ⊢;rw [List.length_append,List.length_cons,List.length_cons] at hs;have e1:((pe.setIfInBounds As.length (As.flatten.length,X.length+Y.length,pw)).eraseIdxIfInBounds (As.length+1)).toList=(pe.toList.set As.length (As.flatten.length,X.length+Y.length,pw)).eraseIdx (As.length+1):=by
  unfold Array.eraseIdxIfInBounds;rw [dif_pos (by rw [Array.size_setIfInBounds];lia),Array.toList_eraseIdx,Array.toList_setIfInBounds]
 rw [e1,hJ,List.map_set,h,bD,bD];show((bM 0 As++(0+As.flatten.length,X.length)::(0+As.flatten.length+X.length,Y.length)::bM (0+As.flatten.length+X.length+Y.length) Bs).set As.length (As.flatten.length,X.length+Y.length)).eraseIdx (As.length+1)=bM 0 As++(0+As.flatten.length,Z.length)::bM (0+As.flatten.length+Z.length) Bs;have lA:=bG 0 As;rw [List.set_append,if_neg (by lia),lA,Nat.sub_self,List.set_cons_zero,List.eraseIdx_append_of_length_le (by lia),lA,show As.length+1-As.length=1 by lia,hZ,Nat.zero_add];show _++(_::bM _ Bs)=_;rw [Nat.add_assoc]
section
variable {prog : Program} {w : World} {A : Around} {E : Value -> Shared -> Prop} {s : Shared} {κ : KeyKind}
structure Rn (κ:KeyKind)(a0:List Keyed)(st:SortSt)(L:Nat)(Rs:List (List Keyed))(tail:List Keyed):Prop where
 at':∃pe,At κ st pe (Rs.flatten++tail)/\Pend Rs pe
 so:∀r∈Rs,r.Pairwise (LeK κ)/\0<r.length
 len:Rs.flatten.length=L
 st':Stb κ.blt (kf κ) (Rs.flatten++tail) a0
theorem gX (hO:κ.OneLt){a0:List Keyed}{st:SortSt}{L i:Nat}{As Bs:List (List Keyed)}{X Y tail:List Keyed}{Q:Bool->SortSt->Prop}(h:Rn κ a0 st L (As++X::Y::Bs) tail)(hi:i=As.length)
  (hq:∀st' Z,Rn κ a0 st' L (As++Z::Bs) tail->Q true st'):wpS (model prog w) A E s (mergeAt' i) Q st:=by
 obtain⟨⟨pe,hA,hP⟩,so,hlen,hst⟩:=h;obtain⟨sX,nX⟩:=so X (by simp);obtain⟨sY,nY⟩:=so Y (by simp);have ef:(As++X::Y::Bs).flatten++tail=As.flatten++X++Y++(Bs.flatten++tail):=by simp [List.append_assoc]
 obtain⟨pw,p1⟩:=hP.at hi;obtain⟨pw2,p2⟩:=Pend.at (As:=As++[X]) (X:=Y) (Bs:=Bs) (pe:=pe) (i:=i+1) (by simpa using hP) (by simp [hi]);refine kl hO (P:=As.flatten) (X:=X) (Y:=Y) (S:=Bs.flatten++tail) (pw:=pw) (pw2:=pw2) hA.k hA.f (λ p hp=>hA.has p (by rw [hA.a] at hp;exact hp)) (by rw [hA.a,ef]) sX sY nX nY (by rw [hA.p];exact p1) (by rw [hA.p,p2];simp) λ st' Z b1 b2 b3 b4 b5 b6=>?_
 have lZ:Z.length=X.length+Y.length:=by rw [(stb_perm (ord κ) b6).length_eq,List.length_append]
 have ez:(As++Z::Bs).flatten++tail=As.flatten++Z++(Bs.flatten++tail):=by simp [List.append_assoc]
 have st1:Stb κ.blt (kf κ) ((As++Z::Bs).flatten++tail) ((As++X::Y::Bs).flatten++tail):=by
  rw [ez,ef,List.append_assoc As.flatten X];exact((Stb.refl _).app b6).app (Stb.refl _)
 refine hq st' Z ⟨⟨_,⟨b1,b2,b3,by rw [b4,ez],λ p hp=>hA.has p (Stb.mem (ord κ) st1 hp)⟩,?_⟩,λ r hr=>?_,?_,st1.trans hst⟩
 ·rw [hA.p];exact hP.merge hi lZ
 ·rcases List.mem_append.mp hr with z|z
  ·exact so r (by simp [z])
  ·rcases List.mem_cons.mp z with rfl|z
   ·exact⟨b5,by lia⟩
   ·exact so r (by simp [z])
 ·rw [<-hlen];simp [lZ,Nat.add_assoc]
end
theorem lQ {α:Type}:∀{Rs:List α} {j:Nat},j+1<Rs.length->∃As X Y Bs,Rs=As++X::Y::Bs/\j=As.length
 | [],j,h=>by simp at h
 | [x],j,h=>by simp at h
 |x::y::Rs,0,_=>⟨[],x,y,Rs,rfl,rfl⟩
 |x::Rs,j+1,h=>by
  obtain⟨As,X,Y,Bs,e,hj⟩:=lQ (Rs:=Rs) (j:=j) (by simp at h;lia);exact⟨x::As,X,Y,Bs,by rw [e];rfl,by simp [hj]⟩
theorem mV:∀{Rs:List (List Keyed)},(∀r∈Rs,0<r.length)->Rs.length≤Rs.flatten.length
 | [],_=>Nat.le_refl _
 |r::Rs,h=>by
  have h1:=h r (by simp);have h2:=mV (Rs:=Rs) λ q hq=>h q (by simp [hq])
  rw [List.flatten_cons,List.length_append,List.length_cons];lia
section
variable {prog : Program} {w : World} {A : Around} {E : Value -> Shared -> Prop} {s : Shared} {κ : KeyKind}
theorem wpS_sortAll (hO:κ.OneLt){st:SortSt}{Q:Unit->SortSt->Prop}(hk:kindOf st=oneType')(hf:failedOf st=none)(hp:pendingOf st=#[])(hall:∀p∈(arrOf st).toList,Has κ p)
  (h:∀st',failedOf st'=none->(arrOf st').toList.Pairwise (LeK κ)->Stb κ.blt (kf κ) (arrOf st').toList (arrOf st).toList->Q () st'):wpS (model prog w) A E s sortRuns' Q st:=by
 obtain⟨a0,ha0⟩:∃a0,(arrOf st).toList=a0:=⟨_,rfl⟩;have hsz:(arrOf st).size=a0.length:=by rw [<-ha0,Array.length_toList]
 refine wpS_bind (wpS_get ?_)
 extract_lets size minrun lo0
 have hsize:size=a0.length:=hsz
 clear_value size
 have tot:∀{st' L Rs tail},Rn κ a0 st' L Rs tail->L+tail.length=size:=λ {st' L Rs tail} hR=>by
  have:=(stb_perm (ord κ) hR.st').length_eq;rw [List.length_append,hR.len] at this;lia
 refine wpS_bind (wpS_mono (wpS_forRange (I:=λ x c st'=>∃Rs tail L,c=(none,L)/\Rn κ a0 st' L Rs tail/\x≤L) (Q:=λ c st'=>∃Rs L,c=(none,L)/\Rn κ a0 st' L Rs []) ?_ ?_ ?_) ?_)
 rotate_left
 ·rintro c st' ⟨Rs,tail,L,rfl,hR,hx⟩;have t:=tot hR;have:tail=[]:=List.length_eq_zero_iff.mp (by lia);subst this;exact⟨Rs,L,rfl,hR⟩
 ·exact⟨[],a0,0,rfl,⟨⟨#[],⟨hk,hf,hp,ha0,λ p hp'=>hall p (by rw [ha0];exact hp')⟩,rfl⟩,(λ _ h=>nomatch h),rfl,Stb.refl _⟩,Nat.le_refl _⟩
 ·rintro c st2 ⟨Rs,L,rfl,hR⟩;have hlen:=tot hR;have hge:=mV (Rs:=Rs) λ r hr=>(hR.so r hr).2
  rw [hR.len] at hge;refine wpS_bind (wpS_mono (wpS_forRange (I:=λ x c st'=>c=(none,())/\∃Rs',Rn κ a0 st' L Rs' []/\Rs'.length≤max 1 (size-x)) (Q:=λ c st'=>c=(none,())/\∃Rs',Rn κ a0 st' L Rs' []/\Rs'.length≤1) ?_ ?_ ⟨rfl,Rs,hR,by simp at hlen;lia⟩) ?_)
  ·rintro x c st3 _ hx ⟨rfl,Rs',hR3,hl3⟩;refine wpS_bind (wpS_get ?_);obtain⟨pe,hA,hP⟩:=hR3.at';have hs4:(pendingOf st3).size=Rs'.length:=by rw [hA.p];exact hP.size
   extract_lets p i before i2
   by_cases h1:p.size≤1
   ·refine aH h1 (wpS_pure ⟨rfl,Rs',hR3,?_⟩);have h1':(pendingOf st3).size≤1:=h1;lia
   ·refine aE h1 ?_;have h1':¬(pendingOf st3).size≤1:=h1;have hi2:i2+1<Rs'.length:=by
     have e1:i=(pendingOf st3).size-2:=rfl;have e2:i2=i-1\/i2=i:=by
      show(if _ then _ else _)=i-1\/(if _ then _ else _)=i
      split
      ·exact .inl rfl
      ·exact .inr rfl
     clear_value i2 i
     lia
    clear_value i2
    obtain⟨As,X,Y,Bs,rfl,hj⟩:=lQ hi2;refine wpS_bind (gX hO hR3 hj λ st4 Z hR4=>?_);refine aE (by decide) (wpS_pure ⟨rfl,_,hR4,?_⟩);simp only [List.length_append,List.length_cons] at hl3 hs4 ⊢;lia
  ·rintro c st3 ⟨rfl,Rs',hR3,hl3⟩;exact⟨rfl,Rs',hR3,by lia⟩
  ·rintro c st3 ⟨rfl,Rs',hR3,hl3⟩;obtain⟨pe,hA,hP⟩:=hR3.at';refine wpS_pure (h st3 hA.f ?_ ?_)
   ·rw [hA.a,List.append_nil]
    match Rs',hl3,hR3 with
    | [],_,_=>simp
    | [r],_,hR3=>simpa using(hR3.so r (by simp)).1
   ·rw [ha0,hA.a];exact hR3.st'
 rintro x c st1 _ hx ⟨Rs,tail,L,ec,hR,hxL⟩;subst ec;have t:=tot hR
 extract_lets lo jp force nf
 have elo:lo=L:=rfl
 clear_value lo
 subst elo;by_cases hge:lo≥size
 ·have:tail=[]:=List.length_eq_zero_iff.mp (by lia);subst this;exact aH hge (wpS_pure ⟨Rs,lo,rfl,hR⟩)
 refine aE hge ?_;obtain⟨pe,hA,hP⟩:=hR.at';refine wpS_bind (jb hO (P:=Rs.flatten) (X:=tail) (S:=[]) (by simpa using hA) hR.len.symm (show size-lo=tail.length by lia) (by lia) λ m Y st2 m1 m2 lY sY tY hA2=>?_);have m2':m≤tail.length:=by lia
 dsimp-zeta only
 extract_lets n0
 have hjp:∀(n:Nat) (Y tail':List Keyed) (st3:SortSt),Y.length=n->0<n->Y.Pairwise (LeK κ)->Stb κ.blt (kf κ) (Y++tail') tail->At κ st3 pe (Rs.flatten++(Y++tail'))->
   wpS (model prog w) A E s (jp () n) (λ r st'=>match r with| .done c'=>∃Rs L,c'=(none,L)/\Rn κ a0 st' L Rs []| .yield c'=>∃Rs tail L,c'=(none,L)/\Rn κ a0 st' L Rs tail/\x+1≤L) st3:=by
  intro n Y tail' st3 lY nY sY tY hA3;have hR3:Rn κ a0 st3 lo Rs (Y++tail'):=⟨⟨pe,hA3,hP⟩,hR.so,hR.len,((Stb.refl _).app tY).trans hR.st'⟩;refine wpS_bind (wpS_get ?_)
  extract_lets v1 jp2
  have hjp2:∀(st4:SortSt) (Rs':List (List Keyed)),Rn κ a0 st4 lo Rs' (Y++tail')->wpS (model prog w) A E s (jp2 ()) (λ r st'=>match r with| .done c'=>∃Rs L,c'=(none,L)/\Rn κ a0 st' L Rs []| .yield c'=>∃Rs tail L,c'=(none,L)/\Rn κ a0 st' L Rs tail/\x+1≤L) st4:=by
   intro st4 Rs' hR4;obtain⟨pe4,hA4,hP4⟩:=hR4.at';have ef:(Rs'++[Y]).flatten++tail'=Rs'.flatten++(Y++tail'):=by simp [List.append_assoc]
   refine wpS_bind (wpS_modify (wpS_pure ⟨Rs'++[Y],tail',lo+n,rfl,⟨⟨(pendingOf st4).push (lo,n,0),⟨hA4.k,hA4.f,rfl,by rw [ef];exact hA4.a,λ p hp=>hA4.has p (by rw [ef] at hp;exact hp)⟩,?_⟩,λ r hr=>?_,?_,by rw [ef];exact hR4.st'⟩,by lia⟩))
   ·rw [hA4.p];exact hP4.push hR4.len.symm lY.symm
   ·rcases List.mem_append.mp hr with z|z
    ·exact hR4.so r z
    ·have:r=Y:=by simpa using z
     subst this;exact⟨sY,by lia⟩
   ·have:=hR4.len;simp only [List.flatten_append,List.length_append,List.flatten_cons,List.flatten_nil,List.append_nil];lia
  clear_value jp2
  cases hb:(pendingOf st3).back? with
  |none=>
   have:wpS (model prog w) A E s (jp2 ()) (λ r st'=>match r with| .done c'=>∃Rs L,c'=(none,L)/\Rn κ a0 st' L Rs []| .yield c'=>∃Rs tail L,c'=(none,L)/\Rn κ a0 st' L Rs tail/\x+1≤L) st3:=hjp2 st3 Rs hR3;simpa only [hb] using this
  |some e=>
   obtain⟨s1,n1,p1⟩:=e;simp only [hb];refine wpS_bind (wpS_mono (wpS_forRange (I:=λ _ c st'=>c=(none,())/\∃Rs',Rn κ a0 st' lo Rs' (Y++tail')) (Q:=λ c st'=>c=(none,())/\∃Rs',Rn κ a0 st' lo Rs' (Y++tail')) ?_ (λ _ _ q=>q) ⟨rfl,Rs,hR3⟩) ?_)
   ·rintro x2 c st4 _ _ ⟨rfl,Rs',hR4⟩;refine wpS_bind (wpS_get ?_);obtain⟨pe4,hA4,hP4⟩:=hR4.at';have hs4:(pendingOf st4).size=Rs'.length:=by rw [hA4.p];exact hP4.size
    by_cases h2:(pendingOf st4).size>1
    ·obtain⟨As,X,Y1,Bs,rfl,hj⟩:=lQ (Rs:=Rs') (j:=(pendingOf st4).size-2) (by lia);obtain⟨pw,p1⟩:=hP4.at (i:=(pendingOf st4).size-2) hj;have e1:(if(pendingOf st4).size>1 then(pendingOf st4)[(pendingOf st4).size-2]? else none)=some (As.flatten.length,X.length,pw):=by
      rw [if_pos h2,<-p1,hA4.p]
     rw [e1];dsimp only;refine cq (wpS_pure ⟨rfl,_,hR4⟩) (wpS_bind (gX hO hR4 hj λ st5 Z hR5=>?_));exact aE (by decide) (wpS_pure ⟨rfl,_,hR5⟩)
    ·have e1:(if(pendingOf st4).size>1 then(pendingOf st4)[(pendingOf st4).size-2]? else none)=none:=if_neg h2;rw [e1];exact wpS_pure ⟨rfl,Rs',hR4⟩
   ·rintro c st4 ⟨rfl,Rs',hR4⟩;refine wpS_bind (wpS_modify (hjp2 _ Rs' ?_));obtain⟨pe4,hA4,hP4⟩:=hR4.at';refine⟨⟨_,⟨hA4.k,hA4.f,rfl,hA4.a,hA4.has⟩,?_⟩,hR4.so,hR4.len,hR4.st'⟩;show Pend Rs' ((pendingOf st4).modify ((pendingOf st4).size-1) _);rw [hA4.p];exact hP4.modify _ λ e=>rfl
 clear_value jp
 by_cases hlt:m<minrun
 ·refine aH hlt (wpS_bind (wpS_lift (wpAny_rule ⟨rfl,?_⟩)));refine wpS_bind (gG hO (P:=Rs.flatten) (Y:=Y) (R:=tail.drop m) (S:=[]) hA2 hR.len.symm sY lY m1 (show m≤min (size-lo) minrun by lia) (show min (size-lo) minrun≤m+(tail.drop m).length by rw [List.length_drop];lia) λ Y' st3 lY' sY' tY' hA3=>?_);refine aE (by decide) (wpS_mono (hjp _ Y' ((tail.drop m).drop (min (size-lo) minrun-m)) st3 lY' (by lia) sY' ?_ (by simpa using hA3)) λ r st' q=>by cases r<;>exact q);have e1:Stb κ.blt (kf κ) (Y'++(tail.drop m).drop (min (size-lo) minrun-m)) ((tail.take m++(tail.drop m).take (min (size-lo) minrun-m))++(tail.drop m).drop (min (size-lo) minrun-m)):=(tY'.trans (tY.app (Stb.refl _))).app (Stb.refl _);rw [List.append_assoc,List.take_append_drop,List.take_append_drop] at e1;exact e1
 ·refine aE hlt (wpS_mono (hjp m Y (tail.drop m) st2 lY (by lia) sY ?_ (by simpa using hA2)) λ r st' q=>by cases r<;>exact q);have e1:=tY.app (Stb.refl (blt:=κ.blt) (kf:=kf κ) (tail.drop m));rw [List.take_append_drop] at e1;exact e1
end
end SG
set_option maxHeartbeats 2000000
namespace SG
open PySem PyProof.Rows
abbrev ltI:Int->Int->Bool:=λ a b=>decide (a<b)
abbrev ky {β:Type}(p:Int×β):Int:=p.1
theorem ordI:SM.Ord ltI:=⟨λ a=>decide_eq_false (Int.lt_irrefl a),λ a b c h1 h2=>decide_eq_true (Int.lt_trans (of_decide_eq_true h1) (of_decide_eq_true h2)),λ a b c h=>by
  have:=of_decide_eq_true h;by_cases c1:a<b
  ·exact .inl (decide_eq_true c1)
  ·exact .inr (decide_eq_true (by lia)),λ a b h1 h2=>by
  have:=of_decide_eq_false h1;have:=of_decide_eq_false h2;lia⟩
def kInt:KeyKind where
 α:=Int
 blt:=λ a b=>decide (a<b)
 irrefl:=λ a=>decide_eq_false (Int.lt_irrefl a)
 trans:=λ a b c h1 h2=>decide_eq_true (Int.lt_trans (of_decide_eq_true h1) (of_decide_eq_true h2))
 negTrans:=λ a b c h=>by
  have:=of_decide_eq_true h;by_cases c1:a<b
  ·exact .inl (decide_eq_true c1)
  ·exact .inr (decide_eq_true (by lia))
 total:=λ a b h1 h2=>by
  have:=of_decide_eq_false h1;have:=of_decide_eq_false h2;lia
 keyOf:=λ v=>match v with
  | .int n _=>some n
  |_=>none
 dflt:=0
theorem kInt_one:kInt.OneLt:=by
 intro prog w A E s x y a b Q hx hy hq;cases x with
 |int n t=>
  cases y with
  |int m u=>
   cases hx;cases hy;exact oneLt_int hq
  |_=>cases hy
 |_=>cases hx
theorem pw_small {α:Type}{R:α->α->Prop}:∀{l:List α},l.length<2->l.Pairwise R
 | [],_=>.nil
 | [x],_=>by simp
 |x::y::l,h=>by simp at h;lia
end SG
namespace L2
open PySem PyProof.Rows QQ
theorem jS:∀{l1:List (Value×Value)} {x:Value×Value} {l2:List (Value×Value)} {m:List (Int×V)},PR (l1++x::l2) m->∃m1 y m2,m=m1++y::m2/\PR l1 m1/\(∃t,x.1=.int y.1 t)/\RelV y.2 x.2/\PR l2 m2
 | [],x,l2,m,h=>by
  cases h with
  |cons a b c=>exact⟨[],_,_,rfl,.nil,a,b,c⟩
 |z::l1,x,l2,m,h=>by
  cases h with
  |cons a b c=>
   obtain⟨m1,y,m2,rfl,h1,h2,h3,h4⟩:=jS c;exact⟨_::m1,y,m2,rfl,.cons a b h1,h2,h3,h4⟩
theorem r6:∀{l1 l2:List (Value×Value)} {m1 m2:List (Int×V)},PR l1 m1->PR l2 m2->PR (l1++l2) (m1++m2)
 |_,_,_,_,.nil,h=>h
 |_,_,_,_,.cons a b c,h=>.cons a b (r6 c h)
theorem sG {l:List (Value×Value)}{m:List (Int×V)}(h:PR l m){k:Int}(hn:∀z∈l,¬SM.eqv SG.kInt.blt (SG.kf SG.kInt) k z=true):∀z∈m,¬SM.eqv SG.ltI SG.ky k z=true:=by
 induction h with
 |nil=>intro z hz;cases hz
 |cons a b c ih=>
  intro z hz;rcases List.mem_cons.mp hz with rfl|hz
  ·obtain⟨t,rfl⟩:=a;exact hn _ (List.mem_cons_self ..)
  ·exact ih (λ u hu=>hn u (List.mem_cons_of_mem _ hu)) z hz
theorem qg:∀{l' l:List (Value×Value)} {m:List (Int×V)},SM.Stb SG.kInt.blt (SG.kf SG.kInt) l' l->PR l m->∃m',SM.Stb SG.ltI SG.ky m' m/\PR l' m'
 | [],l,m,hs,h=>by
  have e:=(SM.stb_perm (SG.ord SG.kInt) hs).length_eq;cases h with
  |nil=>exact⟨[],SM.Stb.refl _,.nil⟩
  |cons a b c=>cases e
 |x::l',l,m,hs,h=>by
  have O:=SG.ord SG.kInt;have hx:=SM.Stb.mem O hs (List.mem_cons_self (a:=x) (l:=l'));obtain⟨l1,y,l2,rfl,hy,h1⟩:=SM.first_split ⟨x,hx,SM.eqv_self (blt:=SG.kInt.blt) (kf:=SG.kf SG.kInt) O x⟩;have e:=hs (SG.kf SG.kInt x);have n1:l1.filter (SM.eqv SG.kInt.blt (SG.kf SG.kInt) (SG.kf SG.kInt x))=[]:=List.filter_eq_nil_iff.mpr h1;rw [List.filter_cons_of_pos (SM.eqv_self O x),List.filter_append,n1,List.nil_append,List.filter_cons_of_pos hy] at e;obtain⟨rfl,e2⟩:=List.cons.inj e;have ht:SM.Stb SG.kInt.blt (SG.kf SG.kInt) l' (l1++l2):=λ k=>by
   by_cases hk:SM.eqv SG.kInt.blt (SG.kf SG.kInt) k x=true
   ·have z:=SM.eqv_iff.mp hk;have:SG.kf SG.kInt x=k:=O.tot _ _ z.1 z.2;subst this;rw [List.filter_append,n1,List.nil_append];exact e2
   ·have e3:=hs k;rw [List.filter_cons_of_neg hk,List.filter_append,List.filter_cons_of_neg hk] at e3;rw [List.filter_append];exact e3
  obtain⟨m1,y,m2,rfl,p1,⟨t,hy1⟩,p2,p3⟩:=jS h;obtain⟨m',q1,q2⟩:=qg ht (r6 p1 p3);have hkx:SG.kf SG.kInt x=y.1:=by
   obtain⟨x1,x2⟩:=x;have e9:x1=.int y.1 t:=hy1;subst e9;rfl
  have km:∀z∈m1,¬SM.eqv SG.ltI SG.ky y.1 z=true:=by
   rw [hkx] at h1;exact sG p1 h1
  refine⟨y::m',λ k=>?_,?_⟩
  ·by_cases hk:SM.eqv SG.ltI SG.ky k y=true
   ·have z:=SM.eqv_iff.mp hk;have:y.1=k:=SG.ordI.tot _ _ z.1 z.2;subst this;have n2:m1.filter (SM.eqv SG.ltI SG.ky y.1)=[]:=List.filter_eq_nil_iff.mpr km;have q:=q1 y.1;rw [List.filter_append,n2,List.nil_append] at q;rw [List.filter_cons_of_pos hk,List.filter_append,n2,List.nil_append,List.filter_cons_of_pos hk,q]
   ·have q:=q1 k;rw [List.filter_append] at q;rw [List.filter_cons_of_neg hk,List.filter_append,List.filter_cons_of_neg hk,q]
  ·obtain⟨x1,x2⟩:=x;obtain⟨y1,y2⟩:=y;exact .cons ⟨t,hy1⟩ p2 q2
theorem oK {X:Cx}{pins:List (Addr×Obj)}{σ:St}{H:Hp}{s:Shared}{A:Around}{E:Value->Shared->Prop}{a f:Addr}{its:List Value}{ks:List Int}{n:Nat}{P:Fin->Shared->Prop}
  (I:Inv X pins σ H s) (ho:s.heap.get? a=some (seqObj "list" its.toArray n)) (fa:FpOk X pins H a) (hl:its.length=ks.length) (h64:its.length≤1000)
  (hcall:∀(pins':List (Addr×Obj)) (s':Shared) (E':Value->Shared->Prop) (i:Nat) (x:Value) (k:Int),its[i]?=some x->ks[i]?=some k->Inv X pins' σ H s'->wpAny (model X.prog X.w) A (call (.ref f) [x]) (λ r s''=>(∃t,r=.int k t)/\Inv X pins' σ H s'') E' s')
  (h:∀(s':Shared) (out:Array Keyed) (kv:List Value),Inv X pins σ H s'->(∃e,s'.heap.get? a=some (seqObj "list" (out.map (·.2)) e))->IntsAre kv ks->out.toList.Pairwise (SG.LeK SG.kInt)->SM.Stb SG.kInt.blt (SG.kf SG.kInt) out.toList (kv.zip its)->P (.done (.ret .none)) s'):
  wpAny (model X.prog X.w) A (Builtin.«list.sort» ⟨[.ref a],[(Str.ofString "key",.ref f)]⟩) P E s:=by
 rw [g7];have ha:a<s.heap.objs.size:=Heap.lt_size ho;refine wpAny_bind (listItems_at ho rfl ?_);refine wpAny_bind (listUpdate_at ho rfl ?_);obtain⟨e1,ho1⟩:∃e1,(s.heap.update a (Obj.mapSeq λ _=>#[])).get? a=some (seqObj "list" #[] e1):=⟨_,get?_update_seq ho (λ _=>#[])⟩;have I1:Inv X pins σ H {s with heap:=s.heap.update a (Obj.mapSeq λ _=>#[])}:=I.turn fa;have hs1:(s.heap.update a (Obj.mapSeq λ _=>#[])).objs.size=s.heap.objs.size:=Heap.size_update ..;generalize s.heap.update a (Obj.mapSeq λ _=>#[])=h1 at*;refine wpAny_bind (seqEpoch_at ho1 rfl ?_);refine wpAny_bind (wpAny_newTuple ?_);refine wpAny_bind (wpAny_newList ?_);refine wpAny_holding ?_;have ho3:((h1.push (seqObj "tuple" its.toArray 0)).push (seqObj "list" #[] 0)).get? a=some (seqObj "list" #[] e1):=Heap.get?_push_of_some _ (Heap.get?_push_of_some _ ho1);have I3:Inv X pins σ H {s with heap:=(h1.push (seqObj "tuple" its.toArray 0)).push (seqObj "list" #[] 0)}:=I1.kept (t':=s.toks) λ b o e=>Heap.get?_push_of_some _ (Heap.get?_push_of_some _ e)
 have hc3:((h1.push (seqObj "tuple" its.toArray 0)).push (seqObj "list" #[] 0)).get? (h1.push (seqObj "tuple" its.toArray 0)).objs.size=some (seqObj "list" ([]:List Value).toArray 0):=Heap.get?_push_size _ rfl;have hcs:s.heap.objs.size≤(h1.push (seqObj "tuple" its.toArray 0)).objs.size:=by rw [size_push',hs1];lia
 have fc:FpOk X pins H (h1.push (seqObj "tuple" its.toArray 0)).objs.size:=I.fpOk hcs (I.hok.fresh hcs);have nac:a≠(h1.push (seqObj "tuple" its.toArray 0)).objs.size:=Nat.ne_of_lt (Nat.lt_of_lt_of_le ha hcs);show wpAny (model X.prog X.w) A _ P E {s with heap:=(h1.push (seqObj "tuple" its.toArray 0)).push (seqObj "list" #[] 0)};generalize (h1.push (seqObj "tuple" its.toArray 0)).objs.size=c at*;generalize (h1.push (seqObj "tuple" its.toArray 0)).push (seqObj "list" #[] 0)=h3 at*;dsimp only;refine wpAny_bind (wpAny_rule ?_);refine wpAny_bind (wpAny_forIn_array' _ (λ rest _ s'=>∃(i:Nat) (kv:List Value),rest=its.drop i/\i≤its.length/\IntsAre kv (ks.take i)/\Inv X pins σ H s'/\s'.heap.get? a=some (seqObj "list" #[] e1)/\∃e2,s'.heap.get? c=some (seqObj "list" kv.toArray e2)) _ ?_ ?_ _ _ ⟨0,[],rfl,Nat.zero_le _,.nil,I3,ho3,0,hc3⟩)
 ·rintro x rest _ s' ⟨i,kv,hr,hi,hkv,I',hoa,e2,hoc⟩;have hx:its[i]?=some x:=by
   have:(its.drop i)[0]?=some x:=by rw [<-hr];rfl
   rw [List.getElem?_drop] at this;simpa using this
  have hil:i<its.length:=(List.getElem?_eq_some_iff.mp hx).1;have hk:ks[i]?=some ks[i]:=List.getElem?_eq_getElem (by lia);have hrest:rest=its.drop (i+1):=by
   rw [List.drop_eq_getElem_cons hil] at hr;exact(List.cons.inj hr).2
  have Ip:=I'.pinned (fp:=[a,c]) (λ b hb=>by
   rcases List.mem_cons.mp hb with rfl|hb
   ·exact fa
   ·rw [List.mem_singleton.mp hb];exact fc) (λ b hb=>by
   rcases List.mem_cons.mp hb with rfl|hb
   ·exact⟨_,hoa,gS⟩
   ·rw [List.mem_singleton.mp hb];exact⟨_,hoc,gS⟩)
  refine wpAny_bind (wpAny_attempt (wpAny_mono (hcall _ s' _ i x ks[i] hx hk Ip) (λ r s'' ⟨⟨t,hrv⟩,I''⟩=>?_) λ _ _ e=>e));subst hrv;have hoa':s''.heap.get? a=some (seqObj "list" #[] e1):=(I''.pin _ (List.mem_append_right _ (List.mem_append_right _ (aX (by simp) hoa)))).1;have hoc':s''.heap.get? c=some (seqObj "list" kv.toArray e2):=(I''.pin _ (List.mem_append_right _ (List.mem_append_right _ (aX (by simp) hoc)))).1;have I2:=I''.unpinned;have hlk:kv.length=i:=by rw [hkv.length,List.length_take];lia
  dsimp only;refine wpAny_bind (listUpdate_at hoc' rfl (wpAny_pure ?_) (hsz:=by rw [List.size_toArray,hlk,sizeLine_eq];lia) (hsz2:=by rw [Array.size_push,List.size_toArray,hlk,sizeLine_eq];lia));refine⟨i+1,kv++[.int ks[i] t],hrest,hil,?_,I2.turn fc,?_,?_⟩
  ·rw [List.take_add_one,hk];exact iN hkv
  ·show(s''.heap.update c _).get? a=_;rw [Heap.get?_update_ne _ _ _ _ nac];exact hoa'
  ·have e:=get?_update_seq hoc' (λ x=>x.push (Value.int ks[i] t));rw [List.push_toArray] at e;exact⟨_,e⟩
 ·rintro _ s' ⟨i,kv,hr,hi,hkv,I',hoa,e2,hoc⟩;have hie:i=its.length:=by
   have:=congrArg List.length hr;rw [List.length_drop] at this;simp at this;lia
  rw [hie,hl,List.take_length] at hkv;have hlk:kv.length=its.length:=by rw [hkv.length,hl]
  have hz:(kv.toArray.zip its.toArray).size=its.length:=by rw [Array.size_zip];simp;lia
  have I4:Inv X pins σ H {s' with heap:=s'.heap.update c (Obj.mapSeq λ _=>#[])}:=I'.turn fc;have hoa4:(s'.heap.update c (Obj.mapSeq λ _=>#[])).get? a=some (seqObj "list" #[] e1):=by rw [Heap.get?_update_ne _ _ _ _ nac];exact hoa
  have fin:∀out:Array Keyed,out.toList.Pairwise (SG.LeK SG.kInt)->SM.Stb SG.kInt.blt (SG.kf SG.kInt) out.toList (kv.zip its)->P (.done (.ret .none)) {s' with heap:=(s'.heap.update c (Obj.mapSeq λ _=>#[])).update a (Obj.mapSeq λ _=>out.map (·.2))}:=by
   intro out hp hs;have e5:=get?_update_seq hoa4 (λ _=>out.map (·.2));generalize s'.heap.update c (Obj.mapSeq λ _=>#[])=h4 at*;have I5:Inv X pins σ H {s' with heap:=h4.update a (Obj.mapSeq λ _=>out.map (·.2))}:=Inv.turn (s:={s' with heap:=h4}) I4 fa;generalize h4.update a (Obj.mapSeq λ _=>out.map (·.2))=h5 at*;exact h _ out kv I5 ⟨_,e5⟩ hkv hp hs
  refine wpAny_bind (listItems_at hoc rfl ?_);by_cases h2:its.toArray.size<2
  ·rw [if_pos h2,if_pos h2];refine wpAny_bind (wpAny_pure ?_);rw [StateT.run_pure];refine wpAny_bind (wpAny_pure ?_);dsimp only;refine wpAny_bind (listUpdate_at hoc rfl ?_ (hsz:=by rw [List.size_toArray,hlk,sizeLine_eq];lia));refine wpAny_bind (wpAny_letGo ?_);refine wpAny_bind (seqEpoch_at hoa4 rfl ?_);refine wpAny_bind (listUpdate_at hoa4 rfl ?_ (hsz2:=by rw [Array.size_map];show(kv.toArray.zip its.toArray).size≤_;rw [hz,sizeLine_eq];lia));simp only [bne_self_eq_false,Bool.false_eq_true,if_false];refine wpAny_pure (fin _ (SG.pw_small ?_) ?_)
   ·rw [Array.length_toList];show(kv.toArray.zip its.toArray).size<2;rw [List.size_toArray] at h2;lia
   ·have:(kv.toArray.zip its.toArray).toList=kv.zip its:=by simp
    show SM.Stb _ _ (kv.toArray.zip its.toArray).toList _;rw [this];exact SM.Stb.refl _
  ·rw [if_neg h2,if_neg h2];rw [List.size_toArray] at h2;have hkk:keyKind' kv.toArray=pure oneType':=by
    match kv,hkv,hlk with
    | [],_,hlk=>simp at hlk;lia
    | [_],_,hlk=>simp at hlk;lia
    |v₁::v₂::vs,hkv,_=>exact keyKind_ints hkv
   rw [hkk];refine wpAny_bind (wpAny_pure ?_);have hzl:(kv.toArray.zip its.toArray).toList=kv.zip its:=by simp
   have hik:∀p∈(arrOf (SortSt.mk' oneType' (kv.toArray.zip its.toArray) #[] 7 none)).toList,SG.Has SG.kInt p:=by
    intro p hp;have hp':p∈kv.zip its:=by rw [<-hzl];exact hp
    obtain⟨n,t,e⟩:=hkv.all _ (List.of_mem_zip hp').1;exact⟨n,by rw [e];rfl⟩
   refine wpAny_bind (wpAny_mono (SG.wpS_sortAll SG.kInt_one (st:=SortSt.mk' oneType' (kv.toArray.zip its.toArray) #[] 7 none)
    (Q:=λ _ st'=>(arrOf st').toList.Pairwise (SG.LeK SG.kInt)/\failedOf st'=none/\SM.Stb SG.kInt.blt (SG.kf SG.kInt) (arrOf st').toList (kv.zip its))
    rfl rfl rfl hik λ st' a1 a2 a3=>⟨a2,a1,by rw [<-hzl];exact a3⟩) ?_ λ _ _ e=>e)
   rintro⟨⟨⟩,st'⟩ s'' ⟨rfl,hp,hf,hs⟩;have hsz9:(arrOf st').size=its.length:=by rw [<-Array.length_toList,(SM.stb_perm (SG.ord SG.kInt) hs).length_eq,List.length_zip,hlk,Nat.min_self]
   dsimp only;refine wpAny_bind (listUpdate_at hoc rfl ?_ (hsz:=by rw [List.size_toArray,hlk,sizeLine_eq];lia));refine wpAny_bind (wpAny_letGo ?_);refine wpAny_bind (seqEpoch_at hoa4 rfl ?_);refine wpAny_bind (listUpdate_at hoa4 rfl ?_ (hsz2:=by rw [Array.size_map,hsz9,sizeLine_eq];lia));rw [hf];simp only [bne_self_eq_false,Bool.false_eq_true,if_false];exact wpAny_pure (fin _ hp hs)
theorem jQ {X:Cx}{pins:List (Addr×Obj)}{σ:St}{H:Hp}{s:Shared}{E:Value->Shared->Prop}{p f:Addr}{its:List Value}{ks:List Int}{Q:Value->Shared->Prop}
  (I:Inv X pins σ H s) (hp:s.heap.IsList p its.toArray) (hl:its.length=ks.length) (h64:its.length≤1000)
  (hcall:∀(pins':List (Addr×Obj)) (s':Shared) (E':Value->Shared->Prop) (i:Nat) (x:Value) (k:Int),its[i]?=some x->ks[i]?=some k->Inv X pins' σ H s'->wpAny (model X.prog X.w) X.A.in1.in1 (call (.ref f) [x]) (λ r s''=>(∃t,r=.int k t)/\Inv X pins' σ H s'') E' s')
  (h:∀(s':Shared) (l:Addr) (out:Array Keyed) (kv:List Value),Inv X pins σ H s'->FpOk X pins H l->(∃e,s'.heap.get? l=some (seqObj "list" (out.map (·.2)) e))->IntsAre kv ks->out.toList.Pairwise (SG.LeK SG.kInt)->SM.Stb SG.kInt.blt (SG.kf SG.kInt) out.toList (kv.zip its)->Q (.ref l) s'):
  wpAny (model X.prog X.w) X.A (call (.builtin "sorted") [.ref p] [(Str.ofString "key",.ref f)]) Q E s:=by
 refine call_function_entry_kw kind_sorted plain_sorted entry_sorted (args_sorted_key _ _) ?_;unfold Builtin.«sorted»;refine wpAny_bind (m:=checkCount "sorted" 1 1 _) (wpAny_pure ?_);refine wpAny_bind (collect_list hp ?_);refine wpAny_bind (wpAny_newList ?_);have hsz:((s.heap.push (seqObj "list" #[] 0)).update s.heap.objs.size (Obj.mapSeq (·++its.toArray))).objs.size=s.heap.objs.size+1:=by
  rw [Heap.size_update,size_push']
 have hoL:(((s.heap.push (seqObj "list" #[] 0)).update s.heap.objs.size (Obj.mapSeq (·++its.toArray))).push (seqObj "list" its.toArray 0)).get? (s.heap.objs.size+1)=some (seqObj "list" its.toArray 0):=by
  rw [<-hsz];exact Heap.get?_push_size _ rfl
 have I2:Inv X pins σ H {s with heap:=((s.heap.push (seqObj "list" #[] 0)).update s.heap.objs.size (Obj.mapSeq (·++its.toArray))).push (seqObj "list" its.toArray 0)}:=I.kept (t':=s.toks) λ b o e=>
  Heap.get?_push_of_some _ (by rw [Heap.get?_update_ne _ _ _ _ (Nat.ne_of_lt (Heap.lt_size e))];exact Heap.get?_push_of_some _ e)
 show wpAny _ _ _ _ _ {s with heap:=((s.heap.push (seqObj "list" #[] 0)).update s.heap.objs.size (Obj.mapSeq (·++its.toArray))).push (seqObj "list" its.toArray 0)};rw [hsz];have fl:FpOk X pins H (s.heap.objs.size+1):=I.fpOk (Nat.le_succ _) (I.hok.fresh (Nat.le_succ _));refine wpAny_bind (wpAny_holding (wpAny_call_entry_kw slot_list_sort ⟨_,hoL,rfl⟩ entry_list_sort (oK I2 hoL fl hl h64 hcall λ s' out kv a1 a2 a3 a4 a5=>⟨_,rfl,?_⟩) (dS _ _)));exact wpAny_pure ⟨_,rfl,h s' _ out kv a1 fl a2 a3 a4 a5⟩
def tS (K:PySem.W.Frag)(sp:Sp)(t:TA):TE:=λ σ H Q=>t σ H λ zs H1=>∃(p:Addr) (xs:List V) (ks:List Int),zs=[.ref p]/\SqL K H1 p xs/\xs.length=ks.length/\xs.length≤1000/\
 (∀(i:Nat) (v:V) (k:Int),xs[i]?=some v->ks[i]?=some k->sp [v] H1 (λ r H2=>r=.int k/\H2=H1) E0)/\
 ∀(l:Addr) (m:List (Int×V)),H1 l=none->(m.map (·.1)).Pairwise (·≤·)->SM.Stb SG.ltI SG.ky m (ks.zip xs)->Q (.ref l) (upd H1 l (.lst (m.map (·.2))))
section
variable {X : Cx} {k : Nat} {f : Addr} {fd : FuncData} {x : Str} {sp : Sp} {e : Expr} {te : TE} {fe : Expr} {p kp pos : Pos} {y : Str}
theorem iq {t:TA}(F:FnOk X.prog X.w X.K X.mg X.base CX0 k f fd [y] sp)(hr:Room (k+2) X.A)(hb:Binds X.K fd [y] [])(hg:Gl X "sorted")(hm:X.mg "sorted"=none)(hf:PE X fe (tC (.ref f)))(ha:PA X [e] t)
  (he:backTo pos (starEach (e:: []) X.env)=(false,eval e X.env)::backTo pos (starEach [] X.env):=by rfl) (hplain:(backTo pos (starEach (e:: []) X.env)).any (·.1)=false:=by rfl)
  (hall:(backToKw pos (keywordEach [⟨some "key",fe,kp⟩] X.env)).all (·.1.isSome)=true:=by rfl)
  (hkw:(backToKw pos (keywordEach [⟨some "key",fe,kp⟩] X.env)).any (·.1.isNone)=false:=by rfl)
  (hfm:(backToKw pos (keywordEach [⟨some "key",fe,kp⟩] X.env)).filterMap (·.1)=[("key":Str)]:=by rfl):
  PE X (.Call (.Name "sorted" p) [e] [⟨some "key",fe,kp⟩] pos) (tS X.K sp t):=by
 intro pins s σ H Q I h;refine wpAny_Call_Name_kw (ld_blt I hg hm (show bootBuiltins "sorted"=some (.builtin "sorted") by decide+kernel) ?_);refine PyProof.Rows.callWith_kw (e:=e) (rest:=[]) (thn (ha pos pins s σ H _ I h) λ us s1 ⟨vs,H1,I1,r1,q1⟩=>?_) he hplain hall hkw;refine kws_cons (thn (hf pins s1 σ H1 (λ v H2=>v=.ref f/\H2=H1) I1 ⟨rfl,rfl⟩) λ fv s2 ⟨v,H2,I2,r2,e1,e2⟩=>kws_nil ?_);subst e1 e2;obtain rfl:fv=Value.ref f:=r2;rw [hfm];obtain⟨p,xs,ks,rfl,hq,hlen,h64,hsp,q⟩:=q1;obtain⟨u,rfl,ru⟩:=eA r1;obtain rfl:u=Value.ref p:=ru;obtain⟨its,rv,pl,hz⟩:=I2.list hq;have hil:=rv.length;show wpAny _ _ (call (.builtin "sorted") [.ref p] [(Str.ofString "key",.ref f)]) _ _ s2;refine jQ (ks:=ks) I2 pl.isList (by lia) (by lia) (λ pins' s' E' i x k' hx hk I'=>?_) λ s' l out kv I' fl ⟨en,ho⟩ hkv hp hs=>?_
 ·obtain⟨v,hv,rvv⟩:∃v,xs[i]?=some v/\RelV v x:=by
   have hix:i<xs.length:=by have:=(List.getElem?_eq_some_iff.mp hx).1;lia
   obtain⟨u,e3,r3⟩:=rv.get (i:=i) (x:=xs[i]) (List.getElem?_eq_getElem hix);rw [hx] at e3;cases e3;exact⟨_,List.getElem?_eq_getElem hix,r3⟩
  refine wpAny_call (codeAny_mono (F.run X.A.in1.in1 X.stack s' H2 ⟨[x],[]⟩ [x] [v] _ E0 hr.in1.in1 I'.env0.in1.in1 (hb s' [x] I'.kIn rfl) (.cons rvv .nil) (hsp i v k' hv hk)) λ r s'' hq=>?_);cases r with
  |error e=>exact False.elim hq
  |ok fl=>
   cases fl with
   |ret u=>
    obtain⟨v',H',I'',rr,e1,e2⟩:=I'.after hq;subst e1 e2;exact⟨rr,I''⟩
   |next=>exact False.elim hq
   |brk=>exact False.elim hq
   |cont=>exact False.elim hq
 ·obtain⟨m,hst,hpr⟩:=qg hs (pW hkv rv);have hvals:=nI hpr;have hml:=qD hpr;have hol:out.toList.length=its.length:=by rw [(SM.stb_perm (SG.ord SG.kInt) hs).length_eq,List.length_zip,hkv.length];lia
  refine⟨.ref l,_,I'.adopt fl (its:=out.toList.map (·.2)) hvals (by rw [List.length_map];rw [sizeLine_eq];lia) (n:=en) (by rw [ho,<-Array.toList_map]),rfl,q l m fl.1 ?_ hst⟩;rw [List.pairwise_iff_getElem];intro i j hi hj hij;rw [List.length_map] at hi hj;have key:∀(i:Nat) (h:i<m.length) (h2:i<out.toList.length),SG.kf SG.kInt (out.toList[i]'h2)=m[i].1:=by
   intro i hi hi2;obtain⟨t,v,e⟩:=uM hpr (List.getElem?_eq_getElem hi);have e':out.toList[i]=(.int m[i].1 t,v):=Option.some.inj ((List.getElem?_eq_getElem hi2).symm.trans e);rw [e'];rfl
  have l1:=(List.pairwise_iff_getElem.mp hp) i j (by lia) (by lia) hij;rw [List.getElem_map,List.getElem_map];have l2:SG.kInt.blt (SG.kf SG.kInt (out.toList[j]'(by lia))) (SG.kf SG.kInt (out.toList[i]'(by lia)))=false:=l1;rw [key i hi,key j hj] at l2;have l3:¬m[j].1<m[i].1:=λ z=>by
   have:SG.kInt.blt m[j].1 m[i].1=true:=decide_eq_true z;rw [this] at l2;cases l2
  exact Int.not_lt.mp l3
end
end L2
namespace PM
abbrev Bd:=Nat×List Nat
def pairs:List Bd->List Bd
 |a::b::r=>(a.1+b.1,a.2++b.2)::pairs r
 |_=>[]
def occ (R:List Bd)(p:Nat):Nat:=(R.map λ b=>b.2.count p).sum
def Sorted (B:List Bd):Prop:=B.Pairwise λ a b=>a.1≤b.1
theorem cr {a b:List Nat}(h:a.Perm b):a.sum=b.sum:=by
 induction h with
 |nil=>rfl
 |cons x _ ih=>simp [ih]
 |swap x y l=>simp;lia
 |trans _ _ h1 h2=>exact h1.trans h2
theorem kZ {R S:List Bd}(h:R.Perm S)(p:Nat):occ R p=occ S p:=cr (h.map _)
theorem gk (R S:List Bd)(p:Nat):occ (R++S) p=occ R p+occ S p:=by simp [occ]
theorem cJ (b:Bd)(S:List Bd)(p:Nat):occ (b::S) p=b.2.count p+occ S p:=by simp [occ]
theorem xU {R U X Y:List Bd}(h:(R++U).Perm (X++Y)):∃RX RY UX UY,R.Perm (RX++RY)/\U.Perm (UX++UY)/\X.Perm (RX++UX)/\Y.Perm (RY++UY):=by
 induction R generalizing X Y with
 |nil=>exact⟨[],[],X,Y,.nil,h,.refl _,.refl _⟩
 |cons r R ih=>
  have hr:r∈X++Y:=h.subset List.mem_cons_self;rcases List.mem_append.mp hr with hX|hY
  ·have e:=List.perm_cons_erase hX;have h2:(R++U).Perm (X.erase r++Y):=(h.trans (e.append_right Y)).cons_inv;obtain⟨RX,RY,UX,UY,h3,h4,h5,h6⟩:=ih h2;exact⟨r::RX,RY,UX,UY,h3.cons r,h4,e.trans (h5.cons r),h6⟩
  ·have e:=List.perm_cons_erase hY;have h2:(R++U).Perm (X++Y.erase r):=(h.trans ((e.append_left X).trans List.perm_middle)).cons_inv;obtain⟨RX,RY,UX,UY,h3,h4,h5,h6⟩:=ih h2;exact⟨RX,r::RY,UX,UY,(h3.cons r).trans List.perm_middle.symm,h4,h5,e.trans (h6.cons r)⟩
theorem oX:∀(n:Nat) {B RP UP:List Bd},B.length≤n->Sorted B->(RP++UP).Perm (pairs B)->(∀r∈RP,∀u∈UP,r.1≤u.1)->
  ∃R U,(R++U).Perm B/\(∀r∈R,∀u∈U,r.1≤u.1)/\R.length=2*RP.length/\(∀p,occ R p=occ RP p)/\∀r∈R,∃q∈RP,∃x∈B,q.1=r.1+x.1:=by
 intro n
 induction n with
 |zero=>
  intro B RP UP hB _ h _;have e:B=[]:=List.length_eq_zero_iff.mp (by lia);subst e;have:RP=[]/\UP=[]:=by
   have:=List.perm_nil.mp h;simpa using this
  obtain⟨rfl,rfl⟩:=this;exact⟨[],[],.nil,λ _ h=>(by simp at h),rfl,λ _=>rfl,λ _ h=>(by simp at h)⟩
 |succ n ih=>
  intro B RP UP hB hs h hle
  match B,hB,hs,h with
  | [],_,_,h=>
   have:RP=[]/\UP=[]:=by
    have:=List.perm_nil.mp h;simpa using this
   obtain⟨rfl,rfl⟩:=this;exact⟨[],[],.nil,λ _ h=>(by simp at h),rfl,λ _=>rfl,λ _ h=>(by simp at h)⟩
  | [x],_,_,h=>
   have:RP=[]/\UP=[]:=by
    have:=List.perm_nil.mp h;simpa using this
   obtain⟨rfl,rfl⟩:=this;exact⟨[],[x],.refl _,λ _ h=>(by simp at h),rfl,λ _=>rfl,λ _ h=>(by simp at h)⟩
  |a::b::r,hB,hs,h=>
   have hs':Sorted r:=(List.pairwise_cons.mp (List.pairwise_cons.mp hs).2).2;have ha:=(List.pairwise_cons.mp hs).1;have hb:=(List.pairwise_cons.mp (List.pairwise_cons.mp hs).2).1;have hab:a.1≤b.1:=ha b List.mem_cons_self;have hm:(a.1+b.1,a.2++b.2)∈RP++UP:=h.symm.subset List.mem_cons_self;rcases List.mem_append.mp hm with hR|hU
   ·have e:=List.perm_cons_erase hR;have h2:(RP.erase (a.1+b.1,a.2++b.2)++UP).Perm (pairs r):=((e.append_right UP).symm.trans h).cons_inv;obtain⟨R,U,h3,h4,h5,h6,h7⟩:=ih (by simp at hB;lia) hs' h2 λ x hx u hu=>hle x (List.mem_of_mem_erase hx) u hu
    have hl:=e.length_eq;rw [List.length_cons] at hl;refine⟨a::b::R,U,(h3.cons b).cons a,?_,?_,λ p=>?_,?_⟩
    ·intro x hx u hu;have hur:u∈r:=h3.subset (List.mem_append_right _ hu);rcases List.mem_cons.mp hx with rfl|hx
     ·exact ha u (List.mem_cons_of_mem _ hur)
     ·rcases List.mem_cons.mp hx with rfl|hx
      ·exact hb u hur
      ·exact h4 x hx u hu
    ·rw [List.length_cons,List.length_cons,h5];lia
    ·rw [kZ e p,cJ,cJ,cJ,h6 p];show _=(a.2++b.2).count p+_;rw [List.count_append];lia
    ·intro x hx;rcases List.mem_cons.mp hx with rfl|hx
     ·exact⟨_,hR,b,by simp,rfl⟩
     ·rcases List.mem_cons.mp hx with rfl|hx
      ·exact⟨_,hR,a,by simp,Nat.add_comm _ _⟩
      ·obtain⟨q,hq,y,hy,e⟩:=h7 x hx;exact⟨q,List.mem_of_mem_erase hq,y,List.mem_cons_of_mem _ (List.mem_cons_of_mem _ hy),e⟩
   ·have e:=List.perm_cons_erase hU;have h2:(RP++UP.erase (a.1+b.1,a.2++b.2)).Perm (pairs r):=(List.perm_middle.symm.trans ((e.append_left RP).symm.trans h)).cons_inv;obtain⟨R,U,h3,h4,h5,h6,h7⟩:=ih (by simp at hB;lia) hs' h2 λ x hx u hu=>hle x hx u (List.mem_of_mem_erase hu)
    have key:∀x∈R,x.1≤a.1/\x.1≤b.1:=by
     intro x hx;obtain⟨q,hq,y,hy,e⟩:=h7 x hx;have h8:q.1≤a.1+b.1:=hle q hq _ hU;have h9:=hb y hy;lia
    refine⟨R,a::b::U,?_,?_,h5,h6,λ x hx=>?_⟩
    ·exact List.perm_middle.trans ((List.perm_middle.trans (h3.cons b)).cons a)
    ·intro x hx u hu;rcases List.mem_cons.mp hu with rfl|hu
     ·exact(key x hx).1
     ·rcases List.mem_cons.mp hu with rfl|hu
      ·exact(key x hx).2
      ·exact h4 x hx u hu
    ·obtain⟨q,hq,y,hy,e⟩:=h7 x hx;exact⟨q,hq,y,List.mem_cons_of_mem _ (List.mem_cons_of_mem _ hy),e⟩
inductive Lev (sg:List Bd):Nat->List Bd->Prop
 |zero:Lev sg 0 []
 |step {k:Nat} {B B':List Bd}:Lev sg k B->B'.Perm (sg++pairs B)->Sorted B'->Lev sg (k+1) B'
def sgl (wt:Nat->Nat)(p:Nat):Bd:=(wt p,[p])
theorem kM {wt:Nat->Nat}{L:List Nat}{RX UX:List Bd}(h:(L.map (sgl wt)).Perm (RX++UX)):∃RL UL,L.Perm (RL++UL)/\RX=RL.map (sgl wt)/\UX=UL.map (sgl wt):=by
 have g:∀b∈RX++UX,sgl wt (b.2.headD 0)=b:=by
  intro b hb;obtain⟨p,_,rfl⟩:=List.mem_map.mp (h.symm.subset hb);rfl
 refine⟨RX.map (·.2.headD 0),UX.map (·.2.headD 0),?_,?_,?_⟩
 ·have:=h.map (·.2.headD 0);rw [List.map_map,List.map_append] at this;have e:((λ b:Bd=>b.2.headD 0)∘sgl wt)=id:=by funext p;rfl
  rw [e,List.map_id] at this;exact this
 ·rw [List.map_map]
  conv=>lhs;rw [<-List.map_id RX]
  exact List.map_congr_left λ b hb=>(g b (List.mem_append_left _ hb)).symm
 ·rw [List.map_map]
  conv=>lhs;rw [<-List.map_id UX]
  exact List.map_congr_left λ b hb=>(g b (List.mem_append_right _ hb)).symm
theorem mH {wt:Nat->Nat}:∀{M:List Nat} {p:Nat},occ (M.map (sgl wt)) p=M.count p
 | [],p=>rfl
 |q::M,p=>by
  rw [List.map_cons,cJ,mH];show [q].count p+_=_;rw [List.count_cons,List.count_cons];simp;lia
theorem iF {p:Nat}:∀{M:List Nat},M.Nodup->p∈M->M.count p=1
 | [],_,h=>by simp at h
 |a::M,hn,h=>by
  have hn':=List.nodup_cons.mp hn;rw [List.count_cons];by_cases e:a=p
  ·subst e;rw [List.count_eq_zero_of_not_mem hn'.1];simp
  ·have hm:p∈M:=by
    rcases List.mem_cons.mp h with h|h
    ·exact absurd h.symm e
    ·exact h
   rw [iF hn'.2 hm];simp [e]
def kr (R:List Bd)(k:Nat)(S:List Nat):Nat:=(S.map λ p=>2^(k-occ R p)).sum
theorem cc {S:List Nat}{f:Nat->Nat}{c:Nat}(h:∀p∈S,f p=c):(S.map f).sum=c*S.length:=by
 induction S with
 |nil=>rfl
 |cons a S ih=>
  rw [List.map_cons,List.sum_cons,h a List.mem_cons_self,ih λ p hp=>h p (List.mem_cons_of_mem _ hp),List.length_cons,Nat.mul_succ];lia
theorem b8 {S:List Nat}{f g:Nat->Nat}(h:∀p∈S,f p=g p):(S.map f).sum=(S.map g).sum:=by rw [List.map_congr_left h]
theorem qy {wt:Nat->Nat}{L:List Nat}(hL:L.Nodup)(hw:∀p∈L,0<wt p){k:Nat}{B:List Bd}(lv:Lev (L.map (sgl wt)) k B):Sorted B/\(∀b∈B,0<b.1)/\
  ∀R U,(R++U).Perm B->(∀r∈R,∀u∈U,r.1≤u.1)->∃S T,L.Perm (S++T)/\(∀p∈S,1≤occ R p/\occ R p≤k/\sgl wt p∈R)/\(∀p,p∉S->occ R p=0)/\2*kr R k S+2^k*R.length=2^(k+1)*S.length:=by
 induction lv with
 |zero=>
  refine⟨.nil,λ _ h=>(by simp at h),λ R U h _=>?_⟩;have:R=[]/\U=[]:=by
   have:=List.perm_nil.mp h;simpa using this
  obtain⟨rfl,rfl⟩:=this;exact⟨[],L,.refl _,λ _ h=>(by simp at h),λ _ _=>rfl,rfl⟩
 | @step k B B' _ hp hs ih=>
  obtain⟨hsB,hpos,ih⟩:=ih;have pos_pairs:∀(n:Nat) (B:List Bd),B.length≤n->(∀b∈B,0<b.1)->∀b∈pairs B,0<b.1:=by
   intro n
   induction n with
   |zero=>intro B hB _ b hb;have:B=[]:=List.length_eq_zero_iff.mp (by lia);subst this;simp [pairs] at hb
   |succ n ih2=>
    intro B hB h b hb
    match B,hB,h,hb with
    | [],_,_,hb=>simp [pairs] at hb
    | [x],_,_,hb=>simp [pairs] at hb
    |x::y::r,hB,h,hb=>
     rcases List.mem_cons.mp hb with rfl|hb
     ·have:=h x List.mem_cons_self;show 0<x.1+y.1;lia
     ·exact ih2 r (by simp at hB;lia) (λ b hb=>h b (List.mem_cons_of_mem _ (List.mem_cons_of_mem _ hb))) b hb
  refine⟨hs,λ b hb=>?_,λ R U h hle=>?_⟩
  ·rcases List.mem_append.mp (hp.subset hb) with hb|hb
   ·obtain⟨p,hpL,rfl⟩:=List.mem_map.mp hb;exact hw p hpL
   ·exact pos_pairs _ B (Nat.le_refl _) hpos b hb
  ·obtain⟨RX,RP,UX,UP,h1,h2,h3,h4⟩:=xU (h.trans hp);obtain⟨RL,UL,h5,rfl,rfl⟩:=kM h3;have mR:∀b,b∈RL.map (sgl wt)\/b∈RP->b∈R:=λ b hb=>h1.symm.subset (List.mem_append.mpr hb)
   have mU:∀b,b∈UL.map (sgl wt)\/b∈UP->b∈U:=λ b hb=>h2.symm.subset (List.mem_append.mpr hb)
   obtain⟨R',U',h6,h7,h8,h9,h10⟩:=oX _ (Nat.le_refl _) hsB h4.symm λ r hr u hu=>hle r (mR r (.inr hr)) u (mU u (.inr hu))
   obtain⟨S,T,h11,h12,h13,h14⟩:=ih R' U' h6 h7;have hocc:∀p,occ R p=RL.count p+occ R' p:=λ p=>by rw [kZ h1 p,gk,mH,h9 p]
   have hndR:RL.Nodup:=(List.nodup_append.mp (h5.nodup_iff.mp hL)).1;have hndS:S.Nodup:=(List.nodup_append.mp (h11.nodup_iff.mp hL)).1;have hsub:∀p∈S,p∈RL:=by
    intro p hpS;have hpL:p∈RL++UL:=h5.subset (h11.symm.subset (List.mem_append_left _ hpS));rcases List.mem_append.mp hpL with hh|hh
    ·exact hh
    ·obtain⟨q,hq,x,hx,e⟩:=h10 _ (h12 p hpS).2.2;have:=hle q (mR q (.inr hq)) _ (mU _ (.inl (List.mem_map_of_mem hh)));have hx0:=hpos x hx;have e':q.1=wt p+x.1:=e;have:q.1≤wt p:=this;lia
   have hcnt:∀p∈RL,RL.count p=1:=λ p hp=>iF hndR hp
   refine⟨RL,UL,h5,λ p hpR=>⟨?_,?_,mR _ (.inl (List.mem_map_of_mem hpR))⟩,λ p hpR=>?_,?_⟩
   ·rw [hocc,hcnt p hpR];lia
   ·rw [hocc,hcnt p hpR];by_cases hpS:p∈S
    ·have:=(h12 p hpS).2.1;lia
    ·rw [h13 p hpS];lia
   ·rw [hocc,List.count_eq_zero_of_not_mem hpR,h13 p λ z=>hpR (hsub p z)]
   ·
    have hspl:RL.Perm (S++RL.filter (λ p=> !decide (p∈S))):=by
     have e1:RL.Perm (RL.filter (λ p=>decide (p∈S))++RL.filter (λ p=> !decide (p∈S))):=(List.filter_append_perm _ _).symm;refine e1.trans (List.Perm.append_right _ ?_);rw [List.perm_ext_iff_of_nodup (hndR.filter _) hndS];intro p;simp only [List.mem_filter,decide_eq_true_eq];exact⟨λ h=>h.2,λ h=>⟨hsub p h,h⟩⟩
    have hkr:kr R (k+1) RL=kr R' k S+2^k*(RL.filter (λ p=> !decide (p∈S))).length:=by
     unfold kr;have e2:(RL.map λ p=>2^(k+1-occ R p)).sum=(RL.map λ p=>2^(k-occ R' p)).sum:=by
      refine b8 λ p hp=>?_
      rw [hocc,hcnt p hp,show k+1-(1+occ R' p)=k-occ R' p by lia]
     rw [e2,cr (hspl.map _),List.map_append,List.sum_append];congr 1;refine cc λ p hp=>?_
     simp only [List.mem_filter,Bool.not_eq_true',decide_eq_false_iff_not] at hp;rw [h13 p hp.2,Nat.sub_zero]
    have hlR:=h1.length_eq;have hlS:=hspl.length_eq;rw [List.length_append,List.length_map] at hlR;rw [List.length_append] at hlS;rw [hkr,hlR,Nat.pow_succ 2 (k+1),Nat.pow_succ 2 k];rw [h8,Nat.pow_succ 2 k] at h14;generalize (RL.filter (λ p=> !decide (p∈S))).length=xl at*;generalize 2^k=q at*;rw [hlS];have e0:∀z,q*2*z=2*(q*z):=λ z=>by rw [Nat.mul_comm q 2,Nat.mul_assoc]
    have e00:∀z,q*2*2*z=4*(q*z):=λ z=>by rw [Nat.mul_assoc (q*2) 2 z,e0 (2*z),Nat.mul_left_comm q 2 z];lia
    have e3:q*(2*RP.length)=2*(q*RP.length):=by rw [Nat.mul_left_comm]
    have e4:q*2*S.length=2*(q*S.length):=e0 _;have e5:q*2*(S.length+xl+RP.length)=2*(q*S.length)+2*(q*xl)+2*(q*RP.length):=by
     rw [e0,Nat.mul_add q,Nat.mul_add q];lia
    have e6:q*2*2*(S.length+xl)=4*(q*S.length)+4*(q*xl):=by
     rw [e00,Nat.mul_add q];lia
    rw [e5,e6];rw [e3,e4] at h14;lia
theorem lD:∀{B Z Z':List Nat},B.Pairwise (·≤·)->B.Perm (Z++Z')->(B.take Z.length).sum≤Z.sum:=by
 intro B
 induction B with
 |nil=>intro Z Z' _ h;simp
 |cons b B ih=>
  intro Z Z' hs h;have hb:=(List.pairwise_cons.mp hs).1;have hs':=(List.pairwise_cons.mp hs).2;by_cases hbZ:b∈Z
  ·have e:=List.perm_cons_erase hbZ;have h2:B.Perm (Z.erase b++Z'):=(h.trans (e.append_right Z')).cons_inv;have:=ih hs' h2;rw [cr e,e.length_eq,List.length_cons,List.take_succ_cons,List.sum_cons,List.sum_cons];lia
  ·have hbZ':b∈Z':=by
    rcases List.mem_append.mp (h.subset List.mem_cons_self) with h|h
    ·exact absurd h hbZ
    ·exact h
   have e:=List.perm_cons_erase hbZ'
   match Z,h,hbZ with
   | [],_,_=>simp
   |z::Z1,h,hbZ=>
    have h2:B.Perm (Z1++(z::Z'.erase b)):=by
     have h3:(b::B).Perm (z::(Z1++(b::Z'.erase b))):=h.trans ((e.append_left Z1).cons z);have h4:(z::(Z1++(b::Z'.erase b))).Perm (b::(z::(Z1++Z'.erase b))):=((List.perm_middle (a:=b)).cons z).trans (.swap _ _ _);exact(h3.trans h4).cons_inv.trans List.perm_middle.symm
    have:=ih hs' h2;have hz:b≤z:=by
     rcases List.mem_cons.mp (h.symm.subset (List.mem_append_left _ List.mem_cons_self)) with h|h
     ·lia
     ·exact hb z h
    rw [List.length_cons,List.take_succ_cons,List.sum_cons,List.sum_cons];lia
def ws (B:List Bd):List Nat:=B.map (·.1)
theorem cG:∀(n:Nat) {B:List Bd},B.length≤n->(pairs B).length=B.length/2/\∀j,((ws (pairs B)).take j).sum≤((ws B).take (2*j)).sum:=by
 intro n
 induction n with
 |zero=>
  intro B hB;have:B=[]:=List.length_eq_zero_iff.mp (by lia);subst this;exact⟨rfl,λ j=>by simp [pairs,ws]⟩
 |succ n ih=>
  intro B hB
  match B,hB with
  | [],_=>exact⟨rfl,λ j=>by simp [pairs,ws]⟩
  | [x],_=>exact⟨by simp [pairs],λ j=>by simp [pairs,ws]⟩
  |a::b::r,hB=>
   obtain⟨h1,h2⟩:=ih (B:=r) (by simp at hB;lia);refine⟨by rw [pairs,List.length_cons,h1,List.length_cons,List.length_cons];lia,λ j=>?_⟩;cases j with
   |zero=>simp
   |succ j=>
    have:=h2 j;rw [show 2*(j+1)=2*j+1+1 by lia];show(((a.1+b.1)::ws (pairs r)).take (j+1)).sum≤((a.1::b.1::ws r).take (2*j+1+1)).sum;rw [List.take_succ_cons,List.take_succ_cons,List.take_succ_cons,List.sum_cons,List.sum_cons,List.sum_cons];lia
theorem dN (B:List Nat){i j:Nat}(h:i≤j):(B.take i).sum≤(B.take j).sum:=by
 have e:B.take i=(B.take j).take i:=by rw [List.take_take,Nat.min_eq_left h]
 rw [e]
 conv=>rhs;rw [<-List.take_append_drop i (B.take j)]
 rw [List.sum_append];lia
theorem dn (q:Nat->Bool)(f:Nat->Nat):∀L:List Nat,((L.filter q).map f).sum=(L.map λ p=>if q p=true then f p else 0).sum
 | []=>rfl
 |a::L=>by
  rw [List.filter_cons,List.map_cons,List.sum_cons,<-dn q f L];by_cases h:q a=true
  ·rw [if_pos h,if_pos h,List.map_cons,List.sum_cons]
  ·rw [if_neg h,if_neg h,Nat.zero_add]
theorem ku (q:Nat->Bool):∀L:List Nat,(L.filter q).length=(L.map λ p=>if q p=true then 1 else 0).sum
 | []=>rfl
 |a::L=>by
  rw [List.filter_cons,List.map_cons,List.sum_cons,<-ku q L];by_cases h:q a=true
  ·rw [if_pos h,if_pos h,List.length_cons];lia
  ·rw [if_neg h,if_neg h,Nat.zero_add]
theorem dI (f g:Nat->Nat):∀L:List Nat,(L.map λ p=>f p+g p).sum=(L.map f).sum+(L.map g).sum
 | []=>rfl
 |a::L=>by rw [List.map_cons,List.map_cons,List.map_cons,List.sum_cons,List.sum_cons,List.sum_cons,dI f g L];lia
theorem jd (c:Nat)(f:Nat->Nat):∀L:List Nat,(L.map λ p=>c*f p).sum=c*(L.map f).sum
 | []=>by simp
 |a::L=>by rw [List.map_cons,List.map_cons,List.sum_cons,List.sum_cons,jd c f L,Nat.mul_add]
section
variable (L : List Nat) (wt ln : Nat -> Nat) (m : Nat)
def cK (k:Nat):Nat:=(L.map λ p=>if decide (m<ln p+k)=true then 1 else 0).sum
def eK (k:Nat):Nat:=(L.map λ p=>if decide (m<ln p+k)=true then 2^(m-ln p) else 0).sum
def wK (k:Nat):Nat:=(L.map λ p=>if decide (m<ln p+k)=true then wt p else 0).sum
def sK (k:Nat):Nat:=(L.map λ p=>wt p*(ln p-(m-k))).sum
end
theorem t9 {L:List Nat}{wt ln:Nat->Nat}{m:Nat}(hm:∀p∈L,ln p≤m){k:Nat}{B:List Bd}(lv:Lev (L.map (sgl wt)) k B):k≤m->
  ∃T,T≤B.length/\((ws B).take T).sum≤sK L wt ln m k/\∃er,er+1≤2^k/\2*eK L ln m k+2^k*T+er=2^(k+1)*cK L ln m k:=by
 induction lv with
 |zero=>
  intro _;refine⟨0,Nat.le_refl _,Nat.zero_le _,0,Nat.le_refl _,?_⟩;have h1:eK L ln m 0=0:=by
   unfold eK;rw [cc (c:=0) λ p hp=>if_neg (by have:=hm p hp;simp;lia)];lia
  have h2:cK L ln m 0=0:=by
   unfold cK;rw [cc (c:=0) λ p hp=>if_neg (by have:=hm p hp;simp;lia)];lia
  rw [h1,h2]
 | @step k B B' _ hp hs ih=>
  intro hk;obtain⟨T,hT,hsum,er,her,heq⟩:=ih (by lia);obtain⟨hpl,hpt⟩:=cG _ (B:=B) (Nat.le_refl _);have hq:(L.filter λ p=>decide (m<ln p+(k+1))).length=cK L ln m (k+1):=ku _ L;have hqw:((L.filter λ p=>decide (m<ln p+(k+1))).map wt).sum=wK L wt ln m (k+1):=dn _ wt L;have hcL:cK L ln m (k+1)≤L.length:=by rw [<-hq];exact List.length_filter_le _ _
  have hBl:=hp.length_eq;rw [List.length_append,List.length_map,hpl] at hBl;refine⟨cK L ln m (k+1)+T/2,by lia,?_,er+2^k*(T%2),?_,?_⟩
  ·have hperm:(ws B').Perm (((L.filter λ p=>decide (m<ln p+(k+1))).map wt++(ws (pairs B)).take (T/2))++((L.filter λ p=> !decide (m<ln p+(k+1))).map wt++(ws (pairs B)).drop (T/2))):=by
    have h1:(ws B').Perm (L.map wt++ws (pairs B)):=by
     have:=hp.map (·.1);rw [List.map_append,List.map_map] at this;exact this
    have h2:(L.map wt).Perm ((L.filter λ p=>decide (m<ln p+(k+1))).map wt++(L.filter λ p=> !decide (m<ln p+(k+1))).map wt):=by
     rw [<-List.map_append];exact(List.filter_append_perm _ _).symm.map wt
    have h3:ws (pairs B)=(ws (pairs B)).take (T/2)++(ws (pairs B)).drop (T/2):=(List.take_append_drop _ _).symm;refine h1.trans ((h2.append_right _).trans ?_)
    conv=>lhs;rw [h3]
    generalize (L.filter λ p=>decide (m<ln p+(k+1))).map wt=a;generalize (L.filter λ p=> !decide (m<ln p+(k+1))).map wt=b;generalize (ws (pairs B)).take (T/2)=c;generalize (ws (pairs B)).drop (T/2)=d;rw [List.append_assoc,List.append_assoc];refine List.Perm.append_left a ?_;rw [<-List.append_assoc,<-List.append_assoc];exact List.perm_append_comm.append_right d
   have hsB:(ws B').Pairwise (·≤·):=List.pairwise_map.mpr hs;have h4:=lD hsB hperm;have hlen:((L.filter λ p=>decide (m<ln p+(k+1))).map wt++(ws (pairs B)).take (T/2)).length=cK L ln m (k+1)+T/2:=by
    rw [List.length_append,List.length_map,hq,List.length_take];have:(ws (pairs B)).length=B.length/2:=by rw [ws,List.length_map,hpl]
    lia
   rw [hlen,List.sum_append,hqw] at h4;have h5:=hpt (T/2);have h6:=dN (ws B) (show 2*(T/2)≤T by lia);have h7:sK L wt ln m (k+1)=sK L wt ln m k+wK L wt ln m (k+1):=by
    unfold sK wK;rw [<-dI];refine b8 λ p hp=>?_
    have:=hm p hp;by_cases h:m<ln p+(k+1)
    ·rw [if_pos (decide_eq_true h),show ln p-(m-(k+1))=ln p-(m-k)+1 by lia,Nat.mul_succ]
    ·rw [if_neg (by simpa using h),show ln p-(m-(k+1))=ln p-(m-k) by lia,Nat.add_zero]
   lia
  ·have h1:T%2<2:=Nat.mod_lt _ (by decide);have h2:2^k*(T%2)≤2^k*1:=Nat.mul_le_mul_left _ (by lia);rw [Nat.pow_succ];lia
  ·have h1:eK L ln m (k+1)+2^k*cK L ln m k=eK L ln m k+2^k*cK L ln m (k+1):=by
    unfold eK cK;rw [<-jd,<-jd,<-dI,<-dI];refine b8 λ p hp=>?_
    have:=hm p hp;by_cases h:m<ln p+k
    ·rw [if_pos (decide_eq_true (show m<ln p+(k+1) by lia)),if_pos (decide_eq_true h),if_pos (decide_eq_true h),if_pos (decide_eq_true (show m<ln p+(k+1) by lia))]
    ·by_cases h':m<ln p+(k+1)
     ·rw [if_pos (decide_eq_true h'),if_neg (by simpa using h),if_neg (by simpa using h),if_pos (decide_eq_true h'),show m-ln p=k by lia];lia
     ·rw [if_neg (by simpa using h'),if_neg (by simpa using h),if_neg (by simpa using h),if_neg (by simpa using h')]
   have h2:T=2*(T/2)+T%2:=by lia
   rw [Nat.pow_succ 2 (k+1),Nat.pow_succ 2 k];rw [Nat.pow_succ 2 k] at heq;generalize 2^k=q at*;generalize T/2=t2 at*;generalize T%2=tr at*;subst h2;have e0:∀z,q*2*z=2*(q*z):=λ z=>by rw [Nat.mul_comm q 2,Nat.mul_assoc]
   have e00:∀z,q*2*2*z=4*(q*z):=λ z=>by rw [Nat.mul_assoc (q*2) 2 z,e0 (2*z),Nat.mul_left_comm q 2 z];lia
   rw [e0,e00,Nat.mul_add q];rw [e0,Nat.mul_add q,Nat.mul_left_comm q 2] at heq;lia
def Wt (L:List Nat)(wt:Nat->Nat)(b:Bd):Prop:=b.1=(b.2.map wt).sum/\∀p∈b.2,p∈L
theorem rb {L:List Nat}{wt:Nat->Nat}:∀(n:Nat) {B:List Bd},B.length≤n->(∀b∈B,Wt L wt b)->∀b∈pairs B,Wt L wt b:=by
 intro n
 induction n with
 |zero=>intro B hB _ b hb;have:B=[]:=List.length_eq_zero_iff.mp (by lia);subst this;simp [pairs] at hb
 |succ n ih=>
  intro B hB h b hb
  match B,hB,h,hb with
  | [],_,_,hb=>simp [pairs] at hb
  | [x],_,_,hb=>simp [pairs] at hb
  |x::y::r,hB,h,hb=>
   rcases List.mem_cons.mp hb with rfl|hb
   ·obtain⟨h1,h2⟩:=h x List.mem_cons_self;obtain⟨h3,h4⟩:=h y (List.mem_cons_of_mem _ List.mem_cons_self);refine⟨?_,λ p hp=>?_⟩
    ·show x.1+y.1=((x.2++y.2).map wt).sum;rw [List.map_append,List.sum_append,h1,h3]
    ·rcases List.mem_append.mp hp with hp|hp
     ·exact h2 p hp
     ·exact h4 p hp
   ·exact ih (by simp at hB;lia) (λ b hb=>h b (List.mem_cons_of_mem _ (List.mem_cons_of_mem _ hb))) b hb
theorem qB {L:List Nat}{wt:Nat->Nat}{k:Nat}{B:List Bd}(lv:Lev (L.map (sgl wt)) k B):∀b∈B,Wt L wt b:=by
 induction lv with
 |zero=>intro b hb;simp at hb
 | @step k B B' _ hp hs ih=>
  intro b hb;rcases List.mem_append.mp (hp.subset hb) with hb|hb
  ·obtain⟨p,hpL,rfl⟩:=List.mem_map.mp hb;exact⟨by simp [sgl],λ q hq=>by simp [sgl] at hq;subst hq;exact hpL⟩
  ·exact rb _ (Nat.le_refl _) ih b hb
theorem nw {wt:Nat->Nat}{q:Nat}:∀{L:List Nat},L.Nodup->q∈L->(L.map λ p=>wt p* [q].count p).sum=wt q
 | [],_,h=>by simp at h
 |a::L,hn,h=>by
  have hn':=List.nodup_cons.mp hn;rw [List.map_cons,List.sum_cons];by_cases e:q=a
  ·subst e;have:(L.map λ p=>wt p* [q].count p).sum=0*L.length:=cc λ p hp=>by
    have: [q].count p=0:=List.count_eq_zero_of_not_mem (by simp;rintro rfl;exact hn'.1 hp);rw [this,Nat.mul_zero]
   rw [this];simp
  ·have hm:q∈L:=by
    rcases List.mem_cons.mp h with h|h
    ·exact absurd h e
    ·exact h
   rw [nw hn'.2 hm];have: [q].count a=0:=List.count_eq_zero_of_not_mem (by simp;exact λ z=>e z.symm);rw [this];simp
theorem pY {L:List Nat}{wt:Nat->Nat}(hL:L.Nodup):∀{M:List Nat},(∀p∈M,p∈L)->(M.map wt).sum=(L.map λ p=>wt p*M.count p).sum
 | [],_=>by
  have:=cc (S:=L) (f:=λ p=>wt p*([]:List Nat).count p) (c:=0) (λ p _=>by simp);rw [this];simp
 |q::M,h=>by
  rw [List.map_cons,List.sum_cons,pY hL λ p hp=>h p (List.mem_cons_of_mem _ hp),<-nw (wt:=wt) hL (h q List.mem_cons_self),<-dI];refine b8 λ p _=>?_
  rw [<-Nat.mul_add,<-List.count_append];rfl
theorem qR {L:List Nat}{wt:Nat->Nat}(hL:L.Nodup):∀{R:List Bd},(∀b∈R,Wt L wt b)->(ws R).sum=(L.map λ p=>wt p*occ R p).sum
 | [],_=>by rw [cc (c:=0) λ p _=>by simp [occ]];simp [ws]
 |b::R,h=>by
  have hb:=h b List.mem_cons_self;show b.1+(ws R).sum=_;rw [qR hL λ b hb=>h b (List.mem_cons_of_mem _ hb),hb.1,pY hL hb.2,<-dI];refine b8 λ p _=>?_
  rw [cJ,Nat.mul_add]
theorem tM {L:List Nat}{wt:Nat->Nat}{k:Nat}{B:List Bd}(lv:Lev (L.map (sgl wt)) k B):2*L.length*2^k+1≤2^k*B.length+2*L.length+2^k:=by
 induction lv with
 |zero=>simp
 | @step k B B' _ hp hs ih=>
  have hl:=hp.length_eq;rw [List.length_append,List.length_map,(cG _ (B:=B) (Nat.le_refl _)).1] at hl;rw [hl,Nat.pow_succ];have h2:B.length≤2*(B.length/2)+1:=by lia
  generalize B.length/2=h at*;generalize B.length=b at*;generalize L.length=n at*;generalize 2^k=q at*;have h3:q*b≤q*(2*h+1):=Nat.mul_le_mul_left _ h2;have e1:q*(2*h+1)=2*(q*h)+q:=by rw [Nat.mul_add,Nat.mul_left_comm];lia
  have e2:2*n*q=2*(q*n):=by rw [Nat.mul_assoc,Nat.mul_comm n]
  have e3:2*n*(q*2)=4*(q*n):=by rw [<-Nat.mul_assoc,e2];lia
  have e4:q*2*(n+h)=2*(q*n)+2*(q*h):=by rw [Nat.mul_comm q 2,Nat.mul_assoc,Nat.mul_add q];lia
  rw [e3,e4];rw [e2] at ih;lia
theorem xD {L:List Nat}{wt:Nat->Nat}(hL:L.Nodup)(hw:∀p∈L,0<wt p){m:Nat}{B:List Bd}(lv:Lev (L.map (sgl wt)) m B)(hn:2≤L.length)(hm:L.length≤2^m):
  (∀p∈L,1≤occ (B.take (2*L.length-2)) p/\occ (B.take (2*L.length-2)) p≤m)/\(∀p,p∉L->occ (B.take (2*L.length-2)) p=0)/\
  (L.map λ p=>2^(m-occ (B.take (2*L.length-2)) p)).sum≤2^m/\
  ∀ln:Nat->Nat,(∀p∈L,1≤ln p/\ln p≤m)->(L.map λ p=>2^(m-ln p)).sum≤2^m->(L.map λ p=>wt p*occ (B.take (2*L.length-2)) p).sum≤(L.map λ p=>wt p*ln p).sum:=by
 obtain⟨hs,hpos,hpart⟩:=qy hL hw lv;have hlen:2*L.length-2≤B.length:=by
  have h1:=tM lv;have h0:0<2^m:=Nat.pow_pos (by decide);rcases Nat.lt_or_ge B.length (2*L.length-2) with h|h
  ·exfalso;have h2:2^m*(B.length+3)≤2^m*(2*L.length):=Nat.mul_le_mul_left _ (by lia);rw [Nat.mul_add] at h2;rw [Nat.mul_comm (2*L.length)] at h1;lia
  ·exact h
 have hRl:(B.take (2*L.length-2)).length=2*L.length-2:=by rw [List.length_take];lia
 have hsplit:(B.take (2*L.length-2)++B.drop (2*L.length-2)).Perm B:=by rw [List.take_append_drop]
 have hle:∀r∈B.take (2*L.length-2),∀u∈B.drop (2*L.length-2),r.1≤u.1:=by
  have:Sorted (B.take (2*L.length-2)++B.drop (2*L.length-2)):=by rw [List.take_append_drop];exact hs
  exact(List.pairwise_append.mp this).2.2
 have hcost:=qR hL (R:=B.take (2*L.length-2)) λ b hb=>qB lv b (List.mem_of_mem_take hb)
 have hws:ws (B.take (2*L.length-2))=(ws B).take (2*L.length-2):=by rw [ws,ws,List.map_take]
 obtain⟨S,T,h1,h2,h3,h4⟩:=hpart _ _ hsplit hle;rw [hRl] at h4;generalize B.take (2*L.length-2)=R at*;have hlL:=h1.length_eq;rw [List.length_append] at hlL;have hT:T=[]:=by
  rcases Nat.eq_zero_or_pos T.length with h|h
  ·exact List.length_eq_zero_iff.mp h
  ·exfalso;have h0:0<2^m:=Nat.pow_pos (by decide);have h5:2^(m+1)*S.length≤2^m*(2*L.length-2):=by
    have:2*S.length≤2*L.length-2:=by lia
    rw [Nat.pow_succ,Nat.mul_assoc];exact Nat.mul_le_mul_left _ this
   have hk0:kr R m S=0:=by lia
   have hS0:S=[]:=by
    match S,hk0 with
    | [],_=>rfl
    |p::S',hk0=>
     exfalso;unfold kr at hk0;rw [List.map_cons,List.sum_cons] at hk0;have:0<2^(m-occ R p):=Nat.pow_pos (by decide);lia
   subst hS0;rw [hk0] at h4;have h6:2^m*(2*L.length-2)=0:=by simpa using h4
   rcases Nat.mul_eq_zero.mp h6 with h|h<;>lia
 subst hT;rw [List.append_nil] at h1;rw [List.length_nil,Nat.add_zero] at hlL;have hkL:kr R m S=(L.map λ p=>2^(m-occ R p)).sum:=(cr (h1.map _)).symm;refine⟨λ p hp=>?_,λ p hp=>h3 p λ z=>hp (h1.symm.subset z),?_,λ ln hln hK=>?_⟩
 ·obtain⟨a,b,_⟩:=h2 p (h1.subset hp);exact⟨a,b⟩
 ·rw [<-hkL];rw [<-hlL,Nat.pow_succ] at h4;have e:2^m*(2*L.length-2)+2*2^m=2^m*2*L.length:=by
   rw [Nat.mul_comm 2 (2^m),<-Nat.mul_add,Nat.mul_assoc];congr 1;lia
  lia
 ·obtain⟨T,hT,hsum,er,her,heq⟩:=t9 (wt:=wt) (ln:=ln) (λ p hp=>(hln p hp).2) lv (Nat.le_refl _);have hc:cK L ln m m=L.length:=by
   unfold cK;rw [cc (c:=1) λ p hp=>if_pos (decide_eq_true (by have:=(hln p hp).1;lia)),Nat.one_mul]
  have he:eK L ln m m=(L.map λ p=>2^(m-ln p)).sum:=by
   unfold eK;exact b8 λ p hp=>if_pos (decide_eq_true (by have:=(hln p hp).1;lia))
  have hsk:sK L wt ln m m=(L.map λ p=>wt p*ln p).sum:=by
   unfold sK;exact b8 λ p hp=>by rw [Nat.sub_self,Nat.sub_zero]
  have hTT:2*L.length-2≤T:=by
   rw [hc,he,Nat.pow_succ] at heq;rcases Nat.lt_or_ge T (2*L.length-2) with h|h
   ·exfalso;have h5:2^m*(T+3)≤2^m*(2*L.length):=Nat.mul_le_mul_left _ (by lia);rw [Nat.mul_add,<-Nat.mul_assoc] at h5;lia
   ·exact h
  rw [<-hcost,hws,<-hsk];exact Nat.le_trans (dN _ hTT) hsum
theorem lev_one {wt:Nat->Nat}{p:Nat}{k:Nat}{B:List Bd}(lv:Lev ([p].map (sgl wt)) k B):k=0\/B=[sgl wt p]:=by
 induction lv with
 |zero=>exact .inl rfl
 | @step k B B' _ hp hs ih=>
  right
  have:pairs B=[]:=by
   rcases ih with rfl|rfl
   ·rename_i h;cases h;rfl
   ·rfl
  rw [this] at hp;exact List.perm_singleton.mp hp
def Best (P:List Nat)(wt:Nat->Nat)(m:Nat)(ln:Nat->Nat):Prop:=
 (∀p∈P,1≤ln p/\ln p≤m)/\(∀p,p∉P->ln p=0)/\(P.map λ p=>2^(m-ln p)).sum≤2^m/\
 ∀l':Nat->Nat,(∀p∈P,1≤l' p/\l' p≤m)->(P.map λ p=>2^(m-l' p)).sum≤2^m->(P.map λ p=>wt p*ln p).sum≤(P.map λ p=>wt p*l' p).sum
theorem Best.perm {P L:List Nat}{wt:Nat->Nat}{m:Nat}{ln:Nat->Nat}(h:Best L wt m ln)(hp:L.Perm P):Best P wt m ln:=by
 obtain⟨h1,h2,h3,h4⟩:=h;refine⟨λ p hpP=>h1 p (hp.symm.subset hpP),λ p hpP=>h2 p λ z=>hpP (hp.subset z),by rw [<-cr (hp.map _)];exact h3,λ l' a b=>?_⟩;rw [<-cr (hp.map _),<-cr (hp.map _)];exact h4 l' (λ p hpL=>a p (hp.subset hpL)) (by rw [cr (hp.map _)];exact b)
theorem qT {L:List Nat}{wt:Nat->Nat}(hL:L.Nodup)(hw:∀p∈L,0<wt p){m:Nat}{B:List Bd}(lv:Lev (L.map (sgl wt)) m B)(h1:1≤L.length)(hm1:1≤m)(hm:L.length≤2^m):
  Best L wt m (occ (B.take (max 1 (2*L.length-2)))):=by
 by_cases hn:2≤L.length
 ·have e:max 1 (2*L.length-2)=2*L.length-2:=by lia
  rw [e];exact xD hL hw lv hn hm
 ·match L,h1,hn,hL,hw,lv with
  | [p],_,_,_,hw,lv=>
   rcases lev_one lv with h|rfl
   ·lia
   ·have e:∀q,occ ([sgl wt p].take (max 1 (2* [p].length-2))) q=[p].count q:=λ q=>by
     show occ [sgl wt p] q=_;rw [cJ];show [p].count q+occ [] q=_;rfl
    have ep: [p].count p=1:=by simp
    refine⟨λ q hq=>?_,λ q hq=>?_,?_,λ l' a b=>?_⟩
    ·rw [List.mem_singleton.mp hq,e,ep];exact⟨Nat.le_refl _,hm1⟩
    ·rw [e];exact List.count_eq_zero_of_not_mem hq
    ·rw [List.map_cons,List.map_nil,List.sum_cons,List.sum_nil,e,ep];have:2^(m-1)≤2^m:=Nat.pow_le_pow_right (by decide) (by lia);lia
    ·rw [List.map_cons,List.map_nil,List.map_cons,List.map_nil,List.sum_cons,List.sum_cons,e,ep];have:=Nat.mul_le_mul_left (wt p) (a p List.mem_cons_self).1;simp only [List.sum_nil];lia
  |a::b::r,_,hn,_,_,_=>exact absurd (by simp) hn
end PM
namespace D6
def xT:Option Nat->Option Nat->Option Nat
 |none,y=>y
 |some x,none=>some x
 |some x,some y=>if y<x then some y else some x
def xg:Option Nat->Option Nat->Option Nat
 |some x,some y=>some (x+y)
 |_,_=>none
def V (n:Nat):Nat->List Nat->Nat->Option Nat
 |0,cs,f=>if cs.length≤f then some 0 else none
 |_+1,[],_=>some 0
 |_+1,_::_,0=>none
 |d+1,c::cs,f+1=>xT (V n (d+1) cs f) (xg (some ((c::cs).sum)) (V n d (c::cs) (min (2*(f+1)) (n+1))))
termination_by d cs=>(d,cs.length)
def pw (d:Nat)(es:List Nat):Nat:=(es.map λ e=>2^(d-e)).sum
end D6
namespace D6
open PM
def lk:List Nat->List Nat->Nat->Nat
 |q::P,e::es,p=>if p=q then e else lk P es p
 |_,_,_=>0
theorem ft {P:List Nat}{ln:Nat->Nat}{b:Nat}(h:∀p∈P,ln p=b\/ln p=b+1):(P.map ln).sum=b*P.length+(P.map ln).count (b+1):=by
 induction P with
 |nil=>rfl
 |cons p P ih=>
  have i:=ih λ q hq=>h q (List.mem_cons_of_mem _ hq)
  rw [List.map_cons,List.sum_cons,i,List.length_cons,List.count_cons];rcases h p List.mem_cons_self with e|e
  ·rw [e,if_neg (by simp),Nat.mul_add,Nat.mul_one];lia
  ·rw [e,if_pos (by simp),Nat.mul_add,Nat.mul_one];lia
end D6
namespace SM
variable {α β κ : Type} {blt : κ -> κ -> Bool} {kf : β -> κ}
theorem stb_lift (O:Ord blt)(φ:α->β):∀{mm:List β} {Z:List α},Stb blt kf mm (Z.map φ)->∃Z',mm=Z'.map φ/\Stb blt (λ z=>kf (φ z)) Z' Z
 | [],Z,h=>by
  have e:=(stb_perm O h).length_eq;rw [List.length_map] at e;have:Z=[]:=List.length_eq_zero_iff.mp e.symm;subst this;exact⟨[],rfl,Stb.refl _⟩
 |x::mm,Z,h=>by
  have hx:=Stb.mem O h (List.mem_cons_self (a:=x) (l:=mm));obtain⟨z0,hz0,ez0⟩:=List.mem_map.mp hx;obtain⟨l1,y,l2,rfl,hy,h1⟩:=first_split (p:=λ z=>eqv blt kf (kf x) (φ z)) (ys:=Z) ⟨z0,hz0,by rw [ez0];exact eqv_self O x⟩;have e:=h (kf x);have n1:(l1.map φ).filter (eqv blt kf (kf x))=[]:=List.filter_eq_nil_iff.mpr λ u hu=>by
   obtain⟨z,hz,rfl⟩:=List.mem_map.mp hu;exact h1 z hz
  rw [List.map_append,List.map_cons,List.filter_cons_of_pos (eqv_self O x),List.filter_append,n1,List.nil_append,List.filter_cons_of_pos hy] at e;obtain⟨ex,e2⟩:=List.cons.inj e;subst ex;have ht:Stb blt kf mm ((l1++l2).map φ):=λ k=>by
   rw [List.map_append,List.filter_append];by_cases hk:eqv blt kf k (φ y)=true
   ·have z:=eqv_iff.mp hk;have:kf (φ y)=k:=O.tot _ _ z.1 z.2;subst this;rw [n1,List.nil_append];exact e2
   ·have e3:=h k;rw [List.map_append,List.map_cons,List.filter_cons_of_neg hk,List.filter_append,List.filter_cons_of_neg hk] at e3;exact e3
  obtain⟨Z',rfl,hs⟩:=stb_lift O φ ht;refine⟨y::Z',rfl,λ k=>?_⟩;have hs':=hs k;rw [List.filter_append] at hs';rw [List.filter_append];by_cases hk:eqv blt (λ z=>kf (φ z)) k y=true
  ·have z:=eqv_iff.mp hk;have ek:kf (φ y)=k:=O.tot _ _ z.1 z.2;subst ek;have n2:l1.filter (eqv blt (λ z=>kf (φ z)) (kf (φ y)))=[]:=List.filter_eq_nil_iff.mpr λ u hu=>h1 u hu
   rw [n2,List.nil_append] at hs' ⊢;rw [List.filter_cons_of_pos hk,List.filter_cons_of_pos hk,hs']
  ·rw [List.filter_cons_of_neg hk,List.filter_cons_of_neg hk,hs']
theorem stb_push {γ:Type}{kg:γ->κ}(ψ:α->γ){kf':α->κ}(hk:∀z,kf' z=kg (ψ z)){Z' Z:List α}(h:Stb blt kf' Z' Z):Stb blt kg (Z'.map ψ) (Z.map ψ):=λ k=>by
 rw [List.filter_map,List.filter_map];have e:(eqv blt kg k∘ψ)=eqv blt kf' k:=by
  funext z;show eqv blt kg k (ψ z)=eqv blt kf' k z;unfold eqv;rw [hk]
 rw [e,h k]
end SM
namespace D6
open PM SM
abbrev wI (b:Bd):Int:=((b.1:Nat):Int)
inductive LevS (sg:List Bd):Nat->List Bd->Prop
 |zero:LevS sg 0 []
 |step {k:Nat} {B B':List Bd}:LevS sg k B->Stb SG.ltI wI B' (sg++pairs B)->Sorted B'->LevS sg (k+1) B'
theorem LevS.lev {sg:List Bd}{k:Nat}{B:List Bd}(h:LevS sg k B):Lev sg k B:=by
 induction h with
 |zero=>exact .zero
 |step _ hs hso ih=>exact .step ih (stb_perm SG.ordI hs) hso
theorem nM {B:List Bd}(h:Sorted B):B.Pairwise (Le SG.ltI wI):=h.imp λ {a b} hab=>by
 show decide (((b.1:Nat):Int)<((a.1:Nat):Int))=false;exact decide_eq_false (by lia)
theorem LevS.uniq {sg:List Bd}{k:Nat}{B B':List Bd}(h:LevS sg k B)(h':LevS sg k B'):B=B':=by
 induction h generalizing B' with
 |zero=>cases h';rfl
 |step _ hs hso ih=>
  cases h' with
  |step h2 hs2 hso2=>
   have:=ih h2;subst this;exact stb_uniq SG.ordI (nM hso) (nM hso2) (hs.trans hs2.symm)
end D6
set_option maxHeartbeats 4000000
namespace QQ
open PySem PyProof.Rows
section
variable {prog : Program} {w : World} {A : Around} {E : Value -> Shared -> Prop} {s : Shared}
theorem mn {e it l:Addr}{i:Nat}{items:Array Value}{old:Value}{Q:Option Value->Shared->Prop}(hq:Hq A s.heap)
  (he:IsEnum s.heap e it i old) (hit:s.heap.IsListIter it l i) (hl:s.heap.IsList l items) (hx:items[i]?=none)
  (hQ:∀h',Heap.ExtBut it s.heap h'->Q none {s with heap:=h'}):wpAny (model prog w) A (pyNext (.ref e)) Q E s:=by
 have hT:s.TypeIs (.ref e) "enumerate":=⟨_,he,rfl⟩;unfold pyNext;refine wpAny_bind (wpAny_attempt (wpAny_callSpecial?_slot (name:=Str.ofString "__next__") hT PySem.F.slot_enumerate_next
  (wpAny_call_entry PySem.F.slot_enumerate_next hT PySem.F.entry_enumerate_next ?_ (PySem.F.args_enumerate_next_1 _))))
 show wpAny _ _ (field (.ref e) 2>>= _) _ _ _;refine wpAny_bind (wpAny_field he rfl (x:=.ref it) rfl ?_);refine wpAny_bind (jj (A:=A.in1) hq hit hl hx λ h' x he' hx'=>?_);obtain⟨o,ho,hc⟩:=hx';refine wpAny_bind (wpAny_isInstance (T:="StopIteration") (b:=true) ⟨o,ho,hc⟩ isSubtype_stop ?_);exact wpAny_pure (hQ _ he')
end
end QQ
namespace L2
open PySem PySem.Spec PyProof.Rows QQ
def Ite (K:PySem.W.Frag)(a:Addr):It:=
 ⟨λ i H=>∃xs x,SqL K H a xs/\xs[i]?=some x,λ i H v H'=>∃p x,H p=none/\v=.ref p/\H'=upd H p (.tup [.int (i:Int),x])/\∀xs,SqL K H a xs->xs[i]?=some x,λ i H=>∃xs,SqL K H a xs/\xs.length≤i⟩
theorem pp {P:Program}{w:World}{K:PySem.W.Frag}{es:List Expr}{k:Nat}{pos:Pos}(a e it:Addr)(hne:e≠it):
  Turn P w K (.Tuple es k pos) (Ite K a) [e,it] e (λ i h=>(∃old,IsEnum h e it ((i:Nat):Int) old)/\h.IsListIter it a i) where
 mem:=by simp
 obj:=λ i h st b hb=>by
  obtain⟨⟨old,he⟩,hit⟩:=st;rcases List.mem_cons.mp hb with hb|hb
  ·subst hb;exact⟨_,he,λ v z=>by
    have z':Data.fields _=Data.cell v:=z;cases z'⟩
  ·obtain rfl:=List.mem_singleton.mp hb;obtain⟨o,e',c,d⟩:=hit;exact⟨o,e',λ v z=>by rw [d] at z;cases z⟩
 keep:=λ i h h' st k=>by
  obtain⟨⟨old,he⟩,hit⟩:=st;exact⟨⟨old,k e (by simp) _ he⟩,hit.at λ o x=>k it (by simp) o x⟩
 item:=by
  intro X hP hw hK hc i pins s σ H E I hf st hg;subst hP hw hK;obtain⟨⟨old,he⟩,hit⟩:=st;obtain⟨xs,x,hq,hx⟩:=hg;obtain⟨its,rv,p,hz⟩:=I.list hq;obtain⟨u,hu,ru⟩:=rv.get hx;obtain⟨e0,e1,e2,e3,e4,e5⟩:=hf e (by simp);obtain⟨f0,f1,f2,f3,f4,f5⟩:=hf it (by simp);have elt:e<s.heap.objs.size:=Heap.lt_size he;have ilt:it<s.heap.objs.size:=by obtain⟨o,e',_⟩:=id hit;exact Heap.lt_size e'
  have hT:H s.heap.objs.size=none:=I.hok.fresh (Nat.le_refl _);refine wpAny_pyNext_enum_item he hit p.isList (x:=u) (by simpa using hu) hne λ h1 ho hit1 ht hsz kk=>?_
  refine⟨_,rfl,wpAny_letOwnedTupleGo_enum (s:={s with heap:=h1,toks:=s.toks+1}) ho λ h2 he2 hs2=>?_⟩;have kept:∀b o,b≠e->b≠it->s.heap.get? b=some o->h2.get? b=some o:=λ b o n1 n2 x=>(hs2.2 b n1).trans (kk b o n1 n2 x)
  have htup:h2.get? s.heap.objs.size=some {cls:=.type "tuple",data:=.seq #[.int i s.toks,u]}:=(hs2.2 _ (Nat.ne_of_gt elt)).trans ht;have hT2:∀b o,s.heap.get? b=some o->b≠s.heap.objs.size:=λ b o x=>Nat.ne_of_lt (Heap.lt_size x)
  have nT:∀b o,H b=some o->b≠s.heap.objs.size:=λ b o x z=>by rw [z,hT] at x;cases x
  have nE:∀b o,H b=some o->b≠e/\b≠it:=λ b o x=>⟨λ z=>(by rw [z,e0] at x;cases x),λ z=>(by rw [z,f0] at x;cases x)⟩
  have he3:IsEnum h2 e it (((i+1:Nat):Int)) u:=by
   have:(((i+1:Nat):Int))=(i:Int)+1:=by lia
   rw [this];exact he2
  have hit2:h2.IsListIter it a (i+1):=hit1.at λ o x=>(hs2.2 it hne.symm).trans x
  have I2:Inv X pins σ (upd H s.heap.objs.size (.tup [.int (i:Int),x])) {s with heap:=h2,toks:=s.toks+1}:=by
   refine I.step (g':=s.gens) (d':=s.drawn) (ch:=[e,it]) (λ b hb=>?_) (λ b o _ _ hb x _=>kept b o (λ z=>hb (by simp [z])) (λ z=>hb (by simp [z])) x)
    (λ b o _ _ hb x _=>⟨o.slots,kept b o (λ z=>hb (by simp [z])) (λ z=>hb (by simp [z])) x⟩) (λ b o _ x n=>by rw [upd_ne (hT2 b o x)];exact n)
    (λ b o hb x=>⟨o,kept b o (λ z=>hb (by simp [z])) (λ z=>hb (by simp [z])) x⟩) (λ b xs x=>by rw [upd_ne (nT b _ x)];exact x) (λ b o u x=>by rw [upd_ne (nT b _ x)];exact x)
    (λ b ps x=>⟨#[],by rw [upd_ne (nT b _ x),x];simp⟩) (λ m hm=>?_) (λ b o x=>?_) I.bare
   ·rcases List.mem_cons.mp hb with hb|hb
    ·subst hb;exact⟨e3,e1,e4,e5⟩
    ·obtain rfl:=List.mem_singleton.mp hb;exact⟨f3,f1,f4,f5⟩
   ·obtain⟨o,es',ep,ho',r⟩:=hm;exact⟨o,es',ep,kept _ o (Ne.symm e1) (Ne.symm f1) ho',r⟩
   ·by_cases hb:b=s.heap.objs.size
    ·subst hb;rw [upd_same] at x;cases x;exact⟨by show 2≤sizeLine;decide,[.int i s.toks,u],.cons ⟨_,rfl⟩ (.cons ru .nil),⟨_,htup,rfl,_,rfl⟩⟩
    ·rw [upd_ne hb] at x;refine(I.hok b o x).stay (λ c v hc' q=>?_) (λ c q=>by rw [upd_ne (nT c _ q)];exact q) λ c xs q=>by rw [upd_ne (nT c _ q)];exact q
     rcases hc' with z|z
     ·subst z;exact kept c v (nE c _ x).1 (nE c _ x).2 q
     ·exact kept c v (nE c _ z).1 (nE c _ z).2 q
  refine⟨.ref s.heap.objs.size,_,I2,rfl,⟨_,x,hT,rfl,rfl,λ ys hy=>by rw [I.list_inj hy hq];exact hx⟩,⟨⟨u,he3⟩,hit2⟩,λ b hb=>?_⟩;rcases List.mem_cons.mp hb with hb|hb
  ·subst hb;rw [upd_ne (Nat.ne_of_lt elt)];exact e0
  ·obtain rfl:=List.mem_singleton.mp hb;rw [upd_ne (Nat.ne_of_lt ilt)];exact f0
 done:=by
  intro X hP hw hK hc i pins s σ H E I hf st hg;subst hP hw hK;obtain⟨⟨old,he⟩,hit⟩:=st;obtain⟨xs,hq,hx⟩:=hg;obtain⟨its,rv,p,hz⟩:=I.list hq;obtain⟨f0,f1,f2,f3,f4,f5⟩:=hf it (by simp);have hl:=rv.length;exact mn I.hq he hit p.isList (by simp;lia) λ h' eb=>⟨rfl,I.turned (t':=s.toks) (λ b o hb e=>eb b o hb e) f0 f1 f3 f4 f5⟩
 self:=λ _ _ _ _ _ st h=>by
  obtain⟨⟨old,he⟩,hit⟩:=st;exact wpAny_pyIter_enum he h
def xh (K:PySem.W.Frag)(ta:TA):TI:=λ σ H R=>ta σ H λ vs H1=>∃l xs,vs=[.ref l]/\SqL K H1 l xs/\R (Ite K l) H1
theorem je {X:Cx}{a:Expr}{ta:TA}{p pos q:Pos}{es:List Expr}{k:Nat}(hg:Gl X "enumerate")(hm:X.mg "enumerate"=none)(ha:PA X [a] ta)(hs:starEach [a] X.env=[(false,eval a X.env)]:=by rfl):
  PI X (.Tuple es k q) (.Call (.Name "enumerate" p) [a] [] pos) (xh X.K ta):=by
 intro pins s σ H R I h;refine Call_ (ld_blt I hg hm boot_enumerate (PyProof.Rows.callWith_type1 (thn (ha pos pins s σ H _ I h) λ us s1 ⟨vs,H1,I1,r1,q1⟩=>?_) hs rfl));obtain⟨l,xs,e,hq,q⟩:=q1;subst e;cases r1 with
 |cons r rr=>
  cases rr;cases r;obtain⟨its,rv,p,hz⟩:=I1.list hq;refine call_enumerate_list p.isList λ h' he hit hsz hk=>?_
  have I2:Inv X pins σ H1 {s1 with heap:=h'}:=I1.kept (t':=s1.toks) hk;refine wpAny_pyIter_enum he ⟨s1.heap.objs.size+1,[s1.heap.objs.size+1,s1.heap.objs.size],_,_,H1,rfl,I2,pp l _ _ (Nat.succ_ne_self _),⟨⟨_,he⟩,hit⟩,λ b hb=>?_,q⟩;have hb':s1.heap.objs.size≤b:=by
   rcases List.mem_cons.mp hb with hb|hb
   ·rw [hb];exact Nat.le_succ _
   ·rw [List.mem_singleton.mp hb];exact Nat.le_refl _
  exact I1.fpOk hb' (I1.hok.fresh hb')
theorem rh {K:PySem.W.Frag}{a l:Addr}{xs:List V}{n:Nat}{g:TG}{tt:TT}{te:TE}{R:Hp->Prop}{H1:Hp}(Pv:Nat->List V->Hp->Prop)(h0:Pv 0 [] (upd H1 l (.lst [])))(hl:∀i ys H,i≤xs.length->Pv i ys H->SqL K H a xs)
  (hs:∀i x ys σ H p,xs[i]?=some x->Pv i ys H->σ.length=n->H p=none->g (.ref p) σ (upd H p (.tup [.int ((i:Nat):Int),x])) λ σ3 H3=>tt σ3 H3 λ c H5=>if c=true then te σ3 H5 λ y H4=>H4 l=some (.lst ys)/\ys.length<sizeLine/\σ3.length=n/\Pv (i+1) (ys++[y]) (upd H4 l (.lst (ys++[y]))) else σ3.length=n/\Pv (i+1) ys H5)
  (hd:∀ys H,Pv xs.length ys H->R H) (mg:∀x σ H (A B:St->Hp->Prop),(∀σ' H',A σ' H'->B σ' H')->g x σ H A->g x σ H B) (mtt:∀σ H (A B:Bool->Hp->Prop),(∀v H',A v H'->B v H')->tt σ H A->tt σ H B) (mt:∀σ H (A B:VK),(∀v H',A v H'->B v H')->te σ H A->te σ H B):
  ∃W:Nat->Nat->List V->St->Hp->Prop,(∃m,W 0 m [] (List.replicate n none) (upd H1 l (.lst [])))/\∀i m ys σ' H',W i m ys σ' H'->
   ((Ite K a).stop i H'/\R H')\/((Ite K a).go i H'/\∀x H2,(Ite K a).yld i H' x H2->g x σ' H2 λ σ3 H3=>tt σ3 H3 λ c H5=>if c=true then te σ3 H5 λ y H4=>
    H4 l=some (.lst ys)/\ys.length<sizeLine/\∃m',m'<m/\W (i+1) m' (ys++[y]) σ3 (upd H4 l (.lst (ys++[y]))) else∃m',m'<m/\W (i+1) m' ys σ3 H5):=by
 refine⟨λ i m ys σ H=>m=xs.length-i/\i≤xs.length/\σ.length=n/\Pv i ys H,⟨xs.length,by simp,Nat.zero_le _,List.length_replicate,h0⟩,?_⟩;rintro i m ys σ H ⟨rfl,hi,hn,p⟩;have q:=hl i ys H hi p;by_cases hlt:i<xs.length
 ·refine .inr ⟨⟨xs,xs[i],q,by simp [hlt]⟩,λ x H' y=>?_⟩;obtain⟨p1,x1,hp1,e1,e2,y⟩:=y;subst e1 e2;refine mg _ _ _ _ _ (λ σ3 H3 z=>mtt _ _ _ _ (λ c H5 z=>?_) z) (hs i x1 ys σ _ p1 (y xs q) p hn hp1);cases c with
  |true=>
   rw [if_pos rfl] at z ⊢;exact mt _ _ _ _ (λ y H4 ⟨z1,z2,z3,z4⟩=>⟨z1,z2,xs.length-(i+1),by lia,rfl,hlt,z3,z4⟩) z
  |false=>
   rw [if_neg Bool.false_ne_true] at z ⊢;exact⟨xs.length-(i+1),by lia,rfl,hlt,z.1,z.2⟩
 ·have e:i=xs.length:=by lia
  subst e;exact .inl ⟨⟨xs,q,Nat.le_refl _⟩,hd ys H p⟩
end L2
set_option maxHeartbeats 4000000
namespace K19.S
open PySem L2 QQ PM D6
seal PE PA PS PSs PT PW PG PI
section
variable {P : Program} {w : World} {K : PySem.W.Frag} {mg : Str -> Option Value} {base : Heap}
def qf:Sp:=λ vs H Q _=>∃(a:Addr) (B:List Nat) (hi:Nat),vs=[.ref a,vN hi]/\H a=some (.lst (B.map vN))/\(∀b∈B,b≤hi)/\1≤B.length/\B.length≤300/\(∃b∈B,0<b)/\Q (.bl true) H
theorem re:FnScope ["thing","most"] ["thing","most"] (defScope c9):=⟨rfl,rfl,rfl,by decide+kernel,rfl,by decide+kernel,by decide+kernel⟩
theorem vC (R:List Nat):R.map vN=(R.map λ b=>((b:Nat):Int)).map V.int:=by rw [List.map_map];rfl
theorem ok_things {f fA fW:Addr}{fd fdA fdW:FuncData}(F:Fn K mg "are_of_things" c9 ["thing","most"] f fd)(AW:Fn K mg "are_whole" bA ["thing","least","most"] fA fdA)(W:Fn K mg "is_whole" bK ["thing","least","most"] fW fdW)(T:Txt K mg):FnOk P w K mg base CX0 31 f fd ["thing","most"] qf:=by
 have GA:=dm (P:=P) (w:=w) (base:=base) AW W T;obtain⟨tt,ht⟩:=T.things;refine F.F.ok re (λ vs H Q E h=>?_) (λ cdv A outer s H vs Q E hr h=>?_)
 ·obtain⟨a,B,hi,rfl,_⟩:=h;rfl
 ·obtain⟨a,B,hi,rfl,hB,hb,h1,h3,⟨b0,hb0,hp0⟩,k⟩:=h;have hr2:Room 2 _:=hr.mono (by decide);have hn:=hr.hd (by decide);refine⟨_,ac (aM (cj (cf (am GA hr2 (by rfl) AW.m AW.F.kp AW.b .nil ap (aa (pv 0) (aa ae (aa (pv 1) ad)))))) (ag (az dQ)) aB)
   (ag (az (fk (kE kG kG ae (aq ao (by rfl) T.len PySem.boot_len (aa (pv 0) ad)) (aK (v:=.int 300) (by rfl) ht ⟨tt,rfl⟩))
    (iZ (dJ cz (aq (iJ hn) (by rfl) T.max PyProof.Rows.boot_max (aa (pv 0) ad)) ae (ax _)))))),?_⟩
  refine⟨_,rfl,_,rfl,a,B,0,_,rfl,hB,λ b z=>by have:=hb b z;lia,_,rfl,bL ?_⟩;refine⟨_,rfl,a,_,rfl,.inl (SqL.of hB),_,_,rfl,rfl,_,rfl,aJ (λ _=>?_) (λ h=>absurd (decide_eq_true (by rw [List.length_map];lia)) h)⟩;refine⟨_,_,rfl,rfl,_,rfl,aJ (λ _=>?_) (λ h=>absurd (decide_eq_true (by rw [List.length_map];lia)) h)⟩;refine⟨_,rfl,a,B.map (λ b=>((b:Nat):Int)),rfl,by rw [<-vC];exact SqL.of hB,by rw [List.length_map];lia,λ n hn hmax=>?_⟩;have:((b0:Nat):Int)≤n:=hmax _ (List.mem_map_of_mem hb0);refine⟨_,_,rfl,rfl,?_⟩;dsimp only;rw [show decide (0<n)=true from decide_eq_true (by lia)];exact k
def vp:Sp:=λ vs H Q _=>∃(a:Addr) (B:List Nat) (m:Nat),vs=[.ref a,vN m]/\H a=some (.lst (B.map vN))/\(∀b∈B,b≤1000000)/\1≤B.length/\B.length≤300/\(∃b∈B,0<b)/\1≤m/\m≤12/\(B.filter (λ b=>decide (0<b))).length≤2^m/\∀H',Same H H'->Q .non H'
theorem vx:FnScope ["counts","most"] ["counts","most"] (defScope kC):=⟨rfl,rfl,rfl,by decide+kernel,rfl,by decide+kernel,by decide+kernel⟩
theorem ndC:(["count"]:List Str).Nodup:=by decide+kernel
theorem tR {f fT fA fW:Addr}{fd fdT fdA fdW:FuncData}(F:Fn K mg "need_shares" kC ["counts","most"] f fd)(Th:Fn K mg "are_of_things" c9 ["thing","most"] fT fdT)(AW:Fn K mg "are_whole" bA ["thing","least","most"] fA fdA)(W:Fn K mg "is_whole" bK ["thing","least","most"] fW fdW)(T:Txt K mg):FnOk P w K mg base CX0 32 f fd ["counts","most"] vp:=by
 have GT:=ok_things (P:=P) (w:=w) (base:=base) Th AW W T;have GW:=dq (P:=P) (w:=w) (base:=base) W T;obtain⟨tc,hc⟩:=T.count;obtain⟨tm,hm⟩:=T.mlen;refine F.F.ok vx (λ vs H Q E h=>?_) (λ cdv A outer s H vs Q E hr h=>?_)
 ·obtain⟨a,B,m,rfl,_⟩:=h;rfl
 ·obtain⟨a,B,m,rfl,hB,hb,h1,h3,hpos,m1,m2,hfit,k⟩:=h;have hr1:Room 1 _:=hr.mono (by decide);refine⟨_,ac (aM (cj (cf (am GT hr (by rfl) Th.m Th.F.kp Th.b .nil ap (aa (pv 0) (aa (aK (v:=.int 1000000) (by rfl) hc ⟨tc,rfl⟩) ad))))) (ag aT) aB)
   (ac (aM (cj (cf (am GW hr1 (by rfl) W.m W.F.kp W.b .nil ap (aa (pv 1) (aa ae (aa (aK (v:=.int 12) (by rfl) hm ⟨tm,rfl⟩) ad)))))) (ag aT) aB)
   (ag (aM (ar cz (aq ao (by rfl) T.len PySem.boot_len (aa (gI (N:=["count"]) (g:=bZ 0) (tt:=jF (tOp (rI0 λ i j=>.bl (decide (j<i))) (dM 0) (tC (.int 0)))) (te:=dM 0) rfl rfl (by decide+kernel) (by decide+kernel) (by decide+kernel) (bf (pv 0))
    (λ fp s H=>aF (i:=0) ndC rfl (Or.inl rfl)) (λ fp s H=>ar cz (pv 0) ae (ax _)) (λ fp s H=>pv 0)) ad)) (ai cQ ae (pv 1)) (ax _)) (ag aT) aB))),?_⟩
  refine seq_g λ R1 g1=>?_
  refine⟨_,rfl,a,B,1000000,rfl,hB,hb,h1,h3,hpos,_,rfl,bL (g1 _ _ ?_)⟩;clear g1;refine seq_g λ R1 g1=>?_
  have e1:(decide ((1:Int)≤((m:Nat):Int))&&decide (((m:Nat):Int)≤12))=true:=by
   rw [decide_eq_true (show(1:Int)≤((m:Nat):Int) by lia),decide_eq_true (show((m:Nat):Int)≤12 by lia)];rfl
  refine⟨_,rfl,((m:Nat):Int),1,12,rfl,?_⟩;rw [e1];refine⟨_,rfl,bL (g1 _ _ ?_)⟩;clear g1;refine⟨_,rfl,a,rfl,⟨_,SqL.of hB⟩,λ l nl=>?_⟩;refine kQ (K:=K) (a:=a) (l:=l) (xs:=B.map vN) (n:=1) (g:=bZ 0) (tt:=jF (tOp (rI0 λ i j=>.bl (decide (j<i))) (dM 0) (tC (.int 0)))) (te:=dM 0)
   (λ i ys H'=>ys=((B.take i).filter (λ b=>decide (0<b))).map vN/\H' l=some (.lst ys)/\Same H H') ⟨rfl,upd_same,ak nl⟩ (λ i ys H' _ ⟨_,_,sm⟩=>SqL.of (sm _ _ hB)) ?_ ?_ ?_ ?_ ?_
  ·rintro i x ys σ H' hx ⟨rfl,hl,sm⟩ hσ;obtain⟨b,hb1,rfl⟩:=cm hx;have hil:i<B.length:=(List.getElem?_eq_some_iff.mp hb1).1;obtain⟨u0,rfl⟩:∃u0,σ=[u0]:=match σ,hσ with| [u0],_=>⟨u0,rfl⟩
   have hlen:((B.take i).filter (λ b=>decide (0<b))).length≤300:=Nat.le_trans (List.length_filter_le _ _) (by rw [List.length_take];lia);refine⟨_,rfl,_,_,rfl,rfl,_,rfl,?_⟩;rw [dv hb1,List.filter_append];dsimp only;by_cases h0:0<b
   ·rw [if_pos (decide_eq_true (show(0:Int)<((b:Nat):Int) by lia))];refine⟨_,rfl,hl,aU (by rw [List.length_map];lia),rfl,?_,upd_same,λ c o e=>?_⟩
    ·rw [List.filter_cons_of_pos (by simpa using h0),List.map_append];rfl
    ·rw [upd_ne (af e nl)];exact sm _ _ e
   ·rw [if_neg (λ z=>absurd (of_decide_eq_true z) (by lia))];refine⟨rfl,?_,?_,sm⟩
    ·rw [List.filter_cons_of_neg (by simpa using h0)];simp
    ·exact hl
  ·rintro ys H' ⟨rfl,hl,sm⟩;rw [List.length_map,List.take_length] at hl;refine⟨l,_,rfl,.inl (SqL.of hl),_,rfl,_,_,rfl,rfl,⟨by lia,by lia,by decide⟩,_,_,rfl,rfl,_,rfl,aJ (λ h=>?_) (λ _=>k _ sm)⟩;exfalso;have:=of_decide_eq_true h;rw [List.length_map,Int.toNat_natCast] at this;have e2:(1:Int)*2^m=((2^m:Nat):Int):=by rw [Int.one_mul];simp
   rw [e2] at this;lia
  ·exact λ x σ H A B h z=>h _ _ z
  ·exact λ σ H A B h ⟨v,e1,i,j,e2,e3,c,e4,z⟩=>⟨v,e1,i,j,e2,e3,c,e4,h _ _ z⟩
  ·exact λ σ H A B h ⟨v,e1,z⟩=>⟨v,e1,h _ _ z⟩
def Bun (H:Hp)(A:List Addr)(t:Addr)(b:Bd):Prop:=∃l,t∉A/\l∉A/\H t=some (.tup [vN b.1,.ref l])/\H l=some (.lst (b.2.map vN))
def gs:Sp:=λ vs H Q _=>∃(t l:Addr) (n:Nat),vs=[.ref t]/\H t=some (.tup [vN n,.ref l])/\Q (vN n) H
theorem rW:FnScope ["bundle"] ["bundle"] (defScope dz):=⟨rfl,rfl,rfl,by decide+kernel,rfl,by decide+kernel,by decide+kernel⟩
theorem hI {f:Addr}{fd:FuncData}(F:Fn K mg "weight_of" dz ["bundle"] f fd):FnOk P w K mg base CX0 1 f fd ["bundle"] gs:=by
 refine F.F.ok rW (λ vs H Q E h=>?_) (λ cdv A outer s H vs Q E hr h=>?_)
 ·obtain⟨t,l,n,rfl,_⟩:=h;rfl
 ·obtain⟨t,l,n,rfl,ht,k⟩:=h;refine⟨_,ag (az (aL a9 (pv 0) ae (λ _ _=>rfl))),?_⟩;exact⟨_,rfl,t,_,_,_,rfl,rfl,SqT.of ht,aw (j:=0) rfl,k⟩
end
inductive Buns (H:Hp) (A:List Addr):List Addr->List Bd->Prop
 |nil:Buns H A [] []
 |cons {t:Addr} {b:Bd} {ts:List Addr} {bs:List Bd}:Bun H A t b->Buns H A ts bs->Buns H A (t::ts) (b::bs)
theorem Buns.keepA {H H':Hp}{A:List Addr}{ts:List Addr}{bs:List Bd}(h:Buns H A ts bs)(s:∀c o,c∉A->H c=some o->H' c=some o):Buns H' A ts bs:=by
 induction h with
 |nil=>exact .nil
 |cons a _ ih=>
  obtain⟨l,n1,n2,h1,h2⟩:=a;exact .cons ⟨l,n1,n2,s _ _ n1 h1,s _ _ n2 h2⟩ ih
theorem Buns.keep {H H':Hp}{A:List Addr}{ts:List Addr}{bs:List Bd}(h:Buns H A ts bs)(s:Same H H'):Buns H' A ts bs:=h.keepA λ c o _ e=>s c o e
theorem Buns.sub {H:Hp}{A A':List Addr}{ts:List Addr}{bs:List Bd}(h:Buns H A ts bs)(s:∀a∈A',a∈A):Buns H A' ts bs:=by
 induction h with
 |nil=>exact .nil
 |cons a _ ih=>
  obtain⟨l,n1,n2,h1,h2⟩:=a;exact .cons ⟨l,λ z=>n1 (s _ z),λ z=>n2 (s _ z),h1,h2⟩ ih
theorem Buns.app {H:Hp}{A:List Addr}{ts us:List Addr}{bs cs:List Bd}(h:Buns H A ts bs)(g:Buns H A us cs):Buns H A (ts++us) (bs++cs):=by
 induction h with
 |nil=>exact g
 |cons a _ ih=>exact .cons a ih
theorem Buns.len {H:Hp}{A:List Addr}{ts:List Addr}{bs:List Bd}(h:Buns H A ts bs):ts.length=bs.length:=by
 induction h with
 |nil=>rfl
 |cons a _ ih=>rw [List.length_cons,List.length_cons,ih]
theorem Buns.at {H:Hp}{A:List Addr}{ts:List Addr}{bs:List Bd}(h:Buns H A ts bs):∀{i:Nat} {b:Bd},bs[i]?=some b->∃t,ts[i]?=some t/\Bun H A t b:=by
 induction h with
 |nil=>intro i b h;simp at h
 |cons a _ ih=>
  intro i b h;cases i with
  |zero=>simp at h;subst h;exact⟨_,rfl,a⟩
  |succ i=>simp at h;simpa using ih h
theorem qz:∀(n:Nat) {B:List Bd} {i:Nat} {a b:Bd},B.length≤n->B[2*i]?=some a->B[2*i+1]?=some b->(pairs B)[i]?=some (a.1+b.1,a.2++b.2):=by
 intro n
 induction n with
 |zero=>intro B i a b hB h1 _;have:B=[]:=List.length_eq_zero_iff.mp (by lia);subst this;simp at h1
 |succ n ih=>
  intro B i a b hB h1 h2
  match B,hB,h1,h2 with
  | [],_,h1,_=>simp at h1
  | [x],_,h1,h2=>simp at h2
  |x::y::r,hB,h1,h2=>
   cases i with
   |zero=>simp at h1 h2;subst h1 h2;rfl
   |succ i=>
    rw [show 2*(i+1)=2*i+1+1 by lia] at h1 h2;simp at h1 h2;show(pairs r)[i]?=_;exact ih (by simp at hB;lia) h1 h2
theorem eQ {ts:List Addr}{i:Nat}{t:Addr}(h:ts[i]?=some t):(ts.map V.ref)[i]?=some (.ref t):=by rw [List.getElem?_map,h];rfl
section
variable {P : Program} {w : World} {K : PySem.W.Frag} {mg : Str -> Option Value} {base : Heap}
theorem vg (m:Nat)(h:m≤2000):Builtin.Range.small 1 ((m:Nat):Int) 2=true/\Builtin.Range.rangeSize 1 ((m:Nat):Int) 2=((m/2:Nat):Int):=by
 have e:Builtin.Range.rangeSize 1 ((m:Nat):Int) 2=((m/2:Nat):Int):=by
  unfold Builtin.Range.rangeSize;rw [if_pos (by decide)]
  split<;>lia
 refine⟨?_,e⟩;have f:∀i:Int,0≤i->i<100000->Builtin.Range.rangeFitsLong i=true:=λ i h0 h1=>by
  unfold Builtin.Range.rangeFitsLong;rw [decide_eq_true (by lia),decide_eq_true (by lia)];rfl
 unfold Builtin.Range.small;rw [e]
 try dsimp only
 rw [f 1 (by decide) (by decide),f ((m:Nat):Int) (by lia) (by lia),f 2 (by decide) (by decide),f ((m/2:Nat):Int) (by lia) (by lia),if_pos (by decide),f (((m:Nat):Int)+(2-1)) (by lia) (by lia)];simp
def sE:Sp:=λ vs H Q _=>∃(p av:Addr) (ts:List Addr) (B:List Bd),vs=[.ref p]/\H p=some (.lst (ts.map V.ref))/\(∃o,H av=some o)/\Buns H [av] ts B/\B.length≤1000/\(∀b∈B,b.2.length≤8000000)/\
 ∀(l:Addr) (us:List Addr) (H':Hp),Same H H'->H l=none->H' l=some (.lst (us.map V.ref))->Buns H' [av] us (pairs B)->Q (.ref l) H'
abbrev vG:List Str:=["bundles","pairs","place","first","second"]
theorem scPairs:FnScope vG ["bundles"] (defScope fj):=⟨rfl,rfl,rfl,by decide+kernel,rfl,by decide+kernel,by decide+kernel⟩
theorem qU {f:Addr}{fd:FuncData}(F:Fn K mg "in_pairs" fj ["bundles"] f fd)(T:Txt K mg):FnOk P w K mg base CX0 1 f fd ["bundles"] sE:=by
 refine F.F.ok scPairs (λ vs H Q E h=>?_) (λ cdv A outer s H vs Q E hr h=>?_)
 ·obtain⟨p,av,ts,B,rfl,_⟩:=h;rfl
 ·obtain⟨p,av,ts,B,rfl,hp,⟨oav,hav⟩,hB,hBl,hsm,k⟩:=h;refine⟨_,ac (aj (i:=1) scPairs.nd rfl (Or.inl rfl) (aV ad))
   (ac (aS PassesOwn.never rfl (iQ (by rfl) T.range (aa ae (aa (aq ao (by rfl) T.len PySem.boot_len (aa (pv 0) ad)) (aa ae ad)))) (aF (i:=2) scPairs.nd rfl (Or.inl rfl))
    (ac (aj (i:=3) scPairs.nd rfl (Or.inl rfl) (aL aN (pv 0) (ai aY (pv 2) ae) (λ _ _=>rfl)))
    (ac (aj (i:=4) scPairs.nd rfl (Or.inl rfl) (aL aN (pv 0) (pv 2) (λ _ _=>rfl)))
    (ag (aD (b7 PySem.F.plainAttrs_list PySem.F.slot_list_append PySem.F.type_list_append aO (pv 1) (aa (bB (aa (ai aA (aL a9 (pv 3) ae (λ _ _=>rfl)) (aL a9 (pv 4) ae (λ _ _=>rfl)))
     (aa (ai fz (aL a9 (pv 3) ae (λ _ _=>rfl)) (aL a9 (pv 4) ae (λ _ _=>rfl))) ad))) ad)))))))
   (ag (az (pv 1)))),?_⟩
  have htl:=hB.len;refine seq_g λ R1 g1=>?_
  refine⟨by decide,λ l nl=>g1 _ _ ?_⟩;clear g1;have s0:=ak (o:=.lst []) nl;have hs2:=vg ts.length (by lia);refine seq_g λ R1 g1=>?_
  refine⟨_,rfl,p,_,rfl,.inl (SqL.of (s0 _ _ hp)),1,_,2,ts.length/2,rfl,by decide,by rw [List.length_map];exact hs2.1,by rw [List.length_map];exact hs2.2,PyProof.noPylong_small (by decide),gj (D:=⟨_,_,λ _ _=>False,λ _ _=>False⟩) (lo:=1) (c:=2) (n:=ts.length/2)
   (λ i σ H2=>∃(v2 v3 v4:Option V) (us:List Addr),σ=[some (.ref p),some (.ref l),v2,v3,v4]/\H2 l=some (.lst (us.map V.ref))/\Buns H2 [l,av] us ((pairs B).take i)/\Same H H2) ⟨none,none,none,[],rfl,upd_same,.nil,s0⟩ ?_ ?_⟩
  ·clear g1;rintro i σ H2 hi ⟨v2,v3,v4,us,rfl,h2l,hus,sm⟩;have l0:2*i<B.length:=by lia
   have l1:2*i+1<B.length:=by lia
   have g0:B[2*i]?=some B[2*i]:=List.getElem?_eq_getElem l0;have g1:B[2*i+1]?=some B[2*i+1]:=List.getElem?_eq_getElem l1;have z0:=hsm _ (List.getElem_mem l0);have z1:=hsm _ (List.getElem_mem l1);have hpa:=qz _ (Nat.le_refl _) g0 g1;obtain⟨t0,ht0,la,_,_,ha1,ha2⟩:=(hB.keep sm).at g0;obtain⟨t1,ht1,lb,_,_,hb1,hb2⟩:=(hB.keep sm).at g1;generalize B[2*i]=ba at*;generalize B[2*i+1]=bb at*;have e1:(1:Int)+((i:Nat):Int)*2=((2*i+1:Nat):Int):=by lia
   have e2:((2*i+1:Nat):Int)-1=((2*i:Nat):Int):=by lia
   have hp2:=sm _ _ hp;rw [e1];refine seq_g λ R2 g2=>?_
   refine⟨_,rfl,_,rfl,_,_,rfl,rfl,?_⟩
   try dsimp only
   rw [e2];refine⟨p,_,_,_,rfl,rfl,SqL.of hp2,aw (eQ ht0),g2 _ _ ?_⟩;clear g2;refine seq_g λ R2 g2=>?_
   refine⟨_,rfl,_,rfl,p,_,_,_,rfl,rfl,SqL.of hp2,aw (eQ ht1),g2 _ _ ?_⟩;clear g2;have hul:=hus.len;rw [List.length_take] at hul;refine⟨_,rfl,.inl ⟨rfl,_,SqL.of h2l⟩,_,rfl,t0,_,_,_,rfl,rfl,SqT.of ha1,aw (j:=0) rfl,_,rfl,t1,_,_,_,rfl,rfl,SqT.of hb1,aw (j:=0) rfl,_,_,rfl,rfl,
    _,rfl,t0,_,_,_,rfl,rfl,SqT.of ha1,aw (j:=1) rfl,_,rfl,t1,_,_,_,rfl,rfl,SqT.of hb1,aw (j:=1) rfl,la,lb,_,_,rfl,rfl,ha2,hb2,(by rw [List.length_map,List.length_map,sizeLine_eq];lia),λ q nq=>?_⟩
   have e3:V.int (((ba.1:Nat):Int)+((bb.1:Nat):Int))=vN (ba.1+bb.1):=congrArg V.int (by lia);have s3:=ak (o:=.lst (ba.2.map vN++bb.2.map vN)) nq;have h3q:(upd H2 q (.lst (ba.2.map vN++bb.2.map vN))) q=some (.lst ((ba.2++bb.2).map vN)):=by rw [upd_same,List.map_append]
   have h3l:=s3 _ _ h2l;generalize upd H2 q (.lst (ba.2.map vN++bb.2.map vN))=H3 at*;refine⟨(by show 2≤sizeLine;decide),λ t nt=>?_⟩
   try dsimp only
   rw [e3];have s4:=ak (o:=.tup [vN (ba.1+bb.1),V.ref q]) nt;have h4t:(upd H3 t (.tup [vN (ba.1+bb.1),V.ref q])) t=some (.tup [vN (ba.1+bb.1),V.ref q]):=upd_same;have h4l:=s4 _ _ h3l;have h4q:=s4 _ _ h3q;have nql:q≠l:=λ z=>by rw [z,h2l] at nq;cases nq
   generalize upd H3 t (.tup [vN (ba.1+bb.1),V.ref q])=H4 at*;have sm4:Same H2 H4:=s3.trans s4;refine⟨l,_,_,rfl,rfl,h4l,aU (by rw [List.length_map];lia),some (vN (2*i+1)),some (.ref t0),some (.ref t1),us++[t],rfl,?_,?_,λ c o e=>?_⟩
   ·rw [upd_same,List.map_append];rfl
   ·rw [List.take_add_one,hpa];have kk:∀c o,c∉ [l,av]->H4 c=some o->(upd H4 l (.lst (us.map V.ref++[V.ref t]))) c=some o:=λ c o n e=>by rw [upd_ne (λ z=>n (by simp [z]))];exact e
    have h2av:=sm _ _ hav;have ntl:t∉ [l,av]:=λ z=>by
     simp only [List.mem_cons,List.not_mem_nil,or_false] at z;rcases z with rfl|rfl
     ·rw [h3l] at nt;cases nt
     ·rw [s3 _ _ h2av] at nt;cases nt
    have nqa:q∉ [l,av]:=λ z=>by
     simp only [List.mem_cons,List.not_mem_nil,or_false] at z;rcases z with rfl|rfl
     ·exact nql rfl
     ·rw [h2av] at nq;cases nq
    exact(hus.keepA λ c o n e=>kk _ _ n (sm4 _ _ e)).app (.cons ⟨q,ntl,nqa,kk _ _ ntl h4t,kk _ _ nqa h4q⟩ .nil)
   ·rw [upd_ne (af e nl)];exact sm4 _ _ (sm _ _ e)
  ·rintro σ H2 ⟨v2,v3,v4,us,rfl,h2l,hus,sm⟩;rw [List.take_of_length_le (by rw [(cG _ (B:=B) (Nat.le_refl _)).1];lia)] at hus;exact g1 _ _ ⟨_,rfl,k l us H2 sm nl h2l (hus.sub λ a h=>by simp at h;simp [h])⟩
end
theorem Buns.zip {H:Hp}{A:List Addr}{ts:List Addr}{bs:List Bd}(h:Buns H A ts bs):∀z∈ts.zip bs,Bun H A z.1 z.2:=by
 induction h with
 |nil=>intro z hz;simp at hz
 |cons a _ ih=>
  intro z hz;rw [List.zip_cons_cons] at hz;rcases List.mem_cons.mp hz with rfl|hz
  ·exact a
  ·exact ih z hz
theorem jq:∀(as:List Addr) (bs:List Bd),(bs.map (λ b=>((b.1:Nat):Int))).zip (as.map V.ref)=(as.zip bs).map (λ z:Addr×Bd=>(((z.2.1:Nat):Int),V.ref z.1))
 | [],bs=>by simp
 |a::as,[]=>by simp
 |a::as,b::bs=>by
  have:=jq as bs;simp only [List.map_cons,List.zip_cons_cons,this]
theorem Buns.take {H:Hp}{A:List Addr}{ts:List Addr}{bs:List Bd}(h:Buns H A ts bs):∀n,Buns H A (ts.take n) (bs.take n):=by
 induction h with
 |nil=>intro n;rw [List.take_nil,List.take_nil];exact .nil
 |cons a _ ih=>
  intro n;cases n with
  |zero=>exact .nil
  |succ n=>exact .cons a (ih n)
theorem i7 {H:Hp}{A:List Addr}:∀{Z:List (Addr×Bd)},(∀z∈Z,Bun H A z.1 z.2)->Buns H A (Z.map (·.1)) (Z.map (·.2))
 | [],_=>.nil
 |z::Z,h=>.cons (h z List.mem_cons_self) (i7 λ y hy=>h y (List.mem_cons_of_mem _ hy))
theorem qI {L:List Nat}{wt:Nat->Nat}{k:Nat}{B:List Bd}(lv:Lev (L.map (sgl wt)) k B):(∀b∈B,b.2.length≤2^k)/\B.length≤2*L.length:=by
 have ps:∀(n:Nat) (q:Nat) (B:List Bd),B.length≤n->(∀b∈B,b.2.length≤q)->∀b∈pairs B,b.2.length≤2*q:=by
  intro n
  induction n with
  |zero=>intro q B hB _ b hb;have:B=[]:=List.length_eq_zero_iff.mp (by lia);subst this;simp [pairs] at hb
  |succ n ih=>
   intro q B hB h b hb
   match B,hB,h,hb with
   | [],_,_,hb=>simp [pairs] at hb
   | [x],_,_,hb=>simp [pairs] at hb
   |x::y::r,hB,h,hb=>
    rcases List.mem_cons.mp hb with rfl|hb
    ·have h1:=h x List.mem_cons_self;have h2:=h y (List.mem_cons_of_mem _ List.mem_cons_self);show(x.2++y.2).length≤_;rw [List.length_append];lia
    ·exact ih q r (by simp at hB;lia) (λ b hb=>h b (List.mem_cons_of_mem _ (List.mem_cons_of_mem _ hb))) b hb
 induction lv with
 |zero=>exact⟨λ b hb=>by simp at hb,Nat.zero_le _⟩
 | @step k B B' _ hp hs ih=>
  have hpl:=(cG _ (B:=B) (Nat.le_refl _)).1;have hl:=hp.length_eq;rw [List.length_append,List.length_map,hpl] at hl;refine⟨λ b hb=>?_,by have:=ih.2;lia⟩;have h1:1≤2^(k+1):=Nat.one_le_two_pow;rcases List.mem_append.mp (hp.subset hb) with hb|hb
  ·obtain⟨p,_,rfl⟩:=List.mem_map.mp hb;exact h1
  ·have:=ps _ _ B (Nat.le_refl _) ih.1 b hb;rw [Nat.pow_succ];lia
section
variable {P : Program} {w : World} {K : PySem.W.Frag} {mg : Str -> Option Value} {base : Heap}
def ur:Sp:=λ vs H Q _=>∃(p av:Addr) (ts:List Addr) (L:List Nat) (wt:Nat->Nat) (m:Nat),vs=[.ref p,vN m]/\H p=some (.lst (ts.map V.ref))/\(∃o,H av=some o)/\Buns H [av] ts (L.map (sgl wt))/\Sorted (L.map (sgl wt))/\1≤L.length/\L.length≤300/\1≤m/\m≤12/\
 ∀(l:Addr) (us:List Addr) (B:List Bd) (H':Hp),Same H H'->H l=none->H' l=some (.lst (us.map V.ref))->Buns H' [av] us (B.take (max 1 (2*L.length-2)))->LevS (L.map (sgl wt)) m B->Q (.ref l) H'
abbrev u6:List Str:=["singles","most","bundles","step"]
theorem scLight:FnScope u6 ["singles","most"] (defScope gw):=⟨rfl,rfl,rfl,by decide+kernel,rfl,by decide+kernel,by decide+kernel⟩
theorem rG {f fP fW:Addr}{fd fdP fdW:FuncData}(F:Fn K mg "lightest_bundles" gw ["singles","most"] f fd)(Pa:Fn K mg "in_pairs" fj ["bundles"] fP fdP)(We:Fn K mg "weight_of" dz ["bundle"] fW fdW)(T:Txt K mg):FnOk P w K mg base CX0 31 f fd ["singles","most"] ur:=by
 have GP:=qU (P:=P) (w:=w) (base:=base) Pa T;have GW:=hI (P:=P) (w:=w) (base:=base) We;refine F.F.ok scLight (λ vs H Q E h=>?_) (λ cdv A outer s H vs Q E hr h=>?_)
 ·obtain⟨p,av,ts,L,wt,m,rfl,_⟩:=h;rfl
 ·obtain⟨p,av,ts,L,wt,m,rfl,hp,⟨oav,hav⟩,hB,hso,n1,n2,m1,m2,k⟩:=h;have hr1:Room 1 _:=hr.mono (by decide);have hr3:Room 3 _:=hr.mono (by decide);have hn:=hr.hd (by decide);refine⟨_,ac (aj (i:=2) scLight.nd rfl (Or.inl rfl) (bj aZ (by rfl) T.list PyProof.Rows.boot_list (aa (pv 0) ad)))
   (ac (aS PassesOwn.never rfl (bw (by rfl) T.range (aa (ai aY (pv 1) ae) ad)) (aF (i:=3) scLight.nd rfl (Or.inl rfl))
    (ag (aj (i:=2) scLight.nd rfl (Or.inl rfl) (iq (sp:=gs) GW hr3 We.b (by rfl) T.sort (aK (v:=.ref fW) (by rfl) We.m rfl) (aa (ai fz (pv 0) (am GP hr1 (by rfl) Pa.m Pa.F.kp Pa.b .nil ap (aa (pv 2) ad))) ad)))))
   (ag (az (cT fU (pv 2) gh (cN (aq (io hn) (by rfl) T.max PyProof.Rows.boot_max (aa ae (aa (ai aY (ai cy ae (aq ao (by rfl) T.len PySem.boot_len (aa (pv 0) ad))) ae) ad)))))))),?_⟩
  have htl:=hB.len;rw [List.length_map] at htl;refine seq_g λ R1 g1=>?_
  refine⟨_,rfl,p,_,rfl,.inl (SqL.of hp),λ l0 nl0=>g1 _ _ ?_⟩;clear g1;have s0:=ak (o:=.lst (ts.map V.ref)) nl0;have lv1:LevS (L.map (sgl wt)) 1 (L.map (sgl wt)):=.step .zero (by rw [show pairs ([]:List Bd)=[] from rfl,List.append_nil];exact SM.Stb.refl _) hso;have e1:((m:Nat):Int)-1=((m-1:Nat):Int):=by lia
  refine seq_g λ R1 g1=>?_
  refine⟨_,rfl,_,_,rfl,rfl,?_⟩
  try dsimp only
  rw [e1];refine⟨((m-1:Nat):Int),rfl,by lia,by lia,?_⟩;rw [Int.toNat_natCast];refine bc (D:=⟨_,_,λ _ _=>False,λ _ _=>False⟩) (lo:=0) (n:=m-1) (λ i σ H2=>∃(lb:Addr) (us:List Addr) (B:List Bd) (v3:Option V),σ=[some (.ref p),some (vN m),some (.ref lb),v3]/\H2 lb=some (.lst (us.map V.ref))/\Buns H2 [av] us B/\LevS (L.map (sgl wt)) (i+1) B/\Same H H2)
   ⟨l0,ts,_,none,rfl,upd_same,hB.keep s0,lv1,s0⟩ ?_ ?_
  ·clear g1;rintro i σ H2 hi ⟨lb,us,B,v3,rfl,hlb,hus,lv,sm⟩;obtain⟨hsz,hBl⟩:=qI lv.lev;have hsz2:∀b∈B,b.2.length≤8000000:=λ b hb=>by
    have h1:=hsz b hb;have h2:2^(i+1)≤2^12:=Nat.pow_le_pow_right (by decide) (by lia);have h3:(2:Nat)^12=4096:=by decide
    lia
   have hpl:=(cG _ (B:=B) (Nat.le_refl _)).1;refine⟨_,rfl,_,rfl,lb,av,us,B,rfl,hlb,⟨_,sm _ _ hav⟩,hus,by lia,hsz2,λ l ps H3 s3 nl hl hps=>?_⟩;have hpsl:=hps.len;refine⟨p,l,_,_,rfl,rfl,s3 _ _ (sm _ _ hp),hl,(by rw [List.length_map,List.length_map,sizeLine_eq];lia),λ q nq=>?_⟩;have s4:=ak (o:=.lst (ts.map V.ref++ps.map V.ref)) nq;have hall:Buns (upd H3 q (.lst (ts.map V.ref++ps.map V.ref))) [av] (ts++ps) (L.map (sgl wt)++pairs B):=((hB.keep (sm.trans s3)).app hps).keep s4;have h4q:(upd H3 q (.lst (ts.map V.ref++ps.map V.ref))) q=some (.lst ((ts++ps).map V.ref)):=by rw [upd_same,List.map_append]
   have sm4:=(sm.trans s3).trans s4;generalize upd H3 q (.lst (ts.map V.ref++ps.map V.ref))=H4 at*;have hal:=hall.len;refine⟨q,(ts++ps).map V.ref,(L.map (sgl wt)++pairs B).map (λ b=>((b.1:Nat):Int)),rfl,SqL.of h4q,by rw [List.length_map,List.length_map];exact hal,by rw [List.length_map,List.length_append];lia,λ j v kk hv hk=>?_,λ lo mm nlo hpw hstb=>?_⟩
   ·rw [List.getElem?_map] at hk;cases e:(L.map (sgl wt)++pairs B)[j]? with
    |none=>rw [e] at hk;cases hk
    |some b=>
     rw [e] at hk;obtain⟨t,ht,lt,_,_,h1,h2⟩:=hall.at e;rw [eQ ht] at hv;cases hv;cases hk;exact⟨t,lt,b.1,rfl,h1,rfl,rfl⟩
   ·have hz:((L.map (sgl wt)++pairs B).map (λ b=>((b.1:Nat):Int))).zip ((ts++ps).map V.ref)=((ts++ps).zip (L.map (sgl wt)++pairs B)).map (λ z:Addr×Bd=>(((z.2.1:Nat):Int),V.ref z.1)):=jq _ _;rw [hz] at hstb;obtain⟨Z',rfl,hst'⟩:=SM.stb_lift SG.ordI _ hstb;have hZ:=(SM.stb_perm SG.ordI hst').symm;have hSB:SM.Stb SG.ltI wI (Z'.map (·.2)) (L.map (sgl wt)++pairs B):=by
     have:=SM.stb_push (kg:=wI) (λ z:Addr×Bd=>z.2) (λ _=>rfl) hst';rw [List.map_snd_zip (by lia)] at this;exact this
    have hZB:(Z'.map (·.2)).Perm (L.map (sgl wt)++pairs B):=by
     have:=(hZ.symm.map (·.2));rw [List.map_snd_zip (by lia)] at this;exact this
    have hso':Sorted (Z'.map (·.2)):=by
     rw [List.map_map,List.pairwise_map] at hpw;unfold Sorted;rw [List.pairwise_map];exact hpw.imp (λ {a b} h=>by have h':((a.2.1:Nat):Int)≤((b.2.1:Nat):Int):=h;lia)
    have s5:=ak (o:=.lst ((Z'.map (λ z:Addr×Bd=>(((z.2.1:Nat):Int),V.ref z.1))).map (·.2))) nlo;refine⟨lo,Z'.map (·.1),Z'.map (·.2),some (.int (0+((i:Nat):Int))),rfl,?_,?_,.step lv hSB hso',sm4.trans s5⟩
    ·rw [upd_same,List.map_map,List.map_map];rfl
    ·exact(i7 λ z hz=>hall.zip z (hZ.symm.subset hz)).keep s5
  ·rintro σ H2 ⟨lb,us,B,v3,rfl,hlb,hus,lv,sm⟩;rw [show m-1+1=m by lia] at lv;refine g1 _ _ ?_;clear g1;obtain⟨_,hBl⟩:=qI lv.lev;have hul:=hus.len;refine⟨_,rfl,_,rfl,p,_,rfl,.inl (SqL.of (sm _ _ hp)),_,_,rfl,rfl,.inl ⟨by decide,by decide⟩,_,_,rfl,rfl,_,_,rfl,?_⟩;have e2:(if(2:Int)*(((ts.map V.ref).length:Nat):Int)-2>1 then(2:Int)*(((ts.map V.ref).length:Nat):Int)-2 else 1)=((max 1 (2*L.length-2):Nat):Int):=by
    rw [List.length_map,htl];split<;>lia
   try dsimp only
   rw [e2];refine⟨_,rfl,lb,_,rfl,SqL.of hlb,λ l5 n5=>?_⟩
   try dsimp only
   rw [rJ,<-List.map_take];have s5:=ak (o:=.lst ((us.take (max 1 (2*L.length-2))).map V.ref)) n5;exact k l5 _ B _ (sm.trans s5) (none_of sm n5) upd_same ((hus.take _).keep s5) lv
end
structure FnL (K:PySem.W.Frag)(mg:Str->Option Value)(x:Str)(st:Stmt)(ps:List Str)(f:Addr)(fd:FuncData):Prop where
 F:∃dV,FunD K x x st dV f fd
 m:mg x=some (.ref f)
 b:Binds K fd ps []
 d:∃t,Binds K fd ps [.int 6 t]
theorem FnL.kp {K:PySem.W.Frag}{mg:Str->Option Value}{x:Str}{st:Stmt}{ps:List Str}{f:Addr}{fd:FuncData}(F:FnL K mg x st ps f fd):PySem.W.keepIn K (.ref f)=true:=F.F.elim λ _ z=>z.kp
def cw (C:List Nat)(p:Nat):Nat:=C.getD p 0
def pos (C:List Nat):List Nat:=(List.range C.length).filter (λ p=>decide (0<cw C p))
def LnOf (C:List Nat)(m:Nat)(ln:Nat->Nat):Prop:=∃(L:List Nat) (B:List Bd),Sorted (L.map (sgl (cw C)))/\SM.Stb SG.ltI wI (L.map (sgl (cw C))) ((pos C).map (sgl (cw C)))/\LevS (L.map (sgl (cw C))) m B/\ln=occ (B.take (max 1 (2*L.length-2)))
theorem LnOf.uniq {C:List Nat}{m:Nat}{ln ln':Nat->Nat}(h:LnOf C m ln)(h':LnOf C m ln'):ln=ln':=by
 obtain⟨L,B,a1,a2,a3,a4⟩:=h;obtain⟨L',B',b1,b2,b3,b4⟩:=h';have e:=SM.stb_uniq SG.ordI (nM a1) (nM b1) (a2.trans b2.symm);have el:=congrArg List.length e;rw [List.length_map,List.length_map] at el;rw [<-e] at b3;have:=a3.uniq b3;subst this;rw [a4,b4,el]
theorem Buns.fresh {H:Hp}{A:List Addr}{av:Addr}{ts:List Addr}{bs:List Bd}(h:Buns H A ts bs)(n:H av=none):Buns H [av] ts bs:=by
 induction h with
 |nil=>exact .nil
 |cons a _ ih=>
  obtain⟨l,_,_,h1,h2⟩:=a;exact .cons ⟨l,λ z=>af h1 n (List.mem_singleton.mp z),λ z=>af h2 n (List.mem_singleton.mp z),h1,h2⟩ ih
theorem ixN_nat {n j:Nat}(h:j<n):ixN n ((j:Nat):Int)=some j:=by
 unfold ixN;rw [if_pos (by lia),if_pos (by lia)];simp
theorem set_range {n q:Nat}{f f':Nat->Nat}(h:∀p,f' p=f p+ [q].count p):((List.range n).map λ p=>vN (f p)).set q (vN (f q+1))=(List.range n).map λ p=>vN (f' p):=by
 refine List.ext_getElem? λ i=>?_
 rw [List.getElem?_set,List.length_map,List.length_range,List.getElem?_map,List.getElem?_map];by_cases hi:i<n
 ·rw [List.getElem?_range hi];by_cases e:q=i
  ·subst e;rw [if_pos rfl,if_pos hi,Option.map_some,h q];simp
  ·rw [if_neg e,Option.map_some,Option.map_some,h i];have: [q].count i=0:=List.count_eq_zero_of_not_mem (by simp;exact λ z=>e z.symm);rw [this,Nat.add_zero]
 ·have e2:(List.range n)[i]?=none:=List.getElem?_eq_none (by rw [List.length_range];lia);rw [e2];by_cases e:q=i
  ·subst e;rw [if_pos rfl,if_neg hi];rfl
  ·rw [if_neg e];rfl
section
variable {P : Program} {w : World} {K : PySem.W.Frag} {mg : Str -> Option Value} {base : Heap}
def pf:Sp:=λ vs H Q _=>∃(a:Addr) (C:List Nat) (m:Nat),vs=[.ref a,vN m]/\H a=some (.lst (C.map vN))/\(∀b∈C,b≤1000000)/\1≤C.length/\C.length≤300/\(∃b∈C,0<b)/\1≤m/\m≤12/\(C.filter (λ b=>decide (0<b))).length≤2^m/\(pos C).length≤300/\1≤(pos C).length/\(pos C).length≤2^m/\
 ∀(l:Addr) (ln:Nat->Nat) (H':Hp),H l=none->Same H H'->H' l=some (.lst ((List.range C.length).map λ p=>vN (ln p)))->Best (pos C) (cw C) m ln->LnOf C m ln->Q (.ref l) H'
abbrev qQ:List Str:=["counts","most","singles","lengths","bundle","place"]
theorem scLengths:FnScope qQ ["counts","most"] (defScope sLengths):=⟨rfl,rfl,rfl,by decide+kernel,rfl,by decide+kernel,by decide+kernel⟩
theorem wC:(["place","count"]:List Str).Nodup:=by decide+kernel
def xn:TE:=tj (dt (dM 1) (dt (wD (dt (dM 0) i4)) i4))
def wO:TT:=jF (tOp (rI0 λ i j=>.bl (decide (j<i))) (dM 1) (tC (.int 0)))
theorem ok_lengths {f fN fT fA fW' fL fP fW:Addr}{fd fdN fdT fdA fdW' fdL fdP fdW:FuncData}(F:FnL K mg "lengths_of" sLengths ["counts","most"] f fd)(Ne:Fn K mg "need_shares" kC ["counts","most"] fN fdN)(Th:Fn K mg "are_of_things" c9 ["thing","most"] fT fdT)(AW:Fn K mg "are_whole" bA ["thing","least","most"] fA fdA)(W:Fn K mg "is_whole" bK ["thing","least","most"] fW' fdW')
  (Li:Fn K mg "lightest_bundles" gw ["singles","most"] fL fdL) (Pa:Fn K mg "in_pairs" fj ["bundles"] fP fdP) (We:Fn K mg "weight_of" dz ["bundle"] fW fdW) (T:Txt K mg):FnOk P w K mg base CX0 33 f fd ["counts","most"] pf:=by
 have GN:=tR (P:=P) (w:=w) (base:=base) Ne Th AW W T;have GL:=rG (P:=P) (w:=w) (base:=base) Li Pa We T;have GW:=hI (P:=P) (w:=w) (base:=base) We;obtain⟨dV,F0⟩:=F.F;refine F0.ok scLengths (λ vs H Q E h=>?_) (λ cdv A outer s H vs Q E hr h=>?_)
 ·obtain⟨a,C,m,rfl,_⟩:=h;rfl
 ·obtain⟨a,C,m,rfl,ha,hC,c1,c3,hpos,m1,m2,hfit,p30,p1,pm,k⟩:=h;have hr31:Room 31 _:=hr.mono (by decide);have hr3:Room 3 _:=hr.mono (by decide);refine⟨_,ac (aD (am GN hr (by rfl) Ne.m Ne.F.kp Ne.b .nil ap (aa (pv 0) (aa (pv 1) ad))))
   (ac (aj (i:=2) scLengths.nd rfl (Or.inl rfl) (iq (sp:=gs) GW hr3 We.b (by rfl) T.sort (aK (v:=.ref fW) (by rfl) We.m rfl) (aa (gI (N:=["place","count"]) (g:=vR K 2 (jP (bZ 0) (jP (bZ 1) vz))) (tt:=wO) (te:=xn) rfl rfl (by decide+kernel) (by decide+kernel) (by decide+kernel)
    (je (by rfl) T.enum (aa (pv 0) ad)) (λ fp s H=>gY rfl (bH (aF (i:=0) wC rfl (Or.inl rfl)) (bH (aF (i:=1) wC rfl (Or.inl rfl)) ee)))
    (λ fp s H=>ar cz (pv 1) ae (ax _)) (λ fp s H=>bB (aa (pv 1) (aa (aV (aa (pv 0) ad)) ad)))) ad)))
   (ac (aj (i:=3) scLengths.nd rfl (Or.inl rfl) (ai fE (aV (aa ae ad)) (aq ao (by rfl) T.len PySem.boot_len (aa (pv 0) ad))))
   (ac (aS PassesOwn.never rfl (bf (am GL hr31 (by rfl) Li.m Li.F.kp Li.b .nil ap (aa (pv 2) (aa (pv 1) ad)))) (aF (i:=4) scLengths.nd rfl (Or.inl rfl))
    (ag (aS PassesOwn.never rfl (bf (aL a9 (pv 4) ae (λ _ _=>rfl))) (aF (i:=5) scLengths.nd rfl (Or.inl rfl))
     (ag (dX (ai aA (aL aN (pv 3) (pv 5) (λ _ _=>rfl)) ae) (fw (pv 3) (pv 5) cW))))))
   (ag (az (pv 3)))))),?_⟩
  refine seq_g λ R1 g1=>?_
  refine⟨_,rfl,_,rfl,a,C,m,rfl,ha,hC,c1,c3,hpos,m1,m2,hfit,λ H1 s1=>g1 _ _ ?_⟩;clear g1;have ha1:=s1 _ _ ha;refine seq_g λ R1 g1=>?_
  refine⟨_,rfl,a,_,rfl,SqL.of ha1,λ l nl=>?_⟩;refine rh (K:=K) (a:=a) (l:=l) (xs:=C.map vN) (n:=2) (g:=vR K 2 (jP (bZ 0) (jP (bZ 1) vz))) (tt:=wO) (te:=xn)
   (λ i ys H2=>∃ts:List Addr,ys=ts.map V.ref/\H2 l=some (.lst ys)/\Same H1 H2/\Buns H2 [l] ts (((List.range i).filter (λ p=>decide (0<cw C p))).map (sgl (cw C))))
   ⟨[],rfl,upd_same,ak nl,.nil⟩ (λ i ys H2 _ ⟨_,_,_,sm,_⟩=>SqL.of (sm _ _ ha1)) ?_ ?_ ?_ ?_ ?_
  ·clear g1;rintro i x ys σ H2 p hx ⟨ts,rfl,hl,sm,hb⟩ hσ hp;obtain⟨c,hc,rfl⟩:=cm hx;have hil:i<C.length:=(List.getElem?_eq_some_iff.mp hc).1;have hcw:cw C i=c:=by rw [cw,List.getD_eq_getElem?_getD,hc];rfl
   obtain⟨u0,u1,rfl⟩:∃u0 u1,σ=[u0,u1]:=match σ,hσ with| [u0,u1],_=>⟨u0,u1,rfl⟩
   have sp:=ak (o:=.tup [.int ((i:Nat):Int),vN c]) hp;have hlp:=sp _ _ hl;have hpp:(upd H2 p (.tup [.int ((i:Nat):Int),vN c])) p=some (.tup [vN i,vN c]):=upd_same;generalize upd H2 p (.tup [.int ((i:Nat):Int),vN c])=H3 at*;refine⟨p,_,rfl,SqT.of hpp,rfl,_,_,rfl,_,_,rfl,rfl,?_⟩;refine⟨_,rfl,_,_,rfl,rfl,_,rfl,?_⟩;have htl:=hb.len;rw [List.length_map] at htl;have hfl:((List.range i).filter (λ p=>decide (0<cw C p))).length≤300:=Nat.le_trans (List.length_filter_le _ _) (by rw [List.length_range];lia);dsimp only;rw [List.range_succ,List.filter_append];by_cases h0:0<c
   ·rw [if_pos (decide_eq_true (show(0:Int)<((c:Nat):Int) by lia)),List.filter_cons_of_pos (by rw [hcw];exact decide_eq_true h0)];refine⟨_,rfl,_,rfl,(by show 1≤sizeLine;decide),λ q nq=>⟨(by show 2≤sizeLine;decide),λ t nt=>?_⟩⟩;have sq:=ak (o:=.lst [vN i]) nq;have hlq:=sq _ _ hlp;have hqq:(upd H3 q (.lst [vN i])) q=some (.lst [vN i]):=upd_same;have nql:q∉ [l]:=λ z=>by rw [List.mem_singleton.mp z,hlp] at nq;cases nq
    generalize upd H3 q (.lst [vN i])=H4 at*;have st:=ak (o:=.tup [vN c,V.ref q]) nt;have hlt:=st _ _ hlq;have hqt:=st _ _ hqq;have htt:(upd H4 t (.tup [vN c,V.ref q])) t=some (.tup [vN c,V.ref q]):=upd_same;have ntl:t∉ [l]:=λ z=>by rw [List.mem_singleton.mp z,hlq] at nt;cases nt
    generalize upd H4 t (.tup [vN c,V.ref q])=H5 at*;have s25:Same H2 H5:=(sp.trans sq).trans st;have kk:∀c' o,c'∉ [l]->H5 c'=some o->(upd H5 l (.lst (ts.map V.ref++[V.ref t]))) c'=some o:=λ c' o n e=>by rw [upd_ne (λ z=>n (by simp [z]))];exact e
    refine⟨hlt,aU (by rw [List.length_map];lia),rfl,ts++[t],by rw [List.map_append];rfl,upd_same,λ c' o e=>?_,?_⟩
    ·rw [upd_ne (af e nl)];exact s25 _ _ (sm _ _ e)
    ·rw [List.map_append];refine(hb.keepA λ c' o n e=>kk _ _ n (s25 _ _ e)).app (.cons ⟨q,ntl,nql,?_,kk _ _ nql hqt⟩ .nil);show _=some (HO.tup [vN (cw C i),V.ref q]);rw [hcw];exact kk _ _ ntl htt
   ·rw [if_neg (λ z=>absurd (of_decide_eq_true z) (by lia)),List.filter_cons_of_neg (by rw [hcw];simpa using h0)];refine⟨rfl,ts,rfl,hlp,sm.trans sp,?_⟩;rw [List.filter_nil,List.append_nil];exact hb.keep sp
  rotate_left
  ·rintro x σ H3 A' B' hAB ⟨a',xs,e,hq,hl',v,r,e2,v2,r2,e3,e4,h⟩;exact⟨a',xs,e,hq,hl',v,r,e2,v2,r2,e3,e4,hAB _ _ h⟩
  ·exact λ σ H A B h ⟨v,e1,i,j,e2,e3,c,e4,z⟩=>⟨v,e1,i,j,e2,e3,c,e4,h _ _ z⟩
  ·exact λ σ H A B h ⟨v,e1,v2,e2,n1,z⟩=>⟨v,e1,v2,e2,n1,λ q nq=>⟨(z q nq).1,λ t nt=>h _ _ ((z q nq).2 t nt)⟩⟩
  rintro ys H2 ⟨ts,rfl,hl,sm,hb⟩;rw [List.length_map] at hb;have hb':Buns H2 [l] ts ((pos C).map (sgl (cw C))):=hb;clear hb;have hal:=hb'.len;rw [List.length_map] at hal;refine⟨l,ts.map V.ref,((pos C).map (sgl (cw C))).map (λ b=>((b.1:Nat):Int)),rfl,SqL.of hl,by rw [List.length_map,List.length_map,List.length_map];exact hal,by rw [List.length_map];lia,λ j v kk hv hk=>?_,λ lo mm nlo hpw hstb=>g1 _ _ ?_⟩
  ·rw [List.getElem?_map] at hk;cases e:((pos C).map (sgl (cw C)))[j]? with
   |none=>rw [e] at hk;cases hk
   |some b=>
    rw [e] at hk;obtain⟨t,ht,lt,_,_,h1,h2⟩:=hb'.at e;rw [eQ ht] at hv;cases hv;cases hk;exact⟨t,lt,b.1,rfl,h1,rfl,rfl⟩
  clear g1;rw [jq] at hstb;obtain⟨Z',rfl,hst'⟩:=SM.stb_lift SG.ordI _ hstb;have hZ:=(SM.stb_perm SG.ordI hst').symm;have hSB:SM.Stb SG.ltI wI (Z'.map (·.2)) ((pos C).map (sgl (cw C))):=by
   have:=SM.stb_push (kg:=wI) (λ z:Addr×Bd=>z.2) (λ _=>rfl) hst';rw [List.map_snd_zip (by rw [List.length_map];lia)] at this;exact this
  have hZB:(Z'.map (·.2)).Perm ((pos C).map (sgl (cw C))):=by
   have:=(hZ.symm.map (·.2));rw [List.map_snd_zip (by rw [List.length_map];lia)] at this;exact this
  have hso':Sorted (Z'.map (·.2)):=by
   rw [List.map_map,List.pairwise_map] at hpw;unfold Sorted;rw [List.pairwise_map];exact hpw.imp (λ {a b} h=>by have h':((a.2.1:Nat):Int)≤((b.2.1:Nat):Int):=h;lia)
  obtain⟨L,UL,hLp,eL,eU⟩:=kM (RX:=Z'.map (·.2)) (UX:=[]) (by rw [List.append_nil];exact hZB.symm);have eU':UL=[]:=by simpa using eU.symm
  subst eU';rw [List.append_nil] at hLp;have s5:=ak (o:=.lst ((Z'.map (λ z:Addr×Bd=>(((z.2.1:Nat):Int),V.ref z.1))).map (·.2))) nlo;have hbs:=(i7 λ z hz=>hb'.zip z (hZ.symm.subset hz)).keep s5;have hlo:(upd H2 lo (.lst ((Z'.map (λ z:Addr×Bd=>(((z.2.1:Nat):Int),V.ref z.1))).map (·.2)))) lo=some (.lst ((Z'.map (·.1)).map V.ref)):=by
   rw [upd_same,List.map_map,List.map_map];rfl
  have sm3:=sm.trans s5;generalize upd H2 lo (.lst ((Z'.map (λ z:Addr×Bd=>(((z.2.1:Nat):Int),V.ref z.1))).map (·.2)))=H3 at*;rw [eL] at hbs hso' hSB;generalize Z'.map (·.1)=ss at*;clear hZ hZB hstb hst' hpw eL eU hl hb' sm s5 hal;have hLl:=hLp.length_eq;have s03:=s1.trans sm3;have ha3:=s03 _ _ ha;refine seq_g λ R1 g1=>?_
  refine⟨(by show 1≤sizeLine;decide),λ l4 n4=>?_⟩;have s4:=ak (o:=.lst [V.int 0]) n4;have h44:(upd H3 l4 (.lst [V.int 0])) l4=some (.lst [vN 0]):=upd_same;generalize upd H3 l4 (.lst [V.int 0])=H4 at*;refine⟨_,rfl,a,_,rfl,.inl (SqL.of (s4 _ _ ha3)),l4,_,_,rfl,rfl,h44,by lia,by rw [List.length_map];lia,(by rw [List.length_map,Int.toNat_natCast];exact dj (by show 1*C.length≤2000;lia)),λ l5 n5=>g1 _ _ ?_⟩;clear g1;have ez:(List.replicate (((C.map vN).length:Nat):Int).toNat [vN 0]).flatten=(List.range C.length).map λ p=>vN (occ [] p):=by
   rw [Int.toNat_natCast,List.length_map];show(List.replicate C.length [vN 0]).flatten=(List.range C.length).map λ _=>vN 0
   rw [List.map_const',List.length_range];generalize C.length=n
   induction n with
   |zero=>rfl
   |succ n ih=>rw [List.replicate_succ,List.flatten_cons,ih,List.replicate_succ];rfl
  try dsimp only
  rw [ez];have s5:=ak (o:=.lst ((List.range C.length).map λ p=>vN (occ [] p))) n5;have h55:(upd H4 l5 (.lst ((List.range C.length).map λ p=>vN (occ [] p)))) l5=some (.lst ((List.range C.length).map λ p=>vN (occ [] p))):=upd_same;have hb5:=((hbs.keep s4).fresh n5).keep s5;have hlo5:=s5 _ _ (s4 _ _ hlo);have s05:=(s03.trans s4).trans s5;have n05:H l5=none:=none_of (s03.trans s4) n5;generalize upd H4 l5 (.lst ((List.range C.length).map λ p=>vN (occ [] p)))=H5 at*;clear s4 s5 h44 n4 n5 ez;refine seq_g λ R1 g1=>?_
  refine⟨_,rfl,_,rfl,lo,l5,ss,L,cw C,m,rfl,hlo5,⟨_,h55⟩,hb5,hso',by lia,by lia,m1,m2,λ lb ub B H6 s6 nlb hlb hub lv=>?_⟩;have h65:=s6 _ _ h55;have s06:=s05.trans s6;have hwt:∀b∈B,Wt L (cw C) b:=qB lv.lev;have hbest:Best L (cw C) m (occ (B.take (max 1 (2*L.length-2)))):=by
   refine qT (hLp.nodup_iff.mp ?_) (λ p hp=>?_) lv.lev (by lia) m1 (by lia)
   ·exact List.Pairwise.filter _ List.nodup_range
   ·have:=(List.mem_filter.mp (hLp.symm.subset hp)).2;exact of_decide_eq_true this
  have hwR:∀b∈B.take (max 1 (2*L.length-2)),∀q∈b.2,q<C.length:=λ b hb q hq=>by
   have:=(hwt b (List.mem_of_mem_take hb)).2 q hq;exact List.mem_range.mp (List.mem_filter.mp (hLp.symm.subset this)).1
  have hln:LnOf C m (occ (B.take (max 1 (2*L.length-2)))):=⟨L,B,hso',hSB,lv,rfl⟩;generalize B.take (max 1 (2*L.length-2))=R at*;have hulR:=hub.len;have hlb5:lb≠l5:=(af h55 nlb).symm;clear hb5 hlo5 h55 hso' hbs hlo;refine⟨lb,rfl,⟨_,SqL.of hlb⟩,bE (D:=⟨_,_,λ _ _=>False,λ _ _=>False⟩) (K:=K) (a:=lb) (xs:=ub.map V.ref) (λ i σ H7=>∃v4 v5:Option V,σ=[some (.ref a),some (vN m),some (.ref lo),some (.ref l5),v4,v5]/\H7 l5=some (.lst ((List.range C.length).map λ p=>vN (occ (R.take i) p)))/\∀c o,c≠l5->H6 c=some o->H7 c=some o)
   ⟨none,none,rfl,h65,λ _ _ _ e=>e⟩ (λ i σ H7 _ ⟨_,_,_,_,kp⟩=>SqL.of (kp _ _ hlb5 hlb)) ?_ ?_⟩
  ·clear g1;rintro i y σ H7 hi ⟨v4,v5,rfl,h7,kp⟩;have hil:i<R.length:=by have:=(List.getElem?_eq_some_iff.mp hi).1;rw [List.length_map] at this;lia
   have hRi:R[i]?=some R[i]:=List.getElem?_eq_getElem hil;obtain⟨t,ht,lq,nt,nq,h1,h2⟩:=hub.at hRi;have hy:y=.ref t:=by rw [eQ ht] at hi;exact(Option.some.inj hi).symm
   subst hy;have hlt:=hwR _ (List.getElem_mem hil);have e1:∀p,occ (R.take (i+1)) p=occ (R.take i) p+R[i].2.count p:=λ p=>by
    rw [List.take_add_one,hRi];show occ (R.take i++[R[i]]) p=_;rw [gk,cJ];rfl
   generalize R[i]=bb at*;have nq':lq≠l5:=λ z=>nq (by simp [z])
   have nt':t≠l5:=λ z=>nt (by simp [z])
   refine⟨_,rfl,t,_,_,_,rfl,rfl,SqT.of (kp _ _ nt' h1),aw (j:=1) rfl,lq,rfl,⟨_,SqL.of (kp _ _ nq' h2)⟩,bE (D:=⟨_,_,λ _ _=>False,λ _ _=>False⟩) (K:=K) (a:=lq) (xs:=bb.2.map vN) (λ j σ H8=>∃v5:Option V,σ=[some (.ref a),some (vN m),some (.ref lo),some (.ref l5),some (.ref t),v5]/\H8 l5=some (.lst ((List.range C.length).map λ p=>vN (occ (R.take i) p+(bb.2.take j).count p)))/\∀c o,c≠l5->H6 c=some o->H8 c=some o)
    ⟨v5,rfl,by simpa using h7,kp⟩ (λ j σ H8 _ ⟨_,_,_,kp⟩=>SqL.of (kp _ _ nq' h2)) ?_ ?_⟩
   ·rintro j y σ H8 hj ⟨v5,rfl,h8,kp8⟩;obtain⟨q,hq,rfl⟩:=cm hj;have hqn:q<C.length:=hlt q (List.mem_of_getElem? hq);have hg:((List.range C.length).map λ p=>vN (occ (R.take i) p+(bb.2.take j).count p))[q]?=some (vN (occ (R.take i) q+(bb.2.take j).count q)):=by
     rw [List.getElem?_map,List.getElem?_range hqn];rfl
    have e2:((occ (R.take i) q+(bb.2.take j).count q:Nat):Int)+1=((occ (R.take i) q+(bb.2.take j).count q+1:Nat):Int):=by lia
    refine⟨_,rfl,_,rfl,l5,_,_,_,rfl,rfl,SqL.of h8,aw hg,_,_,rfl,rfl,?_⟩
    try dsimp only
    rw [e2];refine⟨_,rfl,_,rfl,l5,_,_,q,rfl,rfl,h8,ixN_nat (by rw [List.length_map,List.length_range];exact hqn),some (vN q),rfl,?_,λ c o n e=>?_⟩
    ·rw [upd_same,set_range (f:=λ p=>occ (R.take i) p+(bb.2.take j).count p) (f':=λ p=>occ (R.take i) p+(bb.2.take (j+1)).count p) λ p=>?_];rw [dv hq,List.count_append,Nat.add_assoc]
    ·rw [upd_ne n];exact kp8 _ _ n e
   ·rintro σ H8 ⟨v5,rfl,h8,kp8⟩;rw [List.length_map,List.take_length] at h8;refine⟨_,_,rfl,?_,kp8⟩;rw [h8];congr 2;refine List.map_congr_left λ p _=>?_
    rw [e1 p]
  ·rintro σ H7 ⟨v4,v5,rfl,h7,kp⟩;rw [List.length_map,hulR,List.take_length] at h7;refine g1 _ _ ⟨_,rfl,k l5 _ H7 n05 (λ c o e=>kp _ _ (af e n05) (s06 _ _ e)) h7 (hbest.perm hLp.symm) hln⟩
end
end K19.S
set_option maxHeartbeats 4000000
namespace K19.Tb
open PySem L2 QQ W13 BP
seal PE PA PS PSs PT PW PG PI
section
variable {P : Program} {w : World} {K : PySem.W.Frag} {mg : Str -> Option Value} {base : Heap} {C : Addr}
def k7:Sp:=λ vs H Q _=>∃(a:Addr) (L:List Nat),vs=[.ref a]/\H a=some (.lst (L.map vN))/\L.length=272/\(∀b∈L,b≤6)/\Q .non H
theorem kU:FnScope ["lengths"] ["lengths"] (defScope cI):=⟨rfl,rfl,rfl,by decide+kernel,rfl,by decide+kernel,by decide+kernel⟩
theorem iY {f:Addr}{fd:FuncData}(F:Fn K mg "need_table" cI ["lengths"] f fd)(Y:Rows K mg):FnOk P w K mg base CX0 3 f fd ["lengths"] k7:=by
 obtain⟨T,⟨_,_,W⟩,⟨_,_,AW⟩,_⟩:=Y;have GA:=dm (P:=P) (w:=w) (base:=base) AW W T;obtain⟨tb,hb⟩:=T.bits;obtain⟨tm,hm⟩:=T.many;refine F.F.ok kU (λ vs H Q E h=>?_) (λ cdv A outer s H vs Q E hr h=>?_)
 ·obtain⟨a,L,rfl,_⟩:=h;rfl
 ·obtain⟨a,L,rfl,hL,hl,h6,k⟩:=h;refine⟨_,ag (aM (PW.pt (il (cj (cf (am GA hr (by rfl) AW.m AW.F.kp AW.b .nil ap (aa (pv 0) (aa ae (aa (aK (v:=.int 6) (by rfl) hb ⟨tb,rfl⟩) ad))))))
   (fo (ar og (aq ao (by rfl) T.len PySem.boot_len (aa (pv 0) ad)) (aK (v:=.int 272) (by rfl) hm ⟨tm,rfl⟩) (ax _))))) (ag aT) aB),?_⟩
  refine⟨_,rfl,a,L,0,6,rfl,hL,λ b z=>by have:=h6 b z;lia,_,rfl,bL ?_⟩;refine⟨_,rfl,a,_,rfl,.inl (SqL.of hL),rfl,_,rfl,xj ?_ k⟩;rw [List.length_map,hl];rfl
def ul:Sp:=λ vs H Q _=>∃(a:Addr) (L:List Nat) (p ah:Nat),vs=[.ref a,vN p,vN ah]/\H a=some (.lst (L.map vN))/\L.length=272/\p≤272/\Q (vN (min 66 (run ah (L.drop p)))) H
theorem scAgain:FnScope ["lengths","place","ahead","most","again"] ["lengths","place","ahead"] (defScope gu):=⟨rfl,rfl,rfl,by decide+kernel,rfl,by decide+kernel,by decide+kernel⟩
theorem pN {f:Addr}{fd:FuncData}(F:Fn K mg "again_from" gu ["lengths","place","ahead"] f fd)(T:Txt K mg):FnOk P w K mg base CX0 31 f fd ["lengths","place","ahead"] ul:=by
 obtain⟨tm,hm⟩:=T.many;obtain⟨ta,hma⟩:=T.mostA;refine F.F.ok scAgain (λ vs H Q E h=>?_) (λ cdv A outer st H vs Q E hr h=>?_)
 ·obtain⟨a,L,p,ah,rfl,_⟩:=h;rfl
 ·obtain⟨a,L,p,ah,rfl,hL,hl,hp,k⟩:=h;have hn:=hr.hd (by decide);refine⟨_,ac (aj (i:=3) scAgain.nd rfl (Or.inl rfl) (aq (cC hn) (by rfl) T.min PyProof.Rows.boot_min (aa (aK (v:=.int 66) (by rfl) hma ⟨ta,rfl⟩) (aa (ai aY (aK (v:=.int 272) (by rfl) hm ⟨tm,rfl⟩) (pv 1)) ad))))
   (ac (aj (i:=4) scAgain.nd rfl (Or.inl rfl) ae)
   (ac (bF PassesOwn.never (PW.pt (c5 (ar df (pv 4) (pv 3) (ax _)) (cZ (ar bh (aL aN (pv 0) (ai aA (pv 1) (pv 4)) (λ _ _=>rfl)) (pv 2) (ax _)))))
    (ag (aj (i:=4) scAgain.nd rfl (Or.inl rfl) (ai aA (pv 4) ae))))
   (ag (az (pv 4))))),?_⟩
  refine seq_g λ R1 g1=>?_
  refine⟨_,rfl,_,_,rfl,rfl,_,_,rfl,g1 _ _ ?_⟩;clear g1;obtain⟨m,em,hm1⟩:∃m:Nat,(if(272:Int)-((p:Nat):Int)<66 then(272:Int)-((p:Nat):Int) else 66)=((m:Nat):Int)/\m=min 66 (272-p):=⟨min 66 (272-p),by split<;>lia,rfl⟩
  try dsimp only
  rw [em];refine seq_g λ R1 g1=>g1 _ _ ?_
  clear g1;refine seq_g λ R1 g1=>?_
  have hrl:=ja ah (L.drop p);rw [List.length_drop] at hrl;refine⟨λ n σ H2=>∃i:Nat,n=m-i/\σ=[some (.ref a),some (vN p),some (vN ah),some (vN m),some (vN i)]/\H2=H/\i≤m/\∀j<i,(L.drop p)[j]?=some ah,⟨m,0,rfl,rfl,rfl,Nat.zero_le _,λ j hj=>absurd hj (Nat.not_lt_zero _)⟩,?_⟩;rintro n σ H2 ⟨i,rfl,rfl,rfl,hi,hall⟩;refine⟨_,rfl,_,rfl,_,_,rfl,rfl,_,rfl,aJ (λ h1=>?_) (λ h1=>?_)⟩
  ·have h2:i<m:=by have:=of_decide_eq_true h1;lia
   have e1:((p:Nat):Int)+((i:Nat):Int)=((p+i:Nat):Int):=by lia
   have l1:p+i<L.length:=by lia
   refine⟨_,rfl,_,rfl,_,rfl,_,_,rfl,rfl,?_⟩
   try dsimp only
   rw [e1];have hgd:(L.drop p)[i]?=some L[p+i]:=by rw [List.getElem?_drop,List.getElem?_eq_getElem l1]
   refine⟨a,_,_,_,rfl,rfl,SqL.of hL,aw (bC l1),_,rfl,rfl,_,rfl,aJ (λ h3=>?_) (λ h3=>?_)⟩
   ·have h4:L[p+i]=ah:=vN_inj.mp (of_decide_eq_true h3);refine⟨λ σ' H'=>σ'=[some (.ref a),some (vN p),some (vN ah),some (vN m),some (vN (i+1))]/\H'=H2,λ σ' H' z=>⟨m-(i+1),by lia,i+1,rfl,z.1,z.2,by lia,λ j hj=>?_⟩,?_⟩
    ·by_cases e:j=i
     ·subst e;rw [hgd,h4]
     ·exact hall j (by lia)
    ·exact⟨_,rfl,_,_,rfl,rfl,rfl,rfl⟩
   ·refine g1 _ _ ⟨_,rfl,?_⟩;have h4:(L.drop p)[i]?≠some ah:=by
     rw [hgd];intro z;exact h3 (decide_eq_true (vN_inj.mpr (Option.some.inj z)))
    rw [vY hall h4,Nat.min_eq_right (by lia)] at k;exact k
  ·refine bL (g1 _ _ ⟨_,rfl,?_⟩);have h2:i=m:=by
    have h1':¬(decide ((i:Int)<(m:Int))=true):=h1;have:¬((i:Int)<(m:Int)):=λ z=>h1' (decide_eq_true z)
    lia
   subst h2;have h5:=lO hall;have e:min 66 (run ah (L.drop p))=i:=by lia
   rw [e] at k;exact k
theorem ug:∀P:List Itm,tots (puts P)≤9*P.length:=by
 intro P;have e:tots (puts P)=(P.map Itm.cost).sum:=fi P;rw [e];clear e
 induction P with
 |nil=>simp
 |cons x P ih=>
  have:x.cost≤9:=by cases x<;>simp [Itm.cost]
  simp;lia
def lM (C:Addr):Sp:=λ vs H Q _=>∃(p d a:Addr) (N0 T0:Nat) (L:List Nat),vs=[.ref p,.ref a]/\BitsAt C H p d N0 T0/\T0≤1000/\H a=some (.lst (L.map vN))/\L.length=272/\(∀b∈L,b≤6)/\a≠d/\
 ∀(Pp:List Itm) (b:Nat) (H':Hp),Walk L 0 0 Pp 272 b->BitsAt C H' p d (nums (puts Pp) N0) (T0+tots (puts Pp))->(∀c o,H c=some o->c≠p->c≠d->H' c=some o)->Q .non H'
theorem scPutTable:FnScope ["bits","lengths","place","ahead","again"] ["bits","lengths"] (defScope dw):=⟨rfl,rfl,rfl,by decide+kernel,rfl,by decide+kernel,by decide+kernel⟩
theorem ok_puttable {f fN fA:Addr}{fd fdN fdA:FuncData}(F:Fn K mg "put_table" dw ["bits","lengths"] f fd)(NT:Fn K mg "need_table" cI ["lengths"] fN fdN)(AF:Fn K mg "again_from" gu ["lengths","place","ahead"] fA fdA)(B:Bts K mg C):FnOk P w K mg base CX0 32 f fd ["bits","lengths"] (lM C):=by
 have GN:=iY (P:=P) (w:=w) (base:=base) NT B.R;have X:=B.R.X;have GA:=pN (P:=P) (w:=w) (base:=base) AF X;obtain⟨_,_,W⟩:=B.R.whole;obtain⟨_,_,S⟩:=B.needsize;obtain⟨_,_,O⟩:=B.ones;obtain⟨_,_,Pu⟩:=B.put;obtain⟨_,_,M⟩:=B.move;have T:=B.T;have GP:=lV (P:=P) (w:=w) (base:=base) Pu.F S W O M T X;obtain⟨tm,hm⟩:=X.many;obtain⟨ta,hag⟩:=X.again;obtain⟨tl,hle⟩:=X.leastA;refine F.F.ok scPutTable (λ vs H Q E h=>?_) (λ cdv A outer st H vs Q E hr h=>?_)
 ·obtain⟨p,d,a,N0,T0,L,rfl,_⟩:=h;rfl
 ·obtain⟨p,d,a,N0,T0,L,rfl,hB,hT0,ha,hl,h6,nad,k⟩:=h;have hr3:Room 3 _:=hr.mono (by decide);have nap:a≠p:=by
   obtain⟨dx,_,_,_,hp,_⟩:=hB;exact ne_of ha hp (by intro z;cases z)
  refine⟨_,ac (aD (am GN hr3 (by rfl) NT.m NT.F.kp NT.b .nil ap (aa (pv 1) ad)))
   (ac (aj (i:=2) scPutTable.nd rfl (Or.inl rfl) ae)
   (ac (aj (i:=3) scPutTable.nd rfl (Or.inl rfl) ae)
   (ag (bF PassesOwn.never (ar df (pv 2) (aK (v:=.int 272) (by rfl) hm ⟨tm,rfl⟩) (ax _))
    (ac (aj (i:=4) scPutTable.nd rfl (Or.inl rfl) (am GA hr (by rfl) AF.m AF.F.kp AF.b .nil ap (aa (pv 1) (aa (pv 2) (aa (pv 3) ad)))))
    (ag (aM (ar rm (pv 4) (aK (v:=.int 3) (by rfl) hle ⟨tl,rfl⟩) (ax _))
     (ac (aD (a6 (pv 0) T.cl Pu.m GP hr3 Pu.b .nil ap (aa (aK (v:=.int 7) (by rfl) hag ⟨ta,rfl⟩) (aa ae ad))))
     (ac (aD (a6 (pv 0) T.cl Pu.m GP hr3 Pu.b .nil ap (aa (ai aY (pv 4) (aK (v:=.int 3) (by rfl) hle ⟨tl,rfl⟩)) (aa ae ad))))
     (ag (aj (i:=2) scPutTable.nd rfl (Or.inl rfl) (ai aA (pv 2) (pv 4))))))
     (ac (aj (i:=3) scPutTable.nd rfl (Or.inl rfl) (aL aN (pv 1) (pv 2) (λ _ _=>rfl)))
     (ac (aD (a6 (pv 0) T.cl Pu.m GP hr3 Pu.b .nil ap (aa (pv 3) (aa ae ad))))
     (ag (aj (i:=2) scPutTable.nd rfl (Or.inl rfl) (ai aA (pv 2) ae)))))))))))),?_⟩
  refine seq_g λ R1 g1=>?_
  refine⟨_,rfl,a,L,rfl,ha,hl,h6,g1 _ _ ?_⟩;clear g1;refine seq_g λ R1 g1=>g1 _ _ ?_
  clear g1;refine seq_g λ R1 g1=>g1 _ _ ?_
  clear g1;refine⟨λ n σ H2=>∃(q ah:Nat) (Pp:List Itm) (v4:Option V),n=272-q/\σ=[some (.ref p),some (.ref a),some (vN q),some (vN ah),v4]/\q≤272/\Walk L 0 0 Pp q ah/\BitsAt C H2 p d (nums (puts Pp) N0) (T0+tots (puts Pp))/\(∀c o,H c=some o->c≠p->c≠d->H2 c=some o),
   ⟨272,0,0,[],none,rfl,rfl,by decide,⟨rfl,rfl⟩,hB,λ c o e _ _=>e⟩,?_⟩
  rintro n σ H2 ⟨q,ah,Pp,v4,rfl,rfl,hq,hw,hB2,kp⟩;refine⟨_,rfl,_,_,rfl,rfl,_,rfl,aJ (λ hc=>?_) (λ hc=>?_)⟩
  ·have hq2:q<272:=by have:=of_decide_eq_true hc;lia
   have hqL:q<L.length:=by lia
   refine⟨λ σ' H'=>∃(q' ah:Nat) (Pp:List Itm) (v4:Option V),q<q'/\σ'=[some (.ref p),some (.ref a),some (vN q'),some (vN ah),v4]/\q'≤272/\Walk L 0 0 Pp q' ah/\BitsAt C H' p d (nums (puts Pp) N0) (T0+tots (puts Pp))/\(∀c o,H c=some o->c≠p->c≠d->H' c=some o),
    λ σ' H' ⟨q',ah,Pp,v4,hlt,z1,z2,z⟩=>⟨272-q',by lia,q',ah,Pp,v4,rfl,z1,z2,z⟩,?_⟩
   have hwl:=bW hw;have hcl:=ug Pp;have ha2:=kp _ _ ha nap nad;have hws:=ci hw hqL;have hsz:=ig (a:=ah) hqL;refine seq_g λ R2 g2=>?_
   refine⟨_,rfl,_,rfl,_,rfl,a,L,q,ah,rfl,ha2,hl,by lia,g2 _ _ ?_⟩;clear g2;obtain⟨dx,B2,r2,k2,hp2,hd2,br2,hk2⟩:=id hB2;have no:∀r k,(fW d r k).lookup ("put":Str)=none:=λ r k=>dP _ _ _ (by decide+kernel) (by decide+kernel) (by decide+kernel)
   refine⟨_,rfl,_,_,rfl,rfl,_,rfl,aJ (λ h3=>?_) (λ h3=>?_)⟩
   ·have h4:3≤min 66 (run ah (L.drop q)):=by have:=of_decide_eq_true h3;lia
    have est:stAt L q ah=.rep (min 66 (run ah (L.drop q))):=by unfold stAt;rw [if_pos h4]
    rw [est] at hws hsz;have hr66:min 66 (run ah (L.drop q))≤66:=by lia
    generalize min 66 (run ah (L.drop q))=r at*;refine⟨_,rfl,p,dx,_,rfl,hp2,no _ _,p,d,_,_,7,3,rfl,hB2,by lia,by decide,by decide,λ H3 hB3 kp3=>?_⟩;obtain⟨dx3,B3,r3,k3,hp3,hd3,br3,hk3⟩:=id hB3;have er:((r:Nat):Int)-3=((r-3:Nat):Int):=by lia
    refine⟨_,rfl,p,dx3,_,rfl,hp3,no _ _,_,rfl,_,_,rfl,rfl,?_⟩
    try dsimp only
    rw [er];refine⟨p,d,_,_,r-3,6,rfl,hB3,by lia,by decide,(by show r-3<2^6;lia),λ H4 hB4 kp4=>?_⟩;refine⟨_,rfl,_,rfl,_,_,rfl,rfl,q+r,ah,Pp++[.rep r],some (vN r),by lia,?_,by have:=hsz.2;show q+r≤272;have e:(Itm.rep r).size=r:=rfl;lia,hws,?_,λ c o e n1 n2=>kp4 _ _ (kp3 _ _ (kp _ _ e n1 n2) n1 n2) n1 n2⟩
    ·have e2:((q:Nat):Int)+((r:Nat):Int)=((q+r:Nat):Int):=by lia
     try dsimp only
     rw [e2];rfl
    ·rw [cM,bp,aC];have e5:T0+(tots (puts Pp)+tots (puts [Itm.rep r]))=T0+tots (puts Pp)+3+6:=by
      have:tots (puts [Itm.rep r])=9:=rfl;lia
     rw [e5];exact hB4
   ·have h4:¬3≤min 66 (run ah (L.drop q)):=λ z=>h3 (decide_eq_true (by lia))
    have est:stAt L q ah=.one L[q]:=by unfold stAt;rw [if_neg h4];simp [List.getD,hqL]
    rw [est] at hws;have hx6:L[q]≤6:=h6 _ (List.getElem_mem hqL);refine⟨_,rfl,_,rfl,a,_,_,_,rfl,rfl,SqL.of ha2,aw (bC hqL),?_⟩;refine⟨_,rfl,p,dx,_,rfl,hp2,no _ _,_,rfl,p,d,_,_,L[q],3,rfl,hB2,by lia,by decide,(by show L[q]<2^3;lia),λ H3 hB3 kp3=>?_⟩;refine⟨_,rfl,_,_,rfl,rfl,q+1,L[q],Pp++[.one L[q]],_,by lia,rfl,by lia,hws,?_,λ c o e n1 n2=>kp3 _ _ (kp _ _ e n1 n2) n1 n2⟩;rw [cM,bp,aC];have e5:T0+(tots (puts Pp)+tots (puts [Itm.one L[q]]))=T0+tots (puts Pp)+3:=by
     have:tots (puts [Itm.one L[q]])=3:=rfl;lia
    rw [e5];exact hB3
  ·have hq2:q=272:=by
    have h1:¬(decide (((q:Nat):Int)<272)=true):=hc;have:¬(((q:Nat):Int)<272):=λ z=>h1 (decide_eq_true z)
    lia
   subst hq2;exact k Pp ah H2 hw hB2 kp
end
theorem kH:∀(Q:List Itm) (b:Nat),(∀x∈Q,1≤x.size)->Q.length≤(decL b Q).length
 | [],b,_=>Nat.le_refl _
 |x::Q,b,h=>by
  have h1:=kH Q (x.next b) (λ y hy=>h y (List.mem_cons_of_mem _ hy));have h2:=bN [x] Q b;have h3:decL b (x::Q)=decL b [x]++decL (x.next b) Q:=h2;rw [h3,List.length_append,jM,List.length_cons];have:=h x List.mem_cons_self;lia
theorem pT (r a:Nat):(List.replicate r [vN a]).flatten=(List.replicate r a).map vN:=by
 induction r with
 |zero=>rfl
 |succ r ih=>rw [List.replicate_succ,List.flatten_cons,ih];rfl
section
variable {P : Program} {w : World} {K : PySem.W.Frag} {mg : Str -> Option Value} {base : Heap} {C : Addr}
structure Told (pre post:List (Nat×Nat))(Pp:List Itm)(R:List Nat):Prop where
 row:RowOf (nums (pre++puts Pp++post) 0) (tots (pre++puts Pp++post)) R
 gpost:Good post
 ok:∀x∈Pp,StOk x
theorem Told.len {pre post:List (Nat×Nat)}{Pp:List Itm}{R:List Nat}(h:Told pre post Pp R):∃e,8*R.length=tots (pre++puts Pp++post)+e/\val R=nums (pre++puts Pp++post) 0*2^e:=by
 have h1:=h.row.len;have h2:=h.row.num;refine⟨8*R.length-tots (pre++puts Pp++post),by lia,h2⟩
theorem Told.at {pre post:List (Nat×Nat)}{Pp:List Itm}{R:List Nat}(h:Told pre post Pp R){A Z:List Itm}{x y:List (Nat×Nat)}{n s:Nat}(e:puts Pp=puts A++x++(n,s)::y++puts Z)(hy:Good y)(hZ:∀z∈Z,StOk z)(hn:n<2^s):
  tots pre+(tots (puts A)+tots x)+s≤8*R.length/\val R/2^(8*R.length-(tots pre+(tots (puts A)+tots x)+s))%2^s=n:=by
 obtain⟨q,hL,hv⟩:=h.len;have e1:pre++puts Pp++post=(pre++puts A++x)++(n,s)::(y++puts Z++post):=by rw [e];simp [List.append_assoc]
 have g:Good (y++puts Z++post):=by
  intro z hz;rcases List.mem_append.mp hz with hz|hz
  ·rcases List.mem_append.mp hz with hz|hz
   ·exact hy z hz
   ·exact puts_good hZ z hz
  ·exact h.gpost z hz
 rw [e1] at hL hv;have t:=j7 (a:=pre++puts A++x) (c:=y++puts Z++post) (n:=n) (s:=s) g hn (e:=q) (L:=8*R.length) hL;have et:tots (pre++puts A++x)=tots pre+(tots (puts A)+tots x):=by rw [aC,aC];lia
 rw [et] at t;refine⟨?_,by rw [hv];exact t⟩;rw [aC,bv,et] at hL;simp only [] at hL;lia
def nc (C:Addr):Sp:=λ vs H Q _=>∃(p d:Addr) (R:List Nat) (pre post:List (Nat×Nat)) (Pp:List Itm),vs=[.ref p]/\ReadAt C H p d R (tots pre)/\Told pre post Pp R/\(decL 0 Pp).length=272/\
 ∀(l:Addr) (H':Hp),H l=none->H' l=some (.lst ((decL 0 Pp).map vN))->ReadAt C H' p d R (tots pre+tots (puts Pp))->(∀c o,H c=some o->c≠p->H' c=some o)->Q (.ref l) H'
theorem scItems:FnScope ["reader","lengths","ahead","told"] ["reader"] (defScope gN):=⟨rfl,rfl,rfl,by decide+kernel,rfl,by decide+kernel,by decide+kernel⟩
theorem rA {x:Itm}(h:StOk x):1≤x.size:=by
 cases x with
 |one y=>exact Nat.le_refl _
 |rep r=>obtain⟨h1,h2⟩:3≤r/\r≤66:=h;show 1≤r;lia
theorem qq {f:Addr}{fd:FuncData}(F:Fn K mg "lengths_in_items" gN ["reader"] f fd)(D:Rdr K mg C):FnOk P w K mg base CX0 4 f fd ["reader"] (nc C):=by
 have X:=D.R.X;obtain⟨_,_,W⟩:=D.R.whole;obtain⟨_,_,S⟩:=D.needsize;obtain⟨_,_,O⟩:=D.ones;obtain⟨_,_,BA⟩:=D.bitsat;obtain⟨_,_,Tk⟩:=D.take;obtain⟨_,_,Le⟩:=D.left;have T:=D.T;have GT:=f8 (P:=P) (w:=w) (base:=base) Tk.F S W BA O Le T X;obtain⟨tm,hm⟩:=X.many;obtain⟨ta,hag⟩:=X.again;obtain⟨tl,hle⟩:=X.leastA;refine F.F.ok scItems (λ vs H Q E h=>?_) (λ cdv A outer st H vs Q E hr h=>?_)
 ·obtain⟨p,d,R,pre,post,Pp,rfl,_⟩:=h;rfl
 ·obtain⟨p,d,R,pre,post,Pp,rfl,hR,hT,h272,k⟩:=h;refine⟨_,ac (aj (i:=1) scItems.nd rfl (Or.inl rfl) (aV ad))
   (ac (aj (i:=2) scItems.nd rfl (Or.inl rfl) ae)
   (ac (bF PassesOwn.never (ar df (aq ao (by rfl) X.len PySem.boot_len (aa (pv 1) ad)) (aK (v:=.int 272) (by rfl) hm ⟨tm,rfl⟩) (ax _))
    (ac (aj (i:=3) scItems.nd rfl (Or.inl rfl) (a6 (pv 0) T.cl Tk.m GT hr Tk.b .nil ap (aa ae ad)))
    (ag (aM (ar bh (pv 3) (aK (v:=.int 7) (by rfl) hag ⟨ta,rfl⟩) (ax _))
     (ag (aD (b7 PySem.F.plainAttrs_list PySem.F.slot_list_extend PySem.F.type_list_extend oS (pv 1) (aa (ai fE (aV (aa (pv 2) ad)) (ai aA (a6 (pv 0) T.cl Tk.m GT hr Tk.b .nil ap (aa ae ad)) (aK (v:=.int 3) (by rfl) hle ⟨tl,rfl⟩))) ad))))
     (ac (aj (i:=2) scItems.nd rfl (Or.inl rfl) (pv 3))
     (ag (aD (b7 PySem.F.plainAttrs_list PySem.F.slot_list_append PySem.F.type_list_append aO (pv 1) (aa (pv 2) ad)))))))))
   (ag (az (pv 1))))),?_⟩
  refine seq_g λ R1 g1=>?_
  refine⟨by decide,λ l nl=>g1 _ _ ?_⟩;clear g1;have s0:=ak (o:=.lst []) nl;refine seq_g λ R1 g1=>g1 _ _ ?_
  clear g1;refine seq_g λ R1 g1=>?_
  have npl:p≠l:=by obtain⟨⟨dx,hp⟩,_⟩:=hR;exact af hp nl
  have ndl:d≠l:=af hR.ls nl;refine⟨λ n σ H2=>∃(i:Nat) (v3:Option V),n=Pp.length-i/\i≤Pp.length/\σ=[some (.ref p),some (.ref l),some (vN (nxtS 0 (Pp.take i))),v3]/\H2 l=some (.lst ((decL 0 (Pp.take i)).map vN))/\ReadAt C H2 p d R (tots pre+tots (puts (Pp.take i)))/\(∀c o,H c=some o->c≠p->H2 c=some o),
   ⟨Pp.length,0,none,rfl,Nat.zero_le _,rfl,upd_same,⟨hR.ob.elim λ dx hp=>⟨dx,s0 _ _ hp⟩,s0 _ _ hR.ls,hR.by',hR.le⟩,λ c o e _=>s0 _ _ e⟩,?_⟩
  rintro n σ H2 ⟨i,v3,rfl,hi,rfl,h2l,hR2,kp⟩;refine⟨_,rfl,l,_,rfl,.inl (SqL.of h2l),_,_,rfl,rfl,_,rfl,aJ (λ hc=>?_) (λ hc=>?_)⟩
  ·clear g1;have hlt:(decL 0 (Pp.take i)).length<272:=by have:=of_decide_eq_true hc;rw [List.length_map] at this;lia
   have hiP:i<Pp.length:=by
    rcases Nat.lt_or_ge i Pp.length with h|h
    ·exact h
    ·rw [List.take_of_length_le h] at hlt;lia
   have hPi:Pp[i]?=some Pp[i]:=List.getElem?_eq_getElem hiP;have esp:Pp=Pp.take i++Pp[i]::Pp.drop (i+1):=by
    conv=>lhs;rw [<-List.take_append_drop i Pp,List.drop_eq_getElem_cons hiP]
   have etk:Pp.take (i+1)=Pp.take i++[Pp[i]]:=by rw [List.take_add_one,hPi];rfl
   have hok:=hT.ok Pp[i] (List.getElem_mem hiP);have hokZ:∀z∈Pp.drop (i+1),StOk z:=λ z hz=>hT.ok z (List.mem_of_mem_drop hz)
   have eputs:puts Pp=puts (Pp.take i)++Pp[i].puts++puts (Pp.drop (i+1)):=by
    conv=>lhs;rw [esp]
    rw [cM,List.append_assoc];rfl
   have e272:decL 0 Pp=decL 0 (Pp.take i)++(decL (nxtS 0 (Pp.take i)) [Pp[i]]++decL (Pp[i].next (nxtS 0 (Pp.take i))) (Pp.drop (i+1))):=by
    conv=>lhs;rw [esp]
    rw [bN];have:=bN [Pp[i]] (Pp.drop (i+1)) (nxtS 0 (Pp.take i));exact congrArg _ this
   have hle2:(decL 0 (Pp.take i)).length+Pp[i].size≤272:=by
    have:=congrArg List.length e272;rw [h272,List.length_append,List.length_append,jM] at this;lia
   have en:nxtS 0 (Pp.take (i+1))=Pp[i].next (nxtS 0 (Pp.take i)):=by rw [etk,iB]
   have ed:decL 0 (Pp.take (i+1))=decL 0 (Pp.take i)++decL (nxtS 0 (Pp.take i)) [Pp[i]]:=by rw [etk,fq]
   have ep:tots (puts (Pp.take (i+1)))=tots (puts (Pp.take i))+tots Pp[i].puts:=by
    rw [etk,cM,aC];congr 1;simp [puts]
   refine⟨λ σ' H'=>∃v3:Option V,σ'=[some (.ref p),some (.ref l),some (vN (nxtS 0 (Pp.take (i+1)))),v3]/\H' l=some (.lst ((decL 0 (Pp.take (i+1))).map vN))/\ReadAt C H' p d R (tots pre+tots (puts (Pp.take (i+1))))/\(∀c o,H c=some o->c≠p->H' c=some o),
    λ σ' H' ⟨v3,z⟩=>⟨Pp.length-(i+1),by lia,i+1,v3,rfl,hiP,z⟩,?_⟩
   rw [en,ed,ep];generalize nxtS 0 (Pp.take i)=ah at*;generalize hX:Pp[i]=xx at*;have hrd:∀(t:Nat) (H3:Hp),ReadAt C H3 p d R t->∃dx,H3 p=some (.ins C dx (fR d t)):=λ t H3 h=>h.ob
   have no:∀t,(fR d t).lookup ("take":Str)=none:=λ t=>eu _ _ (by decide+kernel) (by decide+kernel)
   obtain⟨dx,hp2⟩:=hR2.ob;cases xx with
   |one y=>
    have hy6:y≤6:=hok;obtain⟨b1,b2⟩:=hT.at (A:=Pp.take i) (x:=[]) (n:=y) (s:=3) (y:=[]) (Z:=Pp.drop (i+1)) (by rw [eputs];simp [Itm.puts]) (λ _ h=>by simp at h) hokZ (by show y<2^3;lia);have ez:tots ([]:List (Nat×Nat))=0:=rfl;simp only [ez,Nat.add_zero] at b1 b2;refine seq_g λ R2 g2=>?_
    refine⟨_,rfl,p,dx,_,rfl,hp2,no _,p,d,R,_,3,rfl,hR2,by decide,b1,λ H3 hR3 kp3=>g2 _ _ ?_⟩;clear g2;rw [b2];have h3l:=kp3 _ _ h2l npl.symm;refine⟨_,rfl,rfl,_,rfl,aJ (λ h=>?_) (λ _=>?_)⟩
    ·have:y=7:=vN_inj.mp (of_decide_eq_true h);lia
    refine⟨_,rfl,_,rfl,.inl ⟨rfl,_,SqL.of h3l⟩,_,rfl,l,_,_,rfl,rfl,h3l,aU (by rw [List.length_map];lia),some (vN y),rfl,?_,?_,λ c o e n1=>?_⟩
    ·rw [upd_same,List.map_append];rfl
    ·obtain⟨⟨dx3,hp3⟩,hd3,hb3,ht3⟩:=hR3;exact⟨⟨dx3,by rw [upd_ne npl];exact hp3⟩,by rw [upd_ne ndl];exact hd3,hb3,ht3⟩
    ·rw [upd_ne (af e nl)];exact kp3 _ _ (kp _ _ e n1) n1
   |rep r=>
    obtain⟨r1,r2⟩:3≤r/\r≤66:=hok;have hsz:(Itm.rep r).size=r:=rfl;rw [hsz] at hle2;obtain⟨b1,b2⟩:=hT.at (A:=Pp.take i) (x:=[]) (n:=7) (s:=3) (y:=[(r-3,6)]) (Z:=Pp.drop (i+1)) (by rw [eputs];simp [Itm.puts]) (λ z h=>by simp at h;rw [h];show r-3<2^6;lia) hokZ (by decide);obtain⟨b3,b4⟩:=hT.at (A:=Pp.take i) (x:=[(7,3)]) (n:=r-3) (s:=6) (y:=[]) (Z:=Pp.drop (i+1)) (by rw [eputs];simp [Itm.puts]) (λ _ h=>by simp at h) hokZ (by show r-3<2^6;lia);have ez:tots ([]:List (Nat×Nat))=0:=rfl;have ez3:tots ([(7,3)]:List (Nat×Nat))=3:=rfl;simp only [ez,Nat.add_zero] at b1 b2;simp only [ez3,<-Nat.add_assoc] at b3 b4;refine seq_g λ R2 g2=>?_
    refine⟨_,rfl,p,dx,_,rfl,hp2,no _,p,d,R,_,3,rfl,hR2,by decide,b1,λ H3 hR3 kp3=>g2 _ _ ?_⟩;clear g2;rw [b2];have h3l:=kp3 _ _ h2l npl.symm;refine⟨_,rfl,rfl,_,rfl,aJ (λ _=>?_) (λ h=>absurd (decide_eq_true rfl) h)⟩;refine⟨_,rfl,.inl ⟨rfl,_,SqL.of h3l⟩,_,rfl,(by show 1≤sizeLine;decide),λ l4 n4=>?_⟩;have s4:=ak (o:=.lst [vN ah]) n4;obtain⟨⟨dx3,hp3⟩,hd3,hb3,ht3⟩:=id hR3;have hR4:ReadAt C (upd H3 l4 (.lst [vN ah])) p d R (tots pre+tots (puts (Pp.take i))+3):=⟨⟨dx3,s4 _ _ hp3⟩,s4 _ _ hd3,hb3,ht3⟩;have h4l:=s4 _ _ h3l;have h44:(upd H3 l4 (.lst [vN ah])) l4=some (.lst [vN ah]):=upd_same;have np4:p≠l4:=af hp3 n4;have nl4:l≠l4:=af h3l n4;generalize upd H3 l4 (.lst [vN ah])=H4 at*;refine⟨_,rfl,p,dx3,_,rfl,s4 _ _ hp3,no _,p,d,R,_,6,rfl,hR4,by decide,b3,λ H5 hR5 kp5=>?_⟩;rw [b4];have h54:=kp5 _ _ h44 np4.symm;have h5l:=kp5 _ _ h4l npl.symm;have er:((r-3:Nat):Int)+3=((r:Nat):Int):=by lia
    refine⟨_,_,rfl,rfl,?_⟩
    try dsimp only
    rw [er];refine⟨l4,_,_,rfl,rfl,h54,by lia,by lia,dj (by rw [Int.toNat_natCast];show 1*r≤2000;lia),λ l6 n6=>?_⟩
    try dsimp only
    rw [Int.toNat_natCast,pT];have s6:=ak (o:=.lst ((List.replicate r ah).map vN)) n6;have h66:(upd H5 l6 (.lst ((List.replicate r ah).map vN))) l6=some (.lst ((List.replicate r ah).map vN)):=upd_same;have h6l:=s6 _ _ h5l;obtain⟨⟨dx5,hp5⟩,hd5,hb5,ht5⟩:=id hR5;have hp6:=s6 _ _ hp5;have hd6:=s6 _ _ hd5;generalize upd H5 l6 (.lst ((List.replicate r ah).map vN))=H6 at*;refine⟨l,l6,_,_,rfl,rfl,h6l,h66,dj (by rw [List.length_map,List.length_map,List.length_replicate];lia),some (vN 7),rfl,?_,?_,λ c o e n1=>?_⟩
    ·rw [upd_same,List.map_append];simp [decL]
    ·have et:tots pre+(tots (puts (Pp.take i))+tots (Itm.rep r).puts)=tots pre+tots (puts (Pp.take i))+3+6:=by
      have:tots (Itm.rep r).puts=9:=rfl;lia
     rw [et];exact⟨⟨dx5,by rw [upd_ne npl];exact hp6⟩,by rw [upd_ne ndl];exact hd6,hb5,ht5⟩
    ·rw [upd_ne (af e nl)];exact s6 _ _ (kp5 _ _ (s4 _ _ (kp3 _ _ (kp _ _ e n1) n1)) n1)
  ·have hge:272≤(decL 0 (Pp.take i)).length:=by
    have h1:¬(decide ((((decL 0 (Pp.take i)).map vN).length:Int)<272)=true):=hc;rw [List.length_map] at h1;have:¬(((decL 0 (Pp.take i)).length:Int)<272):=λ z=>h1 (decide_eq_true z)
    lia
   have hi2:i=Pp.length:=by
    rcases Nat.lt_or_ge i Pp.length with h|h
    ·have e:=bN (Pp.take i) (Pp.drop i) 0;rw [List.take_append_drop] at e;have e2:=congrArg List.length e;rw [h272,List.length_append] at e2;have h3:=kH (Pp.drop i) (nxtS 0 (Pp.take i)) (λ x hx=>rA (hT.ok x (List.mem_of_mem_drop hx)));rw [List.length_drop] at h3;lia
    ·lia
   subst hi2;rw [List.take_length] at h2l hR2;exact g1 _ _ ⟨_,rfl,k l H2 nl h2l hR2 kp⟩
theorem scTakeTable:FnScope ["reader","begin","lengths"] ["reader"] (defScope db):=⟨rfl,rfl,rfl,by decide+kernel,rfl,by decide+kernel,by decide+kernel⟩
theorem ok_taketable {f fI:Addr}{fd fdI:FuncData}(F:Fn K mg "take_table" db ["reader"] f fd)(It:Fn K mg "lengths_in_items" gN ["reader"] fI fdI)(D:Rdr K mg C):FnOk P w K mg base CX0 5 f fd ["reader"] (nc C):=by
 have GI:=qq (P:=P) (w:=w) (base:=base) It D;have X:=D.R.X;obtain⟨_,_,Pl⟩:=D.place;have T:=D.T;have GP:=gP (P:=P) (w:=w) (base:=base) (mg:=mg) Pl.F T;obtain⟨tm,hm⟩:=X.many;refine F.F.ok scTakeTable (λ vs H Q E h=>?_) (λ cdv A outer st H vs Q E hr h=>?_)
 ·obtain⟨p,d,R,pre,post,Pp,rfl,_⟩:=h;rfl
 ·obtain⟨p,d,R,pre,post,Pp,rfl,hR,hT,h272,k⟩:=h;have hr1:Room 1 _:=hr.mono (by decide);refine⟨_,ac (aj (i:=1) scTakeTable.nd rfl (Or.inl rfl) (bi (pv 0) T.cl Pl.m GP hr1 Pl.b .nil ap))
   (ac (ji (ag (aj (i:=2) scTakeTable.nd rfl (Or.inl rfl) (am GI hr (by rfl) It.m It.F.kp It.b .nil ap (aa (pv 0) ad)))))
   (ac (aM (ar cz (aq ao (by rfl) X.len PySem.boot_len (aa (pv 2) ad)) (aK (v:=.int 272) (by rfl) hm ⟨tm,rfl⟩) (ax _)) pb aB)
   (ag (az (pv 2))))),?_⟩
  obtain⟨dx,hp⟩:=hR.ob;refine⟨_,rfl,p,dx,_,rfl,hp,eu _ _ (by decide+kernel) (by decide+kernel),p,d,R,_,rfl,hR,?_⟩;refine⟨_,rfl,p,d,R,pre,post,Pp,rfl,hR,hT,h272,λ l H2 nl h2l hR2 kp=>?_⟩;refine⟨_,rfl,l,_,rfl,.inl (SqL.of h2l),_,_,rfl,rfl,_,rfl,aJ (λ h=>?_) (λ _=>?_)⟩
  ·have:=of_decide_eq_true h;rw [List.length_map,h272] at this;lia
  ·exact⟨_,rfl,k l H2 nl h2l hR2 kp⟩
end
end K19.Tb
namespace C9
def ed (L:List Nat):Nat->Nat
 |0=>0
 |j+1=>2*ed L j+L.count (j+1)
def cdAt (L:List Nat)(q s:Nat):Nat:=2*ed L (s-1)+(L.take q).count s
def itm (L:List Nat)(j p q:Nat):Option (Nat×Nat):=if 1≤L.getD q 0/\(L.getD q 0≤j\/(L.getD q 0=j+1/\q<p)) then some (cdAt L q (L.getD q 0),L.getD q 0) else none
def row (L:List Nat)(j p:Nat):List (Option (Nat×Nat)):=(List.range L.length).map (itm L j p)
def codes (L:List Nat):List (Option (Nat×Nat)):=row L 12 0
theorem aW (L:List Nat)(j p:Nat):(row L j p).length=L.length:=by simp [row]
theorem cB {L:List Nat}{j p q:Nat}(h:q<L.length):(row L j p)[q]?=some (itm L j p q):=by simp [row,h]
theorem qN (L:List Nat):row L 0 0=List.replicate L.length none:=by
 apply List.ext_getElem?;intro q;by_cases h:q<L.length
 ·rw [cB h,List.getElem?_replicate,if_pos h];congr 1;unfold itm;rw [if_neg (by lia)]
 ·rw [List.getElem?_eq_none (by rw [aW];lia),List.getElem?_eq_none (by rw [List.length_replicate];lia)]
theorem qM (L:List Nat)(j:Nat):row L j L.length=row L (j+1) 0:=by
 apply List.ext_getElem?;intro q;by_cases h:q<L.length
 ·rw [cB h,cB h];congr 1;unfold itm;by_cases c:1≤L.getD q 0/\(L.getD q 0≤j\/(L.getD q 0=j+1/\q<L.length))
  ·rw [if_pos c,if_pos (by lia)]
  ·rw [if_neg c,if_neg (by lia)]
 ·rw [List.getElem?_eq_none (by rw [aW];lia),List.getElem?_eq_none (by rw [aW];lia)]
theorem tP {L:List Nat}{j p:Nat}(h:L[p]?=some (j+1)):row L j (p+1)=(row L j p).set p (some (cdAt L p (j+1),j+1)):=by
 have hp:p<L.length:=(List.getElem?_eq_some_iff.mp h).1;have hg:L.getD p 0=j+1:=by rw [List.getD_eq_getElem?_getD,h];rfl
 apply List.ext_getElem?;intro q;by_cases e:p=q
 ·subst e;rw [cB hp,List.getElem?_set_self (by rw [aW];exact hp)];congr 1;unfold itm;rw [hg,if_pos (by lia)]
 ·rw [List.getElem?_set_ne e];by_cases hq:q<L.length
  ·rw [cB hq,cB hq];congr 1;unfold itm;by_cases c:1≤L.getD q 0/\(L.getD q 0≤j\/(L.getD q 0=j+1/\q<p))
   ·rw [if_pos c,if_pos (by lia)]
   ·rw [if_neg c,if_neg (by lia)]
  ·rw [List.getElem?_eq_none (by rw [aW];lia),List.getElem?_eq_none (by rw [aW];lia)]
theorem qo {L:List Nat}{j p:Nat}(h:L[p]?≠some (j+1)):row L j (p+1)=row L j p:=by
 apply List.ext_getElem?;intro q;by_cases hq:q<L.length
 ·rw [cB hq,cB hq];congr 1;unfold itm;have hne:q=p->L.getD q 0≠j+1:=by
   rintro rfl e;apply h;rw [List.getD_eq_getElem?_getD,List.getElem?_eq_getElem hq] at e;rw [List.getElem?_eq_getElem hq];exact congrArg some e
  by_cases c:1≤L.getD q 0/\(L.getD q 0≤j\/(L.getD q 0=j+1/\q<p))
  ·rw [if_pos c,if_pos (by lia)]
  ·rw [if_neg c,if_neg (by
    intro z;apply c;refine⟨z.1,?_⟩;rcases z.2 with z|⟨z1,z2⟩
    ·exact .inl z
    ·refine .inr ⟨z1,?_⟩;have:q≠p:=λ e=>hne e z1
     lia)]
 ·rw [List.getElem?_eq_none (by rw [aW];lia),List.getElem?_eq_none (by rw [aW];lia)]
theorem mO (L:List Nat)(j p:Nat):cdAt L p (j+1)=2*ed L j+(L.take p).count (j+1):=rfl
theorem code_hit {L:List Nat}{j p:Nat}(h:L[p]?=some (j+1)):cdAt L (p+1) (j+1)=cdAt L p (j+1)+1:=by
 unfold cdAt;rw [List.take_add_one,h,List.count_append];simp;lia
theorem code_pass {L:List Nat}{j p:Nat}(h:L[p]?≠some (j+1)):cdAt L (p+1) (j+1)=cdAt L p (j+1):=by
 unfold cdAt;rw [List.take_add_one,List.count_append];cases e:L[p]? with
 |none=>simp
 |some z=>
  rw [e] at h;have:z≠j+1:=λ q=>h (by rw [q])
  simp [List.count_singleton,this]
theorem code_end (L:List Nat)(j:Nat):cdAt L L.length (j+1)=ed L (j+1):=by
 rw [mO,List.take_length];rfl
theorem mI (L:List Nat)(a:Nat):∀d,2^d*ed L a≤ed L (a+d)
 |0=>by simp
 |d+1=>by
  have:=mI L a d;show _≤2*ed L (a+d)+_;rw [Nat.pow_succ];have:2^d*2*ed L a=2*(2^d*ed L a):=by rw [Nat.mul_comm (2^d) 2,Nat.mul_assoc]
  lia
theorem uO (L:List Nat):∀j,ed L j+L.length≤L.length*2^j
 |0=>by simp [ed]
 |j+1=>by
  have:=uO L j;have:=List.count_le_length (a:=j+1) (l:=L);rw [ed,Nat.pow_succ,<-Nat.mul_assoc];lia
theorem mT {L:List Nat}{q s:Nat}(h:L[q]?=some s)(hs:1≤s):cdAt L q s<ed L s:=by
 obtain⟨j,rfl⟩:∃j,s=j+1:=⟨s-1,by lia⟩;have h1:=code_hit (j:=j) h;have h2:cdAt L (q+1) (j+1)≤ed L (j+1):=by
  rw [<-code_end];unfold cdAt;have:List.count (j+1) (List.take (q+1) L)≤List.count (j+1) (List.take L.length L):=by
   rw [List.take_length];exact List.Sublist.count_le _ (List.take_sublist _ _)
  lia
 lia
theorem xi {L:List Nat}{q1 q2 s1 s2:Nat}(h1:L[q1]?=some s1)(p1:1≤s1)(lt:s1<s2):cdAt L q2 s2/2^(s2-s1)≠cdAt L q1 s1:=by
 have a:=mT h1 p1;have b:2^(s2-s1)*ed L s1≤cdAt L q2 s2:=by
  have:=mI L s1 (s2-1-s1);rw [show s1+(s2-1-s1)=s2-1 by lia] at this;rw [show s2-s1=(s2-1-s1)+1 by lia,Nat.pow_succ];unfold cdAt;have e:2^(s2-1-s1)*2*ed L s1=2*(2^(s2-1-s1)*ed L s1):=by rw [Nat.mul_comm (2^(s2-1-s1)) 2,Nat.mul_assoc]
  lia
 have c:ed L s1≤cdAt L q2 s2/2^(s2-s1):=(Nat.le_div_iff_mul_le (Nat.pow_pos (by decide))).mpr (by rw [Nat.mul_comm];exact b);lia
def krf (m:Nat)(L:List Nat):Nat:=((L.filter (λ l=>decide (0<l))).map (λ l=>2^(m-l))).sum
theorem krf_nil (m:Nat):krf m []=0:=rfl
theorem krf_snoc (m:Nat)(L:List Nat)(l:Nat):krf m (L++[l])=krf m L+(if 0<l then 2^(m-l) else 0):=by
 unfold krf;rw [List.filter_append,List.map_append,List.sum_append];by_cases h:0<l<;>simp [h]
theorem krf_app (m:Nat)(L M:List Nat):krf m (L++M)=krf m L+krf m M:=by
 unfold krf;rw [List.filter_append,List.map_append,List.sum_append]
theorem krf_up {m:Nat}(hm:m≤12):∀L:List Nat,(∀l∈L,l≤m)->krf 12 L=2^(12-m)*krf m L
 | [],_=>rfl
 |a::L,h=>by
  have ih:=krf_up hm L λ l z=>h l (List.mem_cons_of_mem _ z)
  have ha:=h a List.mem_cons_self;unfold krf at ih ⊢;by_cases c:0<a
  ·simp only [List.filter_cons,c,decide_true,if_true,List.map_cons,List.sum_cons];rw [ih,Nat.mul_add,<-Nat.pow_add];congr 2;lia
  ·simp only [List.filter_cons,c,decide_false,Bool.false_eq_true,if_false];exact ih
structure Good (L:List Nat):Prop where
 ne:1≤L.length
 le:L.length≤300
 most:∀l∈L,l≤12
 some:∃l∈L,0<l
 room:krf 12 L≤4096
end C9
namespace C10
open BP C9
def kle (L:List Nat)(j:Nat):Nat:=krf 12 (L.filter λ l=>decide (l≤j))
theorem dO (p:Nat->Bool):∀L:List Nat,krf 12 (L.filter p)≤krf 12 L
 | []=>Nat.le_refl _
 |a::L=>by
  have ih:=dO p L;have e:∀M:List Nat,krf 12 (a::M)=krf 12 [a]+krf 12 M:=λ M=>krf_app 12 [a] M
  by_cases h:p a=true
  ·rw [List.filter_cons_of_pos h,e (L.filter p),e L];lia
  ·rw [List.filter_cons_of_neg h,e L];lia
theorem qK (L:List Nat)(j:Nat):kle L (j+1)=kle L j+L.count (j+1)*2^(12-(j+1)):=by
 induction L with
 |nil=>simp [kle]
 |cons a L ih=>
  have e:∀M:List Nat,krf 12 (a::M)=krf 12 [a]+krf 12 M:=λ M=>krf_app 12 [a] M
  unfold kle at ih ⊢;rw [List.count_cons];by_cases h1:a≤j
  ·rw [List.filter_cons_of_pos (by simp;lia),List.filter_cons_of_pos (by simpa using h1),e (L.filter λ l=>decide (l≤j+1)),e (L.filter λ l=>decide (l≤j)),ih,if_neg (by simp;lia)];simp only [Nat.add_zero];lia
  ·by_cases h2:a=j+1
   ·subst h2;rw [List.filter_cons_of_pos (by simp),List.filter_cons_of_neg (by simp),e (L.filter λ l=>decide (l≤j+1)),ih,if_pos (by simp)];have:krf 12 [j+1]=2^(12-(j+1)):=by
     unfold krf;simp
    rw [this,Nat.add_mul,Nat.one_mul];lia
   ·rw [List.filter_cons_of_neg (by simp;lia),List.filter_cons_of_neg (by simpa using h1),ih,if_neg (by simpa using h2)];simp only [Nat.add_zero]
theorem qi (L:List Nat):∀j,j≤12->ed L j*2^(12-j)=kle L j
 |0,_=>by
  unfold kle krf;have:((L.filter λ l=>decide (l≤0)).filter λ l=>decide (0<l))=[]:=by
   rw [List.filter_filter,List.filter_eq_nil_iff];intro a _;simp;lia
  rw [this];simp [ed]
 |j+1,h=>by
  have ih:=qi L j (by lia);rw [qK,<-ih];show(2*ed L j+L.count (j+1))*2^(12-(j+1))=_;rw [Nat.add_mul,show 12-j=(12-(j+1))+1 by lia,Nat.pow_succ];congr 1;rw [Nat.mul_comm 2,Nat.mul_assoc,Nat.mul_comm 2]
theorem wl {L:List Nat}(g:Good L){j:Nat}(hj:j≤12):ed L j≤2^j:=by
 have h:=qi L j hj;have h1:kle L j≤4096:=Nat.le_trans (dO _ L) g.room;have h2:2^j*2^(12-j)=4096:=by rw [<-Nat.pow_add,show j+(12-j)=12 by lia]
 rw [<-h,<-h2] at h1;exact Nat.le_of_mul_le_mul_right h1 (Nat.pow_pos (by decide))
theorem lS {L:List Nat}(g:Good L){q s:Nat}(h:L[q]?=some s):s≤12:=g.most s (List.mem_of_getElem? h)
theorem cd_lt {L:List Nat}(g:Good L){q s:Nat}(h:L[q]?=some s)(hs:1≤s):cdAt L q s<2^s:=
 Nat.lt_of_lt_of_le (mT h hs) (wl g (lS g h))
theorem qp {L:List Nat}{q r s:Nat}(h1:L[q]?=some s)(h2:L[r]?=some s)(e:cdAt L q s=cdAt L r s):q=r:=by
 have key:∀q r:Nat,L[q]?=some s->q<r->(L.take q).count s<(L.take r).count s:=λ q r h1 h=>by
  have e1:L.take (q+1)=L.take q++[s]:=by rw [List.take_add_one,h1];rfl
  have e2:(L.take (q+1)).count s=(L.take q).count s+1:=by rw [e1,List.count_append];simp
  have e3:(L.take (q+1)).count s≤(L.take r).count s:=by
   have:L.take (q+1)=(L.take r).take (q+1):=by rw [List.take_take,Nat.min_eq_left (by lia)]
   rw [this];exact List.Sublist.count_le _ (List.take_sublist _ _)
  lia
 unfold cdAt at e;rcases Nat.lt_trichotomy q r with h|h|h
 ·have:=key q r h1 h;lia
 ·exact h
 ·have:=key r q h2 h;lia
def c7 (L:List Nat)(u:List Bool)(q:Nat):Prop:=L[q]?=some u.length/\1≤u.length/\cdAt L q u.length=num u
def Beg (L:List Nat)(u:List Bool):Prop:=∃q s,L[q]?=some s/\u.length<s/\cdAt L q s/2^(s-u.length)=num u
theorem gO {L:List Nat}{u:List Bool}{q:Nat}(h:c7 L u q)(b:Beg L u):False:=by
 obtain⟨h1,h2,h3⟩:=h;obtain⟨q2,s2,b1,b2,b3⟩:=b;exact xi h1 h2 b2 (b3.trans h3.symm)
theorem my {L:List Nat}{u:List Bool}{q r:Nat}(h:c7 L u q)(h':c7 L u r):q=r:=qp h.1 h'.1 (h.2.2.trans h'.2.2.symm)
inductive Res where
 |thing (q s:Nat)
 |bad
 |none
def Due (L:List Nat)(rest:List Bool):Res->Prop
 | .thing q s=>s≤rest.length/\c7 L (rest.take s) q/\∀j<s,Beg L (rest.take j)
 | .bad=>∃s,s≤rest.length/\(∀j<s,Beg L (rest.take j))/\¬Beg L (rest.take s)/\∀q,¬c7 L (rest.take s) q
 | .none=>∀j≤rest.length,Beg L (rest.take j)
theorem Due.uniq {L:List Nat}{rest:List Bool}{a b:Res}(ha:Due L rest a)(hb:Due L rest b):a=b:=by
 have tt:∀{q s q' s'},Due L rest (.thing q s)->Due L rest (.thing q' s')->s≤s':=λ {q s q' s'} h h'=>by
  rcases Nat.lt_or_ge s' s with c|c
  ·exact(gO h'.2.1 (h.2.2 s' c)).elim
  ·exact c
 have tb:∀{q s},Due L rest (.thing q s)->Due L rest .bad->False:=λ {q s} h ⟨r,h1,h2,h3,h4⟩=>by
  rcases Nat.lt_trichotomy s r with c|c|c
  ·exact gO h.2.1 (h2 s c)
  ·subst c;exact h4 q h.2.1
  ·exact h3 (h.2.2 r c)
 have tn:∀{q s},Due L rest (.thing q s)->Due L rest .none->False:=λ {q s} h h'=>gO h.2.1 (h' s h.1)
 have bn:Due L rest .bad->Due L rest .none->False:=λ⟨r,h1,h2,h3,h4⟩ h'=>h3 (h' r h1)
 cases a with
 |thing q s=>
  cases b with
  |thing q' s'=>
   have e:s=s':=Nat.le_antisymm (tt ha hb) (tt hb ha);subst e;rw [my ha.2.1 hb.2.1]
  |bad=>exact(tb ha hb).elim
  |none=>exact(tn ha hb).elim
 |bad=>
  cases b with
  |thing q' s'=>exact(tb hb ha).elim
  |bad=>rfl
  |none=>exact(bn ha hb).elim
 |none=>
  cases b with
  |thing q' s'=>exact(tn hb ha).elim
  |bad=>exact(bn hb ha).elim
  |none=>rfl
theorem num_inj:∀{a b:List Bool},a.length=b.length->num a=num b->a=b
 | [],[],_,_=>rfl
 |x::a,y::b,h,e=>by
  have hl:a.length=b.length:=by simpa using h
  rw [dh,dh,hl] at e;have h1:=num_lt a;have h2:=num_lt b;rw [hl] at h1;have exy:x=y:=by
   cases x<;>cases y<;>first|rfl|(exfalso;simp at e;lia)
  subst exy;rw [num_inj hl (by lia)]
theorem num_take (u:List Bool){k:Nat}(h:k≤u.length):num (u.take k)=num u/2^(u.length-k):=by
 have e:num u=num (u.take k)*2^(u.length-k)+num (u.drop k):=by
  have:=b9 (u.take k) (u.drop k);rw [List.take_append_drop,List.length_drop] at this;exact this
 have hlt:=num_lt (u.drop k);rw [List.length_drop] at hlt;rw [e,Nat.mul_comm,Nat.mul_add_div (Nat.pow_pos (by decide)),Nat.div_eq_of_lt hlt];rfl
def wd (c:Nat×Nat):List Bool:=dig c.1 c.2
theorem wd_num {L:List Nat}(g:Good L){q s:Nat}(h:L[q]?=some s)(hs:1≤s):num (wd (cdAt L q s,s))=cdAt L q s:=by
 unfold wd;rw [jl];exact Nat.mod_eq_of_lt (cd_lt g h hs)
theorem g9 {L:List Nat}{q:Nat}(g:Good L):(codes L)[q]?=if q<L.length then some (if 1≤L.getD q 0 then some (cdAt L q (L.getD q 0),L.getD q 0) else none) else none:=by
 unfold codes;by_cases h:q<L.length
 ·rw [cB h,if_pos h];congr 1;unfold itm;have:L.getD q 0≤12:=by
   rw [List.getD_eq_getElem?_getD,List.getElem?_eq_getElem h];exact g.most _ (List.getElem_mem h)
  by_cases c:1≤L.getD q 0
  ·rw [if_pos ⟨c,.inl this⟩,if_pos c]
  ·rw [if_neg (λ z=>c z.1),if_neg c]
 ·rw [if_neg h,List.getElem?_eq_none (by rw [aW];lia)]
theorem ml {L:List Nat}(g:Good L){q:Nat}{c:Nat×Nat}(h:(codes L)[q]?=some (some c)):L[q]?=some c.2/\1≤c.2/\c.1=cdAt L q c.2:=by
 rw [g9 g] at h
 split at h
 ·rename_i hq
  injection h with h
  split at h
  ·rename_i h1
   cases h;refine⟨?_,h1,rfl⟩;rw [List.getD_eq_getElem?_getD,List.getElem?_eq_getElem hq];rfl
  ·cases h
 ·cases h
theorem codes_of_get {L:List Nat}(g:Good L){q s:Nat}(h:L[q]?=some s)(hs:1≤s):(codes L)[q]?=some (some (cdAt L q s,s)):=by
 have hq:=(List.getElem?_eq_some_iff.mp h).1;have e:L.getD q 0=s:=by rw [List.getD_eq_getElem?_getD,h];rfl
 rw [g9 g,if_pos hq,e,if_pos hs]
end C10
set_option maxHeartbeats 4000000
namespace L2
open PySem PySem.Spec PyProof.Rows QQ
section
variable {κ : Type} [DecidableEq κ]
def bz (kvs:List (κ×V))(k:κ):Option V:=(kvs.find? λ kv=>decide (kv.1=k)).map (·.2)
def putK (kvs:List (κ×V))(k:κ)(v:V):List (κ×V):=
 if(kvs.any λ kv=>decide (kv.1=k))=true then kvs.map (λ kv=>if kv.1=k then(kv.1,v) else kv) else kvs++[(k,v)]
def uI (kvs:List (κ×V))(k:κ):List (κ×V):=kvs.filter λ kv=>decide (kv.1≠k)
theorem bq {p:κ×V}{r:List (κ×V)}{k:κ}(e:p.1=k):bz (p::r) k=some p.2:=by simp [bz,List.find?_cons,e]
theorem bo {p:κ×V}{r:List (κ×V)}{k:κ}(e:¬p.1=k):bz (p::r) k=bz r k:=by simp [bz,List.find?_cons,e]
theorem d0 (k:κ):∀kvs:List (κ×V),(kvs.any λ kv=>decide (kv.1=k))=(bz kvs k).isSome
 | []=>rfl
 |p::r=>by
  rw [List.any_cons];by_cases e:p.1=k
  ·simp only [bq e,decide_eq_true e,Bool.true_or,Option.isSome_some]
  ·rw [bo e,decide_eq_false e,Bool.false_or];exact d0 k r
theorem jW (k j:κ)(y:V):∀kvs:List (κ×V),bz (kvs.map λ kv=>if kv.1=k then(kv.1,y) else kv) j=(bz kvs j).map λ x=>if j=k then y else x
 | []=>rfl
 |p::r=>by
  have ih:=jW k j y r;rw [List.map_cons];by_cases h:p.1=k
  ·rw [if_pos h];by_cases e:p.1=j
   ·rw [bq (p:=(p.1,y)) e,bq e,Option.map_some,if_pos (e.symm.trans h)]
   ·rw [bo (p:=(p.1,y)) e,bo e,ih]
  ·rw [if_neg h];by_cases e:p.1=j
   ·rw [bq (p:=p) e,bq e,Option.map_some,if_neg (λ z=>h (e.trans z))]
   ·rw [bo (p:=p) e,bo e,ih]
theorem iz (k j:κ)(y:V):∀kvs:List (κ×V),bz kvs k=none->bz (kvs++[(k,y)]) j=if j=k then some y else bz kvs j
 | [],_=>by
  by_cases e:k=j
  ·rw [if_pos e.symm];exact bq (p:=(k,y)) e
  ·rw [if_neg (λ z=>e z.symm)];exact bo (p:=(k,y)) e
 |p::r,hn=>by
  rw [List.cons_append];have hk:¬p.1=k:=λ z=>by rw [bq z] at hn;cases hn
  rw [bo hk] at hn;have ih:=iz k j y r hn;by_cases e:p.1=j
  ·rw [bq e,bq e,if_neg (λ z=>hk (e.trans z))]
  ·rw [bo e,bo e,ih]
theorem eB (kvs:List (κ×V))(k j:κ)(y:V):bz (putK kvs k y) j=if j=k then some y else bz kvs j:=by
 unfold putK;by_cases a:(kvs.any λ kv=>decide (kv.1=k))=true
 ·rw [if_pos a,jW];rw [d0] at a;by_cases e:j=k
  ·obtain⟨x,hx⟩:=Option.isSome_iff_exists.mp a;rw [if_pos e,e,hx,Option.map_some,if_pos rfl]
  ·rw [if_neg e];cases bz kvs j with
   |none=>rfl
   |some x=>rw [Option.map_some,if_neg e]
 ·rw [if_neg a];refine iz k j y kvs ?_;rw [d0] at a;cases q:bz kvs k with
  |none=>rfl
  |some x=>rw [q] at a;exact(a rfl).elim
theorem cu (kvs:List (κ×V))(k:κ)(v:V):(putK kvs k v).length≤kvs.length+1:=by
 unfold putK
 split
 ·rw [List.length_map];lia
 ·rw [List.length_append,List.length_cons,List.length_nil];lia
theorem RelO.isSome_eq {o:Option V}{u:Option Value}(r:RelO o u):o.isSome=u.isSome:=by
 cases o with
 |none=>cases u with
  |none=>rfl
  |some _=>exact(show False from r).elim
 |some _=>cases u with
  |none=>exact(show False from r).elim
  |some _=>rfl
theorem RelO.getD {o:Option V}{u:Option Value}{d:V}{d':Value}(r:RelO o u)(rd:RelV d d'):RelV (o.getD d) (u.getD d'):=by
 cases o with
 |none=>cases u with
  |none=>exact rd
  |some _=>exact(show False from r).elim
 |some _=>cases u with
  |none=>exact(show False from r).elim
  |some _=>exact r
theorem KV.val {kvs:List (κ×V)}{vs:List (κ×Value)}(r:KV kvs vs)(k:κ):RelO (bz kvs k) (valueAt vs k):=by
 unfold KV at r
 induction r with
 |nil=>exact True.intro
 | @cons p q ps qs h t ih=>
  obtain⟨h1,h2⟩:=h;by_cases e:p.1=k
  ·have e':q.1=k:=h1.symm.trans e;have b:valueAt (q::qs) k=some q.2:=by simp [valueAt,List.find?_cons,e']
   rw [bq e,b];exact h2
  ·have e':¬q.1=k:=λ z=>e (h1.trans z)
   have b:valueAt (q::qs) k=valueAt qs k:=by simp [valueAt,List.find?_cons,e']
   rw [bo e,b];exact ih
theorem KV.any {kvs:List (κ×V)}{vs:List (κ×Value)}(r:KV kvs vs)(k:κ):(kvs.any λ kv=>decide (kv.1=k))=vs.any λ kv=>decide (kv.1=k):=by
 unfold KV at r
 induction r with
 |nil=>rfl
 |cons h t ih=>rw [List.any_cons,List.any_cons,ih,h.1]
theorem KV.repl {kvs:List (κ×V)}{vs:List (κ×Value)}(r:KV kvs vs)(k:κ){y:V}{u:Value}(ry:RelV y u):
  KV (kvs.map λ kv=>if kv.1=k then(kv.1,y) else kv) (vs.map λ kv=>if kv.1=k then(kv.1,u) else kv):=by
 unfold KV at r ⊢
 induction r with
 |nil=>exact .nil
 | @cons p q ps qs h t ih=>
  rw [List.map_cons,List.map_cons];refine .cons ?_ ih;obtain⟨h1,h2⟩:=h;by_cases e:p.1=k
  ·rw [if_pos e,if_pos (h1.symm.trans e)];exact⟨h1,ry⟩
  ·rw [if_neg e,if_neg (λ z=>e (h1.trans z))];exact⟨h1,h2⟩
theorem KV.put {kvs:List (κ×V)}{vs:List (κ×Value)}(r:KV kvs vs)(k:κ){y:V}{u:Value}(ry:RelV y u):KV (putK kvs k y) (stored vs k u):=by
 unfold putK stored;rw [r.any k];by_cases e:(vs.any λ kv=>decide (kv.1=k))=true
 ·rw [if_pos e,if_pos e];exact r.repl k ry
 ·rw [if_neg e,if_neg e];exact Paired.snoc r ⟨rfl,ry⟩
theorem KV.drop {kvs:List (κ×V)}{vs:List (κ×Value)}(r:KV kvs vs)(k:κ):KV (uI kvs k) (without vs k):=by
 unfold KV at r ⊢;unfold uI without
 induction r with
 |nil=>exact .nil
 | @cons p q ps qs h t ih=>
  obtain⟨h1,h2⟩:=h;rw [List.filter_cons,List.filter_cons];by_cases e:p.1=k
  ·have a:¬decide (p.1≠k)=true:=by simp [e]
   have b:¬decide (q.1≠k)=true:=by simp [h1.symm.trans e]
   rw [if_neg a,if_neg b];exact ih
  ·have e':¬q.1=k:=λ z=>e (h1.trans z)
   have a:decide (p.1≠k)=true:=by simp [e]
   have b:decide (q.1≠k)=true:=by simp [e']
   rw [if_pos a,if_pos b];exact .cons ⟨h1,h2⟩ ih
theorem KV.keys {kvs:List (κ×V)}{vs:List (κ×Value)}(r:KV kvs vs):kvs.map (·.1)=vs.map (·.1):=by
 unfold KV at r
 induction r with
 |nil=>rfl
 |cons h t ih=>rw [List.map_cons,List.map_cons,ih,h.1]
theorem KV.length {kvs:List (κ×V)}{vs:List (κ×Value)}(r:KV kvs vs):kvs.length=vs.length:=Paired.length r
end
theorem jR {P:Program}{w:World}{k:Key}{u:Value}(r:RelV (kV k) u):(bx P w).is k u=true:=by
 cases k with
 |inl i=>obtain⟨t,e⟩:=(show∃t,u=Value.int i t from r);subst e;exact jV P w i t
 |inr x=>obtain⟨t,e⟩:=(show∃t,u=Value.str x t from r);subst e;exact kL P w x t
theorem ie {P:Program}{w:World}:∀{ks:List Key} {us:List Value},Vals (ks.map kV) us->ItemsAre (bx P w) ks us
 | [],_,r=>by rw [List.map_nil] at r;cases r;exact .nil
 |k::ks,_,r=>by
  rw [List.map_cons] at r;cases r with
  |cons h t=>exact .cons (jR h) (ie t)
abbrev KT (H:Hp):List (List Key×V)->List (List Key×Addr×Value)->Prop:=Paired λ p q=>p.1=q.1/\H q.2.1=some (.tup (p.1.map kV))/\RelV p.2 q.2.2
theorem KT.val {H:Hp}{kvs:List (List Key×V)}{xs:List (List Key×Addr×Value)}(r:KT H kvs xs)(k:List Key):RelO (bz kvs k) ((atKey xs k).map (·.2)):=by
 induction r with
 |nil=>exact True.intro
 | @cons p q ps qs h t ih=>
  obtain⟨h1,_,h2⟩:=h;by_cases e:p.1=k
  ·have e':q.1=k:=h1.symm.trans e;have b:atKey (q::qs) k=some q.2:=by simp [atKey,List.find?_cons,e']
   rw [bq e,b];exact h2
  ·have e':¬q.1=k:=λ z=>e (h1.trans z)
   have b:atKey (q::qs) k=atKey qs k:=by simp [atKey,List.find?_cons,e']
   rw [bo e,b];exact ih
theorem KT.repl {H:Hp}{kvs:List (List Key×V)}{xs:List (List Key×Addr×Value)}(r:KT H kvs xs)(k:List Key){y:V}{u:Value}(ry:RelV y u):
  KT H (kvs.map λ kv=>if kv.1=k then(kv.1,y) else kv) (xs.map (putAt k u)):=by
 induction r with
 |nil=>exact .nil
 | @cons p q ps qs h t ih=>
  rw [List.map_cons,List.map_cons];refine .cons ?_ ih;obtain⟨h1,h2,h3⟩:=h;unfold putAt;by_cases e:p.1=k
  ·rw [if_pos e,if_pos (h1.symm.trans e)];exact⟨h1,h2,ry⟩
  ·rw [if_neg e,if_neg (λ z=>e (h1.trans z))];exact⟨h1,h2,h3⟩
theorem KT.put {H:Hp}{kvs:List (List Key×V)}{xs:List (List Key×Addr×Value)}(r:KT H kvs xs)(k:List Key){b:Addr}{y:V}{u:Value}(hb:H b=some (.tup (k.map kV)))(ry:RelV y u):
  KT H (putK kvs k y) (storedH xs k b u):=by
 have e:(kvs.any λ kv=>decide (kv.1=k))=(atKey xs k).isSome:=by
  rw [d0,(r.val k).isSome_eq,Option.isSome_map]
 unfold putK storedH;rw [e];by_cases q:(atKey xs k).isSome=true
 ·rw [if_pos q,if_pos q];exact r.repl k ry
 ·rw [if_neg q,if_neg q];exact Paired.snoc r ⟨rfl,hb,ry⟩
theorem KT.keeps {H H':Hp}{kvs:List (List Key×V)}{xs:List (List Key×Addr×Value)}(r:KT H kvs xs)(ht:∀b ys,H b=some (.tup ys)->H' b=some (.tup ys)):KT H' kvs xs:=
 Paired.mapP r λ _ _ z=>⟨z.1,ht _ _ z.2.1,z.2.2⟩
section
variable {P : Program} {w : World} {H : Hp} {h : Heap} {a : Addr}
theorem uS {u:HO}(ok:HOk P w H h)(e:Rd H a u):ObjOk P w H h a u:=e.ok ok
theorem kX {kvs:List (Key×V)}(ok:HOk P w H h)(e:Rd H a (.dK kvs)):kvs.length≤sizeLine/\(a==sysModules)=false/\∃vs,KV kvs vs/\h.DictOf (bx P w) a vs:=
 show ObjOk P w H h a (.dK kvs) from uS ok e
theorem wS {kvs:List (Key×V)}(ok:HOk P w H h)(e:H a=some (.dK kvs)):kvs.length≤sizeLine/\(a==sysModules)=false/\∃vs,KV kvs vs/\h.DictOf (bx P w) a vs:=kX ok (.inl e)
theorem gJ {ks:List Key}(ok:HOk P w H h)(e:H a=some (.tup (ks.map kV))):(tupleKind (bx P w)).is h ks a:=by
 obtain⟨_,its,r,o,h1,h2,n,h3⟩:=(show ObjOk P w H h a (.tup (ks.map kV)) from ok a _ e);exact⟨o,its.toArray,n,h1,h2,h3,by simpa using ie r⟩
theorem j8 {kvs:List (List Key×V)}(ok:HOk P w H h)(e:Rd H a (.dT kvs)):kvs.length≤sizeLine/\(a==sysModules)=false/\
  ∃xs,KT H kvs xs/\h.DictOfH (tupleKind (bx P w)) a xs:=by
 obtain⟨z,y,xs,r,o,es,ep,h1,h2,h3,h4,h5⟩:=(show ObjOk P w H h a (.dT kvs) from uS ok e);refine⟨z,y,xs,r,o,es,ep,h1,h2,h3,h4,λ x hx=>?_,h5⟩;have all:∀{l:List (List Key×V)} {m:List (List Key×Addr×Value)},KT H l m->∀x∈m,(tupleKind (bx P w)).is h x.1 x.2.1:=by
  intro l m q
  induction q with
  |nil=>intro x hx;exact nomatch hx
  | @cons p q ps qs hq t ih=>
   intro x hx;rcases List.mem_cons.mp hx with e|hx
   ·subst e;exact gJ ok (by rw [<-hq.1];exact hq.2.1)
   ·exact ih x hx
 exact all r x hx
theorem w8 {kvs:List (List Key×V)}(ok:HOk P w H h)(e:H a=some (.dT kvs)):kvs.length≤sizeLine/\(a==sysModules)=false/\
  ∃xs,KT H kvs xs/\h.DictOfH (tupleKind (bx P w)) a xs:=j8 ok (.inl e)
end
def DGet (H:Hp)(a:Addr)(y:V)(r:Option V):Prop:=
 (∃kvs k,Rd H a (.dK kvs)/\y=kV k/\r=bz kvs k)\/∃kvs k b,Rd H a (.dT kvs)/\y=.ref b/\H b=some (.tup (k.map kV))/\r=bz kvs k
def DPut (H:Hp)(a:Addr)(y v:V)(H':Hp):Prop:=
 (∃kvs k,H a=some (.dK kvs)/\y=kV k/\kvs.length<sizeLine/\H'=upd H a (.dK (putK kvs k v)))\/
 ∃kvs k b,H a=some (.dT kvs)/\y=.ref b/\H b=some (.tup (k.map kV))/\kvs.length<sizeLine/\H'=upd H a (.dT (putK kvs k v))
theorem DGet.k {H:Hp}{a:Addr}{kvs:List (Key×V)}{k:Key}(e:H a=some (.dK kvs)):DGet H a (kV k) (bz kvs k):=.inl ⟨kvs,k,.inl e,rfl,rfl⟩
theorem DGet.t {H:Hp}{a b:Addr}{kvs:List (List Key×V)}{k:List Key}(e:H a=some (.dT kvs))(eb:H b=some (.tup (k.map kV))):DGet H a (.ref b) (bz kvs k):=.inr ⟨kvs,k,b,.inl e,rfl,eb,rfl⟩
theorem DPut.k {H:Hp}{a:Addr}{kvs:List (Key×V)}{k:Key}{v:V}(e:H a=some (.dK kvs))(hl:kvs.length<sizeLine):DPut H a (kV k) v (upd H a (.dK (putK kvs k v))):=.inl ⟨kvs,k,e,rfl,hl,rfl⟩
theorem DPut.t {H:Hp}{a b:Addr}{kvs:List (List Key×V)}{k:List Key}{v:V}(e:H a=some (.dT kvs))(eb:H b=some (.tup (k.map kV)))(hl:kvs.length<sizeLine):
  DPut H a (.ref b) v (upd H a (.dT (putK kvs k v))):=.inr ⟨kvs,k,b,e,rfl,eb,hl,rfl⟩
section
variable {X : Cx} {pins : List (Addr × Obj)} {σ : St} {H : Hp} {s : Shared} {a : Addr} {y v : V} {u r : Value} {o : Option V} {A : Around} {E : Value -> Shared -> Prop}
theorem Inv.big (I:Inv X pins σ H s):sysModules<s.heap.objs.size:=by
 have h:mainGlobals<s.heap.objs.size:=(I.mod.glob.keeps I.bk).lt;exact Nat.lt_trans (by decide) h
theorem pB {Q:Value->Shared->Prop}(hu:A.units+1<cLine)(I:Inv X pins σ H s)(g:DGet H a y (some v))(ry:RelV y u)(h:∀w' s',Inv X pins σ H s'->RelV v w'->Q w' s'):
  wpAny (model X.prog X.w) A (getItem (.ref a) u) Q E s:=by
 rcases g with⟨kvs,k,e,ey,l⟩|⟨kvs,k,b,e,ey,eb,l⟩
 ·subst ey;obtain⟨z,hd,vs,rel,dd⟩:=kX I.hok e;obtain⟨w',hw,rw'⟩:=RelO.some_of (v:=v) (o:=valueAt vs k) (by rw [l];exact rel.val k);exact wpAny_getItem_of (jR ry) dd.mapOf hw (h w' _ (I.tok _) rw')
 ·subst ey;cases(show u=Value.ref b from ry);obtain⟨z,hd,xs,rel,dd⟩:=j8 I.hok e;obtain⟨w',hw,rw'⟩:=RelO.some_of (v:=v) (o:=(atKey xs k).map (·.2)) (by rw [l];exact rel.val k);obtain⟨p,hp,hp2⟩:=Option.map_eq_some_iff.mp hw;refine wpAny_getItem_heap (tupleKind_room_in1 hu) (gJ I.hok eb) dd hp ?_;rw [hp2];exact h w' _ (I.tok _) rw'
theorem xO {Q:Value->Shared->Prop}(hu:A.units+1<cLine)(I:Inv X pins σ H s)(g:DGet H a y o)(ry:RelV y u)(h:∀s',Inv X pins σ H s'->Q (.bool o.isSome) s'):
  wpAny (model X.prog X.w) A (compareOp .In u (.ref a)) Q E s:=by
 rcases g with⟨kvs,k,e,ey,l⟩|⟨kvs,k,b,e,ey,eb,l⟩
 ·subst ey;obtain⟨z,hd,vs,rel,dd⟩:=kX I.hok e;refine wpAny_in_of (jR ry) hd dd.mapOf ?_;rw [<-(rel.val k).isSome_eq,<-l];exact h _ (I.tok _)
 ·subst ey;cases(show u=Value.ref b from ry);obtain⟨z,hd,xs,rel,dd⟩:=j8 I.hok e;refine wpAny_in_heap (tupleKind_room_in1 hu) (gJ I.hok eb) hd dd ?_;have q:=(rel.val k).isSome_eq;rw [Option.isSome_map] at q;rw [<-q,<-l];exact h _ (I.tok _)
theorem uq {Q:Value->Shared->Prop}(hu:A.units+1<cLine)(I:Inv X pins σ H s)(g:DGet H a y o)(ry:RelV y u)(h:∀s',Inv X pins σ H s'->Q (.bool (!o.isSome)) s'):
  wpAny (model X.prog X.w) A (compareOp .NotIn u (.ref a)) Q E s:=by
 rcases g with⟨kvs,k,e,ey,l⟩|⟨kvs,k,b,e,ey,eb,l⟩
 ·subst ey;obtain⟨z,hd,vs,rel,dd⟩:=kX I.hok e;refine wpAny_notIn_of (jR ry) hd dd.mapOf ?_;rw [<-(rel.val k).isSome_eq,<-l];exact h _ (I.tok _)
 ·subst ey;cases(show u=Value.ref b from ry);obtain⟨z,hd,xs,rel,dd⟩:=j8 I.hok e;refine wpAny_notIn_heap (tupleKind_room_in1 hu) (gJ I.hok eb) hd dd ?_;have q:=(rel.val k).isSome_eq;rw [Option.isSome_map] at q;rw [<-q,<-l];exact h _ (I.tok _)
theorem mK {h':Heap}{t':Nat}{ob:HO}(I:Inv X pins σ H s)(mu:Mut (H a))(hs:Heap.SameBut a s.heap h')(he:∃q,h'.get? a=some q)(new:ObjOk X.prog X.w (upd H a ob) h' a ob):
  Inv X pins σ (upd H a ob) {s with heap:=h',toks:=t'}:=
 I.write (x:=a) (e:=a) mu (.inl rfl) (λ b q hb z=>(hs.2 b hb).trans z) he new
theorem dk_new {P:Program}{w:World}{H':Hp}{h':Heap}{kvs:List (Key×V)}{vs:List (Key×Value)}(z:kvs.length≤sizeLine)(hd:(a==sysModules)=false)(rel:KV kvs vs)(dd:h'.DictOf (bx P w) a vs):
  ObjOk P w H' h' a (.dK kvs):=⟨z,hd,vs,rel,dd⟩
theorem oE {H':Hp}{Q:Unit->Shared->Prop}(hu:A.units+1<cLine)(I:Inv X pins σ H s)(g:DPut H a y v H')(ry:RelV y u)(rv:RelV v r)(h:∀s',Inv X pins σ H' s'->Q () s'):
  wpAny (model X.prog X.w) A (setItem (.ref a) u r) Q E s:=by
 rcases g with⟨kvs,k,e,ey,l,eH⟩|⟨kvs,k,b,e,ey,eb,l,eH⟩
 ·subst ey eH;obtain⟨z,hd,vs,rel,dd⟩:=wS I.hok e;have hz:vs.length≤sizeLine:=by rw [<-rel.length];exact z
  have hl:(putK kvs k v).length≤sizeLine:=by have:=cu kvs k v;lia
  refine wpAny_setItem_pairs (hsz:=hz) (jR ry) dd λ h' dd' hs=>h _ ?_
  have he:∃q,h'.get? a=some q:=let⟨q,_,_,hq,_⟩:=dd';⟨q,hq⟩;exact mK I (by rw [e];exact True.intro) hs he (dk_new hl hd (rel.put k rv) dd')
 ·subst ey eH;cases(show u=Value.ref b from ry);obtain⟨z,hd,xs,rel,dd⟩:=w8 I.hok e;have hz:xs.length≤sizeLine:=by rw [<-Paired.length rel];exact z
  have hl:(putK kvs k v).length≤sizeLine:=by have:=cu kvs k v;lia
  refine wpAny_setItem_heap (hsz:=hz) (tupleKind_room_in1 hu) (gJ I.hok eb) dd λ h' dd' hs=>h _ ?_
  obtain⟨q,es,ep,hq,h2,h3,h4,_,h5⟩:=dd';refine mK I (by rw [e];exact True.intro) hs ⟨q,hq⟩ ⟨hl,hd,_,(rel.put k eb rv).keeps λ c ys ec=>?_,q,es,ep,hq,h2,h3,h4,h5⟩;rw [upd_ne (ne_of ec e (λ z=>nomatch z))];exact ec
end
section
variable {X : Cx} {pins : List (Addr × Obj)} {σ : St} {H : Hp} {s : Shared} {a : Addr} {kvs : List (Key × V)} {k : Key} {u : Value} {A : Around} {E : Value -> Shared -> Prop}
end
def wH (i:Expr):Prop:=∀ov iv,subscripted i false ov iv=operate [ov,iv] (getItem ov iv)
theorem subD_of {prog:Program}{w:World}{A:Around}{E:Value->Shared->Prop}{s:Shared}{env:Env}{value slice:Expr}{pos:Pos}{T id:String}{Q:Value->Shared->Prop}
  (hl:typeLookup (.type T) "__getitem__"=pure (some (.builtin id))) (hs:wH slice)
  (h:wpAny (model prog w) A (eval value env) (λ o s₁=>wpAny (model prog w) A (eval slice env) (λ i s₂=>s₂.TypeIs o T/\wpAny (model prog w) A (getItem o i) Q E s₂) E s₁) E s):
  wpAny (model prog w) A (eval (.Subscript value slice pos) env) Q E s:=by
 refine Subscript_ (wpAny_mono h (λ o s₁ h₁=>wpAny_mono h₁ (λ i s₂ h₂=>?_) λ _ _ x=>x) λ _ _ x=>x);obtain⟨hT,h₂⟩:=h₂;unfold subscriptTail;refine wpAny_bind ?_;rw [getitemInPython_of_ne hT.not_modules];refine wpAny_bind (wpAny_specialOf hT hl ?_);have fin:wpAny (model prog w) A (subscripted slice false o i) (λ r s₃=>wpAny (model prog w) A (letTemporaryGo value o r>>= λ _=>pure r) Q E s₃) E s₂:=by
  rw [hs o i];exact wpAny_operating (wpAny_mono h₂ (λ r s₃ h₃=>wpAny_bind (wpAny_letTemporaryGo (wpAny_pure h₃))) λ _ _ x=>x)
 first
  |exact wpAny_pure (wpAny_bind fin)
  |exact wpAny_bind (wpAny_pure (wpAny_bind fin))
  |exact wpAny_bind fin
theorem kA {X:Cx}{pins:List (Addr×Obj)}{σ:St}{H:Hp}{s:Shared}{a:Addr}{y:V}{o:Option V}(I:Inv X pins σ H s)(g:DGet H a y o):s.TypeIs (.ref a) "dict":=by
 rcases g with⟨kvs,k,e,_,_⟩|⟨kvs,k,b,e,_,_,_⟩
 ·obtain⟨_,_,vs,_,dd⟩:=kX I.hok e;exact dd.typeIs
 ·obtain⟨_,_,xs,_,dd⟩:=j8 I.hok e;exact dd.typeIs
def xp (td ty:TE):TE:=λ σ H Q=>td σ H λ x H1=>ty σ H1 λ y H2=>∃a v,x=.ref a/\DGet H2 a y (some v)/\Q v H2
def xN (ty td:TE):TE:=λ σ H Q=>ty σ H λ y H1=>td σ H1 λ x H2=>∃a o,x=.ref a/\DGet H2 a y o/\Q (.bl o.isSome) H2
def t8 (ty td:TE):TE:=λ σ H Q=>ty σ H λ y H1=>td σ H1 λ x H2=>∃a o,x=.ref a/\DGet H2 a y o/\Q (.bl (!o.isSome)) H2
def wr (td ty tv:TE):TS:=λ D σ H=>tv σ H λ v H1=>td σ H1 λ x H2=>ty σ H2 λ y H3=>∃a H4,x=.ref a/\DPut H3 a y v H4/\D.nx σ H4
section
variable {X : Cx} {o i e value : Expr} {pos pos' tpos : Pos} {td ty tv : TE}
theorem nF (hu:X.A.units+1<cLine)(ho:PE X o td)(hi:PE X i ty)(hs:wH i):PE X (.Subscript o i pos) (xp td ty):=by
 intro pins s σ H Q I h;refine subD_of PySem.F.slot_dict_getitem.lookup hs (thn (ho pins s σ H _ I h) λ u s1 ⟨x,H1,I1,rx,q1⟩=>thn (hi pins s1 σ H1 _ I1 q1) λ iv s2 ⟨y,H2,I2,ry,a,v,ex,g,q2⟩=>?_);subst ex;obtain rfl:u=Value.ref a:=rx;exact⟨kA I2 g,pB hu I2 g ry λ w' s3 I3 rw'=>⟨v,H2,I3,rw',q2⟩⟩
theorem vE (hu:X.A.units+1<cLine)(hi:PE X i ty)(ho:PE X o td):PC X .In i o (xN ty td):=by
 intro pins s σ H Q I h;refine thn (hi pins s σ H _ I h) λ iv s1 ⟨y,H1,I1,ry,q1⟩=>thn (ho pins s1 σ H1 _ I1 q1) λ u s2 ⟨x,H2,I2,rx,a,ov,ex,g,q2⟩=>?_
 subst ex;obtain rfl:u=Value.ref a:=rx;exact xO hu I2 g ry λ s3 I3=>⟨.bl ov.isSome,H2,I3,rfl,q2⟩
theorem o4 (hu:X.A.units+1<cLine)(hi:PE X i ty)(ho:PE X o td):PC X .NotIn i o (t8 ty td):=by
 intro pins s σ H Q I h;refine thn (hi pins s σ H _ I h) λ iv s1 ⟨y,H1,I1,ry,q1⟩=>thn (ho pins s1 σ H1 _ I1 q1) λ u s2 ⟨x,H2,I2,rx,a,ov,ex,g,q2⟩=>?_
 subst ex;obtain rfl:u=Value.ref a:=rx;exact uq hu I2 g ry λ s3 I3=>⟨.bl (!ov.isSome),H2,I3,rfl,q2⟩
theorem jv (hu:X.A.units+1<cLine)(ho:PE X o td)(hi:PE X i ty)(hv:PE X value tv)(hs:swapsWith value (some (.Subscript o i pos')) pos.line X.env=pure false):
  PS X (.Assign [.Subscript o i pos'] value pos) (wr td ty tv):=by
 intro pins s σ H D I h;refine wpAny_Assign_Subscript (thn (hv pins s σ H _ I h) λ r s1 ⟨v,H1,I1,rv,q1⟩=>thn (ho pins s1 σ H1 _ I1 q1) λ u s2 ⟨x,H2,I2,rx,q2⟩=>thn (hi pins s2 σ H2 _ I2 q2) λ iv s3 ⟨y,H3,I3,ry,a,H4,ex,g,q3⟩=>?_) hs;subst ex;obtain rfl:u=Value.ref a:=rx;exact oE hu I3 g ry rv λ s4 I4=>⟨σ,H4,I4,q3⟩
end
theorem rT {P:Program}{w:World}{H:Hp}(h:Heap)(hb:sysModules<h.objs.size):ObjOk P w H (h.push {cls:=.type "dict",data:=.dict #[]}) h.objs.size (.dK []):=
 ⟨Nat.zero_le _,beq_eq_false_iff_ne.mpr (Ne.symm (Nat.ne_of_lt hb)),[],.nil,Heap.DictOf.new h⟩
theorem rY {P:Program}{w:World}{H:Hp}(h:Heap)(hb:sysModules<h.objs.size):ObjOk P w H (h.push {cls:=.type "dict",data:=.dict #[]}) h.objs.size (.dT []):=
 ⟨Nat.zero_le _,beq_eq_false_iff_ne.mpr (Ne.symm (Nat.ne_of_lt hb)),[],.nil,_,#[],0,Heap.get?_push_size _ rfl,⟨rfl,rfl,rfl⟩,rfl,rfl,List.nodup_nil⟩
def vo:TE:=λ _ H Q=>∀p,H p=none->Q (.ref p) (upd H p (.dK []))
def wg:TE:=λ _ H Q=>∀p,H p=none->Q (.ref p) (upd H p (.dT []))
section
variable {X : Cx} {pos : Pos}
theorem qk:PE X (.Dict [] [] pos) vo:=λ pins s σ H Q I h=>
 wpAny_Dict_empty ⟨.ref s.heap.objs.size,_,I.laid (a:=s.heap.objs.size) (o:=.dK []) (t':=s.toks) (λ _ _ q=>Heap.get?_push_of_some _ q) (Nat.le_refl _) (rT s.heap I.big),rfl,h _ (I.hok.fresh (Nat.le_refl _))⟩
theorem kS:PE X (.Dict [] [] pos) wg:=λ pins s σ H Q I h=>
 wpAny_Dict_empty ⟨.ref s.heap.objs.size,_,I.laid (a:=s.heap.objs.size) (o:=.dT []) (t':=s.toks) (λ _ _ q=>Heap.get?_push_of_some _ q) (Nat.le_refl _) (rY s.heap I.big),rfl,h _ (I.hok.fresh (Nat.le_refl _))⟩
end
section
variable {X : Cx}
def wY (K:PySem.W.Frag):R2:=λ x y H Q=>∃(p q:Addr),x=.ref p/\y=.ref q/\vq K H p q/\Q (.bl false) H
theorem tN (hu:X.A.units+64<cLine):OpR X (compareOp .NotEq) (wY X.K):=by
 intro pins s σ H x y v u Q I rx ry h;obtain⟨p,q,rfl,rfl,⟨xs,ys,h1,h2,hl,hi⟩,k⟩:=h;cases rx;cases ry;obtain⟨its,rv,pl,hz⟩:=I.list h1;obtain⟨its2,rv2,pl2,hz2⟩:=I.list h2;have l1:=rv.length;have l2:=rv2.length;refine SeqAt.RcNeAt.lists (e:=λ _=>true) pl.isList pl2.isList (by rw [List.size_toArray,List.size_toArray];lia) (by lia) (λ j j1 j2=>?_) _ _ _ _ ?_
 ·have k1:j<xs.length:=by simp at j1;lia
  have k2:j<ys.length:=by lia
  obtain⟨u1,e1,r1⟩:=rv.get (i:=j) (x:=xs[j]) (by simp [k1]);obtain⟨u2,e2,r2⟩:=rv2.get (i:=j) (x:=ys[j]) (by simp [k2]);have g1:its.toArray[j]=u1:=by
   obtain⟨_,z⟩:=List.getElem?_eq_some_iff.mp e1;simpa using z
  have g2:its2.toArray[j]=u2:=by
   obtain⟨_,z⟩:=List.getElem?_eq_some_iff.mp e2;simpa using z
  rw [g1,g2];rcases hi j xs[j] ys[j] (by simp [k1]) (by simp [k2]) with⟨z1,z2⟩|⟨a,b,ns,z1,z2,q1,q2⟩
  ·rw [z1] at r1;rw [z2] at r2;cases r1;cases r2;exact SeqAt.EqAt.same _
  ·rw [z1] at r1;rw [z2] at r2;cases r1;cases r2;exact qA I q1 q2 (by show X.A.units+1<_;lia)
 ·refine⟨.bl false,H,I,?_,k⟩;show Value.bool _=Value.bool _;simp
theorem OpR.either {f:Value->Value->Sem Value}{r t:R2}(h:OpR X f r)(g:OpR X f t):OpR X f (λ x y H Q=>r x y H Q\/t x y H Q):=by
 intro pins s σ H x y v u Q I rx ry z;rcases z with z|z
 ·exact h pins s σ H x y v u Q I rx ry z
 ·exact g pins s σ H x y v u Q I rx ry z
theorem pR {K:PySem.W.Frag}{a:Addr}{xs:List V}{g:TG}{tb:TS}{D:Ends}{σ:St}{H:Hp}(Pv:Nat->St->Hp->Prop)(h0:Pv 0 σ H)(hl:∀i σ H,i≤xs.length->Pv i σ H->SqL K H a xs)
  (hs:∀i x p σ H,xs[i]?=some x->H p=none->Pv i σ H->g (.ref p) σ (upd H p (.tup [.int ((i:Nat):Int),x])) λ σ2 H2=>tb {D with nx:=Pv (i+1),ct:=Pv (i+1),bk:=D.nx} σ2 H2) (hd:∀σ H,Pv xs.length σ H->D.nx σ H):
  ∃W:Nat->Nat->St->Hp->Prop,(∃m,W 0 m σ H)/\∀i m σ H,W i m σ H->
   ((Ite K a).stop i H/\D.nx σ H)\/((Ite K a).go i H/\∃N:St->Hp->Prop,(∀σ' H',N σ' H'->∃m',m'<m/\W (i+1) m' σ' H')/\∀x H',(Ite K a).yld i H x H'->g x σ H' λ σ2 H2=>tb {D with nx:=N,ct:=N,bk:=D.nx} σ2 H2):=by
 refine⟨λ i m σ H=>m=xs.length-i/\i≤xs.length/\Pv i σ H,⟨xs.length,by simp,Nat.zero_le _,h0⟩,?_⟩;rintro i m σ H ⟨rfl,hi,p⟩;have q:=hl i σ H hi p;by_cases hlt:i<xs.length
 ·refine .inr ⟨⟨xs,xs[i],q,by simp [hlt]⟩,Pv (i+1),λ σ' H' p'=>⟨xs.length-(i+1),by lia,rfl,hlt,p'⟩,λ x H' y=>?_⟩;obtain⟨p1,x1,hp1,e1,e2,y⟩:=y;subst e1 e2;exact hs i x1 p1 σ _ (y xs q) hp1 p
 ·have e:i=xs.length:=by lia
  subst e;exact .inl ⟨⟨xs,q,Nat.le_refl _⟩,hd σ H p⟩
end
section
variable {X : Cx} {N : List Str} {scope : Scope} {cl : List (Str × Addr)} {js : List (Option Nat)} {elt cnd target iter : Expr} {pos : Pos} {wi : TI} {g : TG} {tt : TT} {te : TE}
end
end L2
set_option maxHeartbeats 4000000
namespace K19.C
open PySem L2 QQ C9 C10
seal PE PA PS PSs PT PW PG PI
theorem vC (R:List Nat):R.map vN=(R.map λ b=>((b:Nat):Int)).map V.int:=by rw [List.map_map];rfl
def IsL (H:Hp)(x:V)(L:List Nat):Prop:=∃a,x=.ref a/\H a=some (.lst (L.map vN))/\∀l∈L,l≤12
def OT (H:Hp)(x:V):Option (Nat×Nat)->Prop
 |none=>x=.non
 |some c=>∃t,x=.ref t/\H t=some (.tup [vN c.1,vN c.2])
def CL (H:Hp)(xs:List V)(cs:List (Option (Nat×Nat))):Prop:=xs.length=cs.length/\∀(i:Nat) (x:V) (c:Option (Nat×Nat)),xs[i]?=some x->cs[i]?=some c->OT H x c
theorem OT.keep {H H':Hp}{x:V}{c:Option (Nat×Nat)}(h:OT H x c)(k:∀t ys,H t=some (.tup ys)->H' t=some (.tup ys)):OT H' x c:=by
 cases c with
 |none=>exact h
 |some c=>obtain⟨t,e,z⟩:=h;exact⟨t,e,k _ _ z⟩
theorem CL.keep {H H':Hp}{xs:List V}{cs:List (Option (Nat×Nat))}(h:CL H xs cs)(k:∀t ys,H t=some (.tup ys)->H' t=some (.tup ys)):CL H' xs cs:=⟨h.1,λ i x c h1 h2=>(h.2 i x c h1 h2).keep k⟩
theorem CL.set {H:Hp}{xs:List V}{cs:List (Option (Nat×Nat))}(h:CL H xs cs){p:Nat}{y:V}{d:Option (Nat×Nat)}(hy:OT H y d):CL H (xs.set p y) (cs.set p d):=by
 refine⟨by rw [List.length_set,List.length_set];exact h.1,λ i x c h1 h2=>?_⟩;by_cases e:p=i
 ·subst e;have hp:p<xs.length:=by
   have:=(List.getElem?_eq_some_iff.mp h1).1
   rwa [List.length_set] at this
  rw [List.getElem?_set_self hp] at h1;rw [List.getElem?_set_self (by rw [<-h.1];exact hp)] at h2;cases h1;cases h2;exact hy
 ·rw [List.getElem?_set_ne e] at h1 h2;exact h.2 i x c h1 h2
theorem CL.none (H:Hp)(n:Nat):CL H (List.replicate n .non) (List.replicate n none):=by
 refine⟨by rw [List.length_replicate,List.length_replicate],λ i x c h1 h2=>?_⟩;rw [List.getElem?_replicate] at h1 h2
 split at h1
 ·cases h1;rw [if_pos (by assumption)] at h2;cases h2;rfl
 ·cases h1
theorem ndL:(["length"]:List Str).Nodup:=by decide+kernel
section
variable {P : Program} {w : World} {K : PySem.W.Frag} {mg : Str -> Option Value} {base : Heap}
def uY:Sp:=λ vs H Q _=>∃(a:Addr) (L:List Nat),vs=[.ref a]/\H a=some (.lst (L.map vN))/\(∀l∈L,l≤12)/\L.length≤300/\∀H',Same H H'->Q (vN (krf 12 L)) H'
theorem vj:FnScope ["lengths"] ["lengths"] (defScope nj):=⟨rfl,rfl,rfl,by decide+kernel,rfl,by decide+kernel,by decide+kernel⟩
abbrev qc:TE:=tOp (rI wN λ i j=>.int (i*2^j.toNat)) (tC (.int 1)) (tOp (rI0 λ i j=>.int (i-j)) (tC (.int 12)) (dM 0))
abbrev qZ:TT:=jF (tOp (rI0 λ i j=>.bl (decide (j<i))) (dM 0) (tC (.int 0)))
theorem uB {f:Addr}{fd:FuncData}(F:Fn K mg "room_taken" nj ["lengths"] f fd)(T:Txt K mg):FnOk P w K mg base CX0 31 f fd ["lengths"] uY:=by
 obtain⟨tm,hm⟩:=T.mlen;refine F.F.ok vj (λ vs H Q E h=>?_) (λ cdv A outer s H vs Q E hr h=>?_)
 ·obtain⟨a,L,rfl,_⟩:=h;rfl
 ·obtain⟨a,L,rfl,hL,hb,hl300,k⟩:=h;have hn:=hr.hd (by decide);refine⟨_,ag (az (aq (qH hn) (by rfl) T.sum PyProof.Rows.boot_sum (aa (gI (N:=["length"]) (g:=bZ 0) (tt:=qZ) (te:=qc) rfl rfl (by decide+kernel) (by decide+kernel) (by decide+kernel) (bf (pv 0))
    (λ fp s H=>aF (i:=0) ndL rfl (Or.inl rfl)) (λ fp s H=>ar cz (pv 0) ae (ax _)) (λ fp s H=>ai cQ ae (ai aY (aK (v:=.int 12) (by rfl) hm ⟨tm,rfl⟩) (pv 0)))) ad))),?_⟩
  refine⟨_,rfl,a,rfl,⟨_,SqL.of hL⟩,λ l nl=>?_⟩;refine kQ (K:=K) (a:=a) (l:=l) (xs:=L.map vN) (n:=1) (g:=bZ 0) (tt:=qZ) (te:=qc)
   (λ i ys H'=>ys=(((L.take i).filter (λ b=>decide (0<b))).map (λ b=>2^(12-b))).map vN/\H' l=some (.lst ys)/\Same H H') ⟨rfl,upd_same,ak nl⟩ (λ i ys H' _ ⟨_,_,sm⟩=>SqL.of (sm _ _ hL)) ?_ ?_ ?_ ?_ ?_
  ·rintro i x ys σ H' hx ⟨rfl,hl,sm⟩ hσ;obtain⟨b,hb1,rfl⟩:=cm hx;have hb12:=hb b (List.mem_of_getElem? hb1);have hil:i<L.length:=(List.getElem?_eq_some_iff.mp hb1).1;obtain⟨u0,rfl⟩:∃u0,σ=[u0]:=match σ,hσ with| [u0],_=>⟨u0,rfl⟩
   have hlen:((L.take i).filter (λ b=>decide (0<b))).length≤300:=Nat.le_trans (List.length_filter_le _ _) (by rw [List.length_take];lia);refine⟨_,rfl,_,_,rfl,rfl,_,rfl,?_⟩;rw [dv hb1,List.filter_append];dsimp only;by_cases h0:0<b
   ·rw [if_pos (decide_eq_true (show(0:Int)<((b:Nat):Int) by lia))];refine⟨_,rfl,_,_,rfl,rfl,_,_,rfl,rfl,⟨by lia,by lia,by decide⟩,hl,aU (by rw [List.length_map,List.length_map];lia),rfl,?_,upd_same,λ c o e=>?_⟩
    ·rw [List.filter_cons_of_pos (by simpa using h0),List.map_append,List.map_append];have e1:(1:Int)*2^((12:Int)-((b:Nat):Int)).toNat=((2^(12-b):Nat):Int):=by
      rw [show((12:Int)-((b:Nat):Int)).toNat=12-b by lia,Int.one_mul];simp
     try dsimp only
     rw [e1];rfl
    ·rw [upd_ne (af e nl)];exact sm _ _ e
   ·rw [if_neg (λ z=>absurd (of_decide_eq_true z) (by lia))];refine⟨rfl,?_,?_,sm⟩
    ·rw [List.filter_cons_of_neg (by simpa using h0)];simp
    ·exact hl
  ·rintro ys H' ⟨rfl,hl,sm⟩;rw [List.length_map,List.take_length,vC] at hl;refine⟨l,_,rfl,SqL.of hl,?_⟩;have e:(((L.filter (λ b=>decide (0<b))).map (λ b=>2^(12-b))).map (λ b=>((b:Nat):Int))).sum=((krf 12 L:Nat):Int):=by
    unfold krf;generalize (L.filter (λ b=>decide (0<b))).map (λ b=>2^(12-b))=Y
    induction Y with
    |nil=>rfl
    |cons y Y ih=>simp only [List.map_cons,List.sum_cons];rw [ih];simp
   rw [e];exact k _ sm
  ·exact λ x σ H A B h z=>h _ _ z
  ·exact λ σ H A B h ⟨v,e1,i,j,e2,e3,c,e4,z⟩=>⟨v,e1,i,j,e2,e3,c,e4,h _ _ z⟩
  ·exact λ σ H A B h ⟨v,e1,i,j,e2,e3,i2,j2,e4,e5,c,z⟩=>⟨v,e1,i,j,e2,e3,i2,j2,e4,e5,c,h _ _ z⟩
def o1:Sp:=λ vs H Q _=>∃(x:V) (L:List Nat),vs=[x]/\IsL H x L/\Good L/\∀H',Same H H'->Q .non H'
theorem oM:FnScope ["lengths"] ["lengths"] (defScope du):=⟨rfl,rfl,rfl,by decide+kernel,rfl,by decide+kernel,by decide+kernel⟩
structure Lns (K:PySem.W.Frag)(mg:Str->Option Value):Prop where
 X:Txt K mg
 whole:∃f fd,Fn K mg "is_whole" bK ["thing","least","most"] f fd
 arewhole:∃f fd,Fn K mg "are_whole" bA ["thing","least","most"] f fd
 things:∃f fd,Fn K mg "are_of_things" c9 ["thing","most"] f fd
 room:∃f fd,Fn K mg "room_taken" nj ["lengths"] f fd
theorem mx {f:Addr}{fd:FuncData}(F:Fn K mg "need_lengths" du ["lengths"] f fd)(Y:Lns K mg):FnOk P w K mg base CX0 32 f fd ["lengths"] o1:=by
 obtain⟨T,⟨_,_,W⟩,⟨_,_,AW⟩,⟨_,_,Th⟩,⟨_,_,Ro⟩⟩:=Y;have GT:=S.ok_things (P:=P) (w:=w) (base:=base) Th AW W T;have GR:=uB (P:=P) (w:=w) (base:=base) Ro T;obtain⟨tm,hm⟩:=T.mlen;refine F.F.ok oM (λ vs H Q E h=>?_) (λ cdv A outer s H vs Q E hr h=>?_)
 ·obtain⟨x,L,rfl,_⟩:=h;rfl
 ·obtain⟨x,L,rfl,⟨a,rfl,hB,hb⟩,G,k⟩:=h;refine⟨_,ac (aM (cj (cf (am GT hr (by rfl) Th.m Th.F.kp Th.b .nil ap (aa (pv 0) (aa (aK (v:=.int 12) (by rfl) hm ⟨tm,rfl⟩) ad))))) (ag aT) aB)
   (ag (aM (ar cz (am GR hr (by rfl) Ro.m Ro.F.kp Ro.b .nil ap (aa (pv 0) ad)) (ai cQ ae (aK (v:=.int 12) (by rfl) hm ⟨tm,rfl⟩)) (ax _)) (ag aT) aB)),?_⟩
  refine seq_g λ R1 g1=>?_
  refine⟨_,rfl,a,L,12,rfl,hB,hb,G.ne,G.le,G.some,_,rfl,bL (g1 _ _ ?_)⟩;clear g1;refine⟨_,rfl,a,L,rfl,hB,hb,G.le,λ H' s1=>?_⟩;refine⟨_,_,rfl,rfl,⟨by decide,by decide,by decide⟩,_,_,rfl,rfl,_,rfl,aJ (λ h=>?_) (λ _=>k _ s1)⟩;exfalso;have:=of_decide_eq_true h;have g:=G.room;have e:(1:Int)*2^(12:Int).toNat=4096:=by decide
  rw [e] at this;lia
end
theorem ux {α:Type}(x:α)(k:Nat):(List.replicate k [x]).flatten=List.replicate k x:=by
 induction k with
 |zero=>rfl
 |succ k ih=>rw [List.replicate_succ,List.flatten_cons,ih,List.replicate_succ];rfl
theorem qE {L:List Nat}(hl:L.length≤300){j:Nat}(hj:j≤12):ed L j≤1228800:=by
 have h:=uO L j;have h1:2^j≤2^12:=Nat.pow_le_pow_right (by decide) hj;have h2:L.length*2^j≤300*4096:=Nat.mul_le_mul hl h1;lia
theorem cd_zero (L:List Nat)(j:Nat):cdAt L 0 (j+1)=2*ed L j:=by rw [mO];simp
theorem ixN_nat {n i:Nat}(h:i<n):ixN n ((i:Nat):Int)=some i:=by
 unfold ixN;rw [if_pos (by lia)];simpa using h
section
variable {P : Program} {w : World} {K : PySem.W.Frag} {mg : Str -> Option Value} {base : Heap}
def pi:Sp:=λ vs H Q _=>∃(x:V) (L:List Nat),vs=[x]/\IsL H x L/\Good L/\∀l xs H',H l=none->Same H H'->H' l=some (.lst xs)->CL H' xs (codes L)->Q (.ref l) H'
abbrev vS:List Str:=["lengths","codes","code","size","place","length"]
theorem scCodesOf:FnScope vS ["lengths"] (defScope eN):=⟨rfl,rfl,rfl,by decide+kernel,rfl,by decide+kernel,by decide+kernel⟩
theorem ok_codesof {f fN:Addr}{fd fdN:FuncData}(F:Fn K mg "codes_of" eN ["lengths"] f fd)(N:Fn K mg "need_lengths" du ["lengths"] fN fdN)(Y:Lns K mg):FnOk P w K mg base CX0 33 f fd ["lengths"] pi:=by
 have GN:=mx (P:=P) (w:=w) (base:=base) N Y;have T:=Y.X;obtain⟨tm,hm⟩:=T.mlen;refine F.F.ok scCodesOf (λ vs H Q E h=>?_) (λ cdv A outer st H vs Q E hr h=>?_)
 ·obtain⟨x,L,rfl,_⟩:=h;rfl
 ·obtain⟨x,L,rfl,⟨a,rfl,hB,hb⟩,G,k⟩:=h;refine⟨_,ac (aD (am GN hr (by rfl) N.m N.F.kp N.b .nil ap (aa (pv 0) ad)))
   (ac (aj (i:=1) scCodesOf.nd rfl (Or.inl rfl) (ai fE (aV (aa dU ad)) (aq ao (by rfl) T.len PySem.boot_len (aa (pv 0) ad))))
   (ac (aj (i:=2) scCodesOf.nd rfl (Or.inl rfl) ae)
   (ac (aS PassesOwn.never rfl (dC (by rfl) T.range (aa ae (aa (ai aA (aK (v:=.int 12) (by rfl) hm ⟨tm,rfl⟩) ae) ad))) (aF (i:=3) scCodesOf.nd rfl (Or.inl rfl))
    (ac (aj (i:=2) scCodesOf.nd rfl (Or.inl rfl) (ai cQ (pv 2) ae))
    (ag (aS PassesOwn.never rfl (je (by rfl) T.enum (aa (pv 0) ad)) (gY rfl (bH (aF (i:=4) scCodesOf.nd rfl (Or.inl rfl)) (bH (aF (i:=5) scCodesOf.nd rfl (Or.inl rfl)) ee)))
     (ag (aM (ar bh (pv 5) (pv 3) (ax _))
      (ac (dX (bB (aa (pv 2) (aa (pv 3) ad))) (fw (pv 1) (pv 4) cW))
      (ag (aj (i:=2) scCodesOf.nd rfl (Or.inl rfl) (ai aA (pv 2) ae)))) aB))))))
   (ag (az (pv 1)))))),?_⟩
  refine seq_g λ R1 g1=>?_
  refine⟨_,rfl,_,L,rfl,⟨a,rfl,hB,hb⟩,G,λ H1 s1=>g1 _ _ ?_⟩;clear g1;have hl3:=G.le;refine seq_g λ R1 g1=>?_
  refine⟨(by show 1≤sizeLine;decide),λ l0 n0=>?_⟩;have s2:=ak (o:=.lst [.non]) n0;refine⟨_,rfl,a,_,rfl,.inl (SqL.of (s2 _ _ (s1 _ _ hB))),l0,_,_,rfl,rfl,upd_same,by lia,by rw [List.length_map];lia,(by rw [List.length_map,Int.toNat_natCast];exact dj (by show 1*_≤_;lia)),λ l nl=>g1 _ _ ?_⟩;clear g1;have s3:=ak (o:=.lst (List.replicate L.length V.non)) nl;have ez:(List.replicate (((L.map vN).length:Nat):Int).toNat [V.non]).flatten=List.replicate L.length V.non:=by rw [List.length_map,Int.toNat_natCast,ux]
  try dsimp only
  rw [ez];have hl1:(upd (upd H1 l0 (.lst [.non])) l (.lst (List.replicate L.length V.non))) l=some (.lst (List.replicate L.length V.non)):=upd_same;have nlH:H l=none:=none_of (s1.trans s2) nl;have s03:=(s1.trans s2).trans s3;generalize upd (upd H1 l0 (.lst [.non])) l (.lst (List.replicate L.length V.non))=H3 at*;refine seq_g λ R1 g1=>g1 _ _ ?_
  clear g1;refine seq_g λ R1 g1=>?_
  refine⟨_,_,rfl,rfl,1,13,rfl,⟨by lia,by lia,by lia,by lia⟩,?_⟩;have en:((13:Int)-1).toNat=12:=by decide
  try dsimp only
  rw [en];refine bc (D:=⟨_,_,λ _ _=>False,λ _ _=>False⟩) (lo:=1) (n:=12) (λ j σ H2=>∃v3 v4 v5:Option V,∃xs:List V,σ=[some (.ref a),some (.ref l),some (vN (ed L j)),v3,v4,v5]/\H2 l=some (.lst xs)/\CL H2 xs (row L j 0)/\Same H H2) ⟨none,none,none,_,rfl,hl1,by rw [qN];exact CL.none _ _,s03⟩ ?_ ?_
  ·clear g1 hl1 s03 s3 nl;rintro j σ H2 hj ⟨v3,v4,v5,xs,rfl,hl2,hC,sm⟩;have eb:(1:Int)+((j:Nat):Int)=((j+1:Nat):Int):=by lia
   try dsimp only
   rw [eb];have hes:=qE hl3 (show j≤12 by lia);refine seq_g λ R2 g2=>?_
   refine⟨_,rfl,_,_,rfl,rfl,⟨by lia,by lia,by lia⟩,g2 _ _ ?_⟩;clear g2;have ec:((ed L j:Nat):Int)*2^(1:Int).toNat=((cdAt L 0 (j+1):Nat):Int):=by
    rw [cd_zero,show((1:Int).toNat)=1 from rfl];lia
   try dsimp only
   rw [ec];refine⟨_,rfl,a,_,rfl,SqL.of (sm _ _ hB),pR (D:=⟨_,_,λ _ _=>False,λ _ _=>False⟩) (K:=K) (a:=a) (xs:=L.map vN) (λ p σ H'=>∃v4 v5:Option V,∃xs:List V,σ=[some (.ref a),some (.ref l),some (vN (cdAt L p (j+1))),some (vN (j+1)),v4,v5]/\H' l=some (.lst xs)/\CL H' xs (row L j p)/\Same H H')
    ⟨v4,v5,xs,rfl,hl2,hC,sm⟩ (λ i σ H' _ ⟨_,_,_,_,_,_,e⟩=>SqL.of (e _ _ hB)) ?_ ?_⟩
   ·rintro p y t σ H' hp ht ⟨v4,v5,xs,rfl,hl2,hC,sm⟩;obtain⟨b,hb1,rfl⟩:=cm hp;have hpl:p<L.length:=(List.getElem?_eq_some_iff.mp hb1).1;have st:=ak (o:=.tup [vN p,vN b]) ht;refine⟨t,_,rfl,SqT.of upd_same,rfl,_,_,rfl,_,_,rfl,rfl,?_⟩;refine⟨_,rfl,_,rfl,rfl,_,rfl,aJ (λ h1=>?_) (λ h1=>?_)⟩
    ·have e1:b=j+1:=vN_inj.mp (of_decide_eq_true h1);rw [e1] at hb1 st ⊢;refine seq_g λ R3 g3=>?_
     refine⟨_,rfl,_,rfl,(by show 2≤sizeLine;decide),λ q nq=>?_⟩;have sq:=ak (o:=.tup [vN (cdAt L p (j+1)),vN (j+1)]) nq;have hlq:=sq _ _ (st _ _ hl2);have hCq:CL _ xs (row L j p):=hC.keep λ t ys e=>sq _ _ (st _ _ e)
     refine⟨_,rfl,_,rfl,l,xs,_,p,rfl,rfl,hlq,ixN_nat (by rw [hC.1,aW];exact hpl),g3 _ _ ?_⟩;clear g3;refine⟨_,rfl,_,_,rfl,rfl,?_⟩;have ec2:((cdAt L p (j+1):Nat):Int)+1=((cdAt L (p+1) (j+1):Nat):Int):=by rw [code_hit hb1];lia
     try dsimp only
     rw [ec2];refine⟨some (vN p),some (vN (j+1)),xs.set p (.ref q),rfl,upd_same,?_,λ c o e=>?_⟩
     ·rw [tP hb1];refine(hCq.set (y:=.ref q) (d:=some (cdAt L p (j+1),j+1)) ⟨q,rfl,upd_same⟩).keep λ t2 ys e=>?_
      rw [upd_ne (ne_of e hlq (by intro z;cases z))];exact e
     ·rw [upd_ne (af e nlH)];exact sq _ _ (st _ _ (sm _ _ e))
    ·have e1:L[p]?≠some (j+1):=by
      rw [hb1];intro z;cases z;exact h1 (decide_eq_true rfl)
     refine⟨some (vN p),some (vN b),xs,?_,st _ _ hl2,?_,sm.trans st⟩
     ·rw [code_pass e1];rfl
     ·rw [qo e1];exact hC.keep λ t ys e=>st _ _ e
   ·rintro σ H' ⟨v4,v5,xs,rfl,hl2,hC,sm⟩;rw [List.length_map] at hC ⊢;rw [code_end];rw [qM] at hC;exact⟨_,_,_,xs,rfl,hl2,hC,sm⟩
  ·rintro σ H2 ⟨v3,v4,v5,xs,rfl,hl2,hC,sm⟩;exact g1 _ _ ⟨_,rfl,k l xs H2 nlH sm hl2 hC⟩
end
theorem u1 {k:Nat}{A:Around}(r:Room k A):A.units+1<cLine:=by have:=r.un;lia
abbrev kk (a b:Nat):List Key:=[.inl ((a:Nat):Int),.inl ((b:Nat):Int)]
theorem kk_inj {a b c d:Nat}:kk a b=kk c d<->a=c/\b=d:=by
 constructor
 ·intro h;injection h with h1 h2
  injection h2 with h2 _
  injection h1 with h1
  injection h2 with h2
  lia
 ·rintro⟨rfl,rfl⟩;rfl
theorem xc:¬(("things":Str)="beginnings"):=by decide+kernel
def fC (d e:Addr):List (Str×V):=[("things",.ref d),("beginnings",.ref e)]
theorem nN (d e:Addr):putF "beginnings" (.ref e) (putF "things" (.ref d) [])=fC d e:=by
 show(if("things":Str)="beginnings" then _ else(("things":Str),V.ref d):: [("beginnings",V.ref e)])=_;rw [if_neg xc];rfl
theorem wc (d e:Addr):(fC d e).lookup ("things":Str)=some (.ref d):=by
 rw [<-nN,aG,if_neg xc,aG,if_pos rfl]
theorem wx (d e:Addr):(fC d e).lookup ("beginnings":Str)=some (.ref e):=by
 rw [<-nN,aG,if_pos rfl]
theorem fC_no (d e:Addr){m:Str}(h1:¬m="beginnings")(h2:¬m="things"):(fC d e).lookup m=none:=by
 rw [<-nN,aG,if_neg h1,aG,if_neg h2];rfl
def jO (L:List Nat)(n:Nat)(kvs:List (List Key×V)):Prop:=kvs.length≤n/\∀a b:Nat,(∀q,q<n->L[q]?=some b->1≤b->cdAt L q b=a->bz kvs (kk a b)=some (vN q))/\((∀q,q<n->L[q]?=some b->1≤b->cdAt L q b≠a)->bz kvs (kk a b)=none)
def jI (L:List Nat)(n:Nat)(kvs:List (List Key×V)):Prop:=kvs.length≤12*n/\∀a b:Nat,(bz kvs (kk a b)).isSome=true<->∃q s,q<n/\L[q]?=some s/\b<s/\cdAt L q s/2^(s-b)=a
structure CdAt (C:Addr)(H:Hp)(p d e:Addr)(L:List Nat):Prop where
 ob:∃dx,H p=some (.ins C dx (fC d e))
 th:∃kvs,H d=some (.dT kvs)/\jO L L.length kvs
 bg:∃kvs,H e=some (.dT kvs)/\jI L L.length kvs
structure CRc (K:PySem.W.Frag)(mg:Str->Option Value)(C:Addr):Prop where
 cl:Cls K C
 nT:NoAttr K C "things"
 nB:NoAttr K C "beginnings"
section
variable {P : Program} {w : World} {K : PySem.W.Frag} {mg : Str -> Option Value} {base : Heap} {C : Addr}
def xM (C:Addr):Sp:=λ vs H Q _=>∃(p d:Addr) (R:List Nat) (t u:Nat),vs=[.ref p,vN u]/\ReadAt C H p d R t/\u≤8*R.length/\
 ∀H',ReadAt C H' p d R u->(∀c o,H c=some o->c≠p->H' c=some o)->Q .non H'
theorem xY:FnScope ["self","place"] ["self","place"] (defScope sGo):=⟨rfl,rfl,rfl,by decide+kernel,rfl,by decide+kernel,by decide+kernel⟩
theorem xk {f fW':Addr}{fd fdW:FuncData}(F:Fun K "go" "BitReader.go" sGo f fd)(W:Fn K mg "is_whole" bK ["thing","least","most"] fW' fdW)(T:CRd K mg C)(X:Txt K mg):
  FnOk P w K mg base CX0 2 f fd ["self","place"] (xM C):=by
 have GW:FnOk P w K mg base CX0 1 fW' fdW ["thing","least","most"] eD:=dq W X;refine F.ok xY (λ vs H Q E h=>?_) (λ cdv A outer st H vs Q E hr h=>?_)
 ·obtain⟨p,d,R,t,s,rfl,_⟩:=h;rfl
 ·obtain⟨p,d,R,t,u,rfl,S0,hu,q⟩:=h;obtain⟨⟨dx,hp⟩,hd,hb,ht⟩:=id S0;have npd:p≠d:=ne_of hp hd (by intro z;cases z);refine⟨_,ac (aM (cj (cf (am GW hr (by rfl) W.m W.F.kp W.b .nil ap (aa (pv 1) (aa ae (aa (ai cy ae (aq ao (by rfl) X.len PySem.boot_len (aa (aR (pv 0) rfl) ad))) ad)))))) (ag aT) aB)
   (ag (cg (pv 0) (pv 1) rfl)),?_⟩
  refine⟨_,rfl,_,rfl,p,C,dx,_,_,rfl,hp,T.cl,T.nH,gl _ _,d,_,rfl,.inl (SqL.of hd),_,_,rfl,rfl,.inl ⟨by decide,by decide⟩,_,_,_,rfl,_,rfl,?_⟩;have e1:(decide ((0:Int)≤(u:Int))&&decide ((u:Int)≤8*((R.map vN).length:Int)))=true:=by
   rw [decide_eq_true (by lia),decide_eq_true (by rw [List.length_map];lia)];rfl
  try dsimp only
  rw [e1];refine bL ⟨_,rfl,_,rfl,p,C,dx,_,rfl,hp,T.cl,T.nT,qJ _ _,?_⟩
  try dsimp only
  rw [qd];refine q _ ⟨⟨dx,upd_same⟩,by rw [upd_ne npd.symm];exact hd,hb,hu⟩ λ c o e n1=>?_
  rw [upd_ne n1];exact e
def wb (C:Addr):Sp:=λ vs H Q _=>∃(p d e dx:Addr) (c s:Nat) (kvs:List (List Key×V)),vs=[.ref p,vN c,vN s]/\H p=some (.ins C dx (fC d e))/\H e=some (.dT kvs)/\kvs.length≤5000/\s≤12/\
 ∀H' kvs',H' e=some (.dT kvs')->kvs'.length≤kvs.length+s->(∀a b:Nat,(bz kvs' (kk a b)).isSome=true<->(bz kvs (kk a b)).isSome=true\/(b<s/\c/2^(s-b)=a))->
  (∀x o,H x=some o->x≠e->H' x=some o)->Q .non H'
theorem scKeep:FnScope ["self","code","length","size"] ["self","code","length"] (defScope mJ):=⟨rfl,rfl,rfl,by decide+kernel,rfl,by decide+kernel,by decide+kernel⟩
theorem uj {f:Addr}{fd:FuncData}(F:Fun K "keep_beginnings" "CodeReader.keep_beginnings" mJ f fd)(T:CRc K mg C)(X:Txt K mg):FnOk P w K mg base CX0 1 f fd ["self","code","length"] (wb C):=by
 refine F.ok scKeep (λ vs H Q E h=>?_) (λ cdv A outer st H vs Q E hr h=>?_)
 ·obtain⟨p,d,e,dx,c,s,kvs,rfl,_⟩:=h;rfl
 ·obtain⟨p,d,e,dx,c,s,kvs,rfl,hp,he,hl,hs,q⟩:=h;have npe:p≠e:=ne_of hp he (by intro z;cases z);refine⟨_,ag (aS PassesOwn.never rfl (bw (by rfl) X.range (aa (pv 2) ad)) (aF (i:=3) scKeep.nd rfl (Or.inl rfl))
   (ag (jv (u1 hr) (aR (pv 0) rfl) (bB (aa (ai li (pv 1) (ai aY (pv 2) (pv 3))) (aa (pv 3) ad))) dQ rfl))),?_⟩
  refine⟨_,rfl,((s:Nat):Int),rfl,by lia,by lia,?_⟩
  try dsimp only
  rw [Int.toNat_natCast];refine bc (D:=⟨_,_,λ _ _=>False,λ _ _=>False⟩) (lo:=0) (n:=s) (λ i σ H2=>∃(v:Option V) (kvs':List (List Key×V)),σ=[some (.ref p),some (vN c),some (vN s),v]/\H2 e=some (.dT kvs')/\kvs'.length≤kvs.length+i/\
    (∀a b:Nat,(bz kvs' (kk a b)).isSome=true<->(bz kvs (kk a b)).isSome=true\/(b<i/\c/2^(s-b)=a))/\∀x o,H x=some o->x≠e->H2 x=some o)
   ⟨none,kvs,rfl,he,by lia,λ a b=>⟨.inl,λ z=>z.elim id λ z=>absurd z.1 (by lia)⟩,λ x o e _=>e⟩ ?_ ?_
  ·rintro i σ H2 hi ⟨v,kvs',rfl,he2,hl2,hv,oth⟩;have ei:(0:Int)+((i:Nat):Int)=((i:Nat):Int):=by lia
   try dsimp only
   rw [ei];have hp2:=oth _ _ hp npe;refine⟨_,rfl,p,C,dx,_,_,rfl,hp2,T.cl,T.nB,wx _ _,?_⟩;refine⟨_,rfl,_,rfl,_,rfl,_,_,rfl,rfl,_,_,rfl,rfl,(by show(0:Int)≤((s:Nat):Int)-((i:Nat):Int);lia),_,rfl,(by show 2≤sizeLine;decide),λ t nt=>?_⟩;have e1:((c:Nat):Int)/2^(((s:Nat):Int)-((i:Nat):Int)).toNat=((c/2^(s-i):Nat):Int):=by
    rw [show(((s:Nat):Int)-((i:Nat):Int)).toNat=s-i by lia];simp
   try dsimp only
   rw [e1];have net:e≠t:=af he2 nt;refine⟨e,_,rfl,DPut.t (b:=t) (k:=kk (c/2^(s-i)) i) (by rw [upd_ne net];exact he2) upd_same (Nat.lt_of_le_of_lt (show _≤6000 by lia) (by decide)),?_⟩;refine⟨_,_,rfl,upd_same,Nat.le_trans (cu _ _ _) (by lia),λ a b=>?_,λ x o ex hx=>?_⟩
   ·rw [eB];by_cases c1:kk a b=kk (c/2^(s-i)) i
    ·rw [if_pos c1];obtain⟨rfl,rfl⟩:=kk_inj.mp c1;exact⟨λ _=>.inr ⟨by lia,rfl⟩,λ _=>rfl⟩
    ·rw [if_neg c1,hv];constructor
     ·rintro(z|⟨z1,z2⟩)
      ·exact .inl z
      ·exact .inr ⟨by lia,z2⟩
     ·rintro(z|⟨z1,z2⟩)
      ·exact .inl z
      ·refine .inr ⟨?_,z2⟩;rcases Nat.lt_or_ge b i with h|h
       ·exact h
       ·have:b=i:=by lia
        subst this;exact absurd (kk_inj.mpr ⟨z2.symm,rfl⟩) c1
   ·have h1:=oth x o ex hx;rw [upd_ne hx,upd_ne (af h1 nt)];exact h1
  ·rintro σ H2 ⟨v,kvs',rfl,he2,hl2,hv,oth⟩;exact q _ _ he2 hl2 hv oth
end
theorem sD (L:List Nat):jO L 0 []:=⟨Nat.le_refl _,λ a b=>⟨λ q hq=>absurd hq (by lia),λ _=>rfl⟩⟩
theorem uc (L:List Nat):jI L 0 []:=by
 refine⟨Nat.zero_le _,λ a b=>⟨λ h=>?_,λ⟨q,s,hq,_⟩=>absurd hq (by lia)⟩⟩;cases h
theorem uF {L:List Nat}{n:Nat}{kvs:List (List Key×V)}(h:jO L n kvs)(h0:∀s,L[n]?=some s->¬1≤s):jO L (n+1) kvs:=by
 refine⟨Nat.le_trans h.1 (Nat.le_succ _),λ a b=>⟨λ q hq hb h1 hc=>?_,λ hn=>(h.2 a b).2 λ q hq=>hn q (by lia)⟩⟩;rcases Nat.lt_or_ge q n with z|z
 ·exact(h.2 a b).1 q z hb h1 hc
 ·have:q=n:=by lia
  subst this;exact absurd h1 (h0 b hb)
theorem sJ {L:List Nat}{n:Nat}{kvs:List (List Key×V)}(h:jI L n kvs)(h0:∀s,L[n]?=some s->¬1≤s):jI L (n+1) kvs:=by
 refine⟨Nat.le_trans h.1 (by lia),λ a b=>(h.2 a b).trans ⟨λ⟨q,s,hq,r⟩=>⟨q,s,by lia,r⟩,λ⟨q,s,hq,h1,h2,h3⟩=>?_⟩⟩;rcases Nat.lt_or_ge q n with z|z
 ·exact⟨q,s,z,h1,h2,h3⟩
 ·have:q=n:=by lia
  subst this;exact absurd (by lia) (h0 s h1)
theorem vM {L:List Nat}{n s:Nat}{kvs:List (List Key×V)}(h:jO L n kvs)(hs:L[n]?=some s)(h1:1≤s):jO L (n+1) (putK kvs (kk (cdAt L n s) s) (vN n)):=by
 refine⟨Nat.le_trans (cu _ _ _) (by have:=h.1;lia),λ a b=>⟨λ q hq hb hb1 hc=>?_,λ hn=>?_⟩⟩
 ·rw [eB];by_cases c:kk a b=kk (cdAt L n s) s
  ·obtain⟨rfl,rfl⟩:=kk_inj.mp c;rw [if_pos rfl,qp hb hs hc]
  ·rw [if_neg c];rcases Nat.lt_or_ge q n with z|z
   ·exact(h.2 a b).1 q z hb hb1 hc
   ·have:q=n:=by lia
    subst this;rw [hs] at hb;cases hb;exact absurd (kk_inj.mpr ⟨hc.symm,rfl⟩) c
 ·rw [eB,if_neg]
  ·exact(h.2 a b).2 λ q hq=>hn q (by lia)
  ·intro c;obtain⟨rfl,rfl⟩:=kk_inj.mp c;exact hn n (by lia) hs h1 rfl
theorem wo {L:List Nat}{n s:Nat}{kvs kvs':List (List Key×V)}(h:jI L n kvs)(hs:L[n]?=some s)(hs12:s≤12)(hl:kvs'.length≤kvs.length+s)
  (hv:∀a b:Nat,(bz kvs' (kk a b)).isSome=true<->(bz kvs (kk a b)).isSome=true\/(b<s/\cdAt L n s/2^(s-b)=a)):jI L (n+1) kvs':=by
 refine⟨by have:=h.1;lia,λ a b=>(hv a b).trans ?_⟩;rw [h.2 a b];constructor
 ·rintro(⟨q,r,hq,z⟩|⟨z1,z2⟩)
  ·exact⟨q,r,by lia,z⟩
  ·exact⟨n,s,by lia,hs,z1,z2⟩
 ·rintro⟨q,r,hq,z1,z2,z3⟩;rcases Nat.lt_or_ge q n with z|z
  ·exact .inl ⟨q,r,z,z1,z2,z3⟩
  ·have:q=n:=by lia
   subst this;rw [hs] at z1;cases z1;exact .inr ⟨z2,z3⟩
section
variable {P : Program} {w : World} {K : PySem.W.Frag} {mg : Str -> Option Value} {base : Heap} {C : Addr}
def tQ (C:Addr):Sp:=λ vs H Q _=>∃(p dx a:Addr) (L:List Nat),vs=[.ref p,.ref a]/\H p=some (.ins C dx [])/\H a=some (.lst (L.map vN))/\Good L/\
 ∀(d e:Addr) (H':Hp),H d=none->H e=none->CdAt C H' p d e L->(∀b o,H b=some o->b≠p->H' b=some o)->Q .non H'
theorem scCInit:FnScope ["self","lengths","place","pair"] ["self","lengths"] (defScope i9):=⟨rfl,rfl,rfl,by decide+kernel,rfl,by decide+kernel,by decide+kernel⟩
structure Mks (K:PySem.W.Frag)(mg:Str->Option Value)(C:Addr):Prop where
 X:Txt K mg
 Y:Lns K mg
 need:∃f fd,Fn K mg "need_lengths" du ["lengths"] f fd
 cof:∃f fd,Fn K mg "codes_of" eN ["lengths"] f fd
 keep:∃f fd,Me K C "keep_beginnings" "CodeReader.keep_beginnings" mJ ["self","code","length"] f fd
 R:CRc K mg C
theorem ok_cinit {f:Addr}{fd:FuncData}(F:Fun K "__init__" "CodeReader.__init__" i9 f fd)(M:Mks K mg C):FnOk P w K mg base CX0 34 f fd ["self","lengths"] (tQ C):=by
 obtain⟨X,Y,⟨_,_,N⟩,⟨_,_,O⟩,⟨_,_,Ke⟩,T⟩:=M;have GO:=ok_codesof (P:=P) (w:=w) (base:=base) O N Y;have GK:=uj (P:=P) (w:=w) (base:=base) Ke.F T X;refine F.ok scCInit (λ vs H Q E h=>?_) (λ cdv A outer st H vs Q E hr h=>?_)
 ·obtain⟨p,dx,a,L,rfl,_⟩:=h;rfl
 ·obtain⟨p,dx,a,L,rfl,hp,ha,G,q⟩:=h;have hr1:Room 1 _:=hr.mono (by decide);refine⟨_,ac (cg (pv 0) kS rfl) (ac (cg (pv 0) kS rfl)
   (ag (aS PassesOwn.never rfl (je (by rfl) Y.X.enum (aa (am GO hr (by rfl) O.m O.F.kp O.b .nil ap (aa (pv 1) ad)) ad)) (gY rfl (bH (aF (i:=2) scCInit.nd rfl (Or.inl rfl)) (bH (aF (i:=3) scCInit.nd rfl (Or.inl rfl)) ee)))
    (ag (aM (mw (tX (pv 3)))
     (ac (jv (u1 hr) (aR (pv 0) rfl) (pv 3) (pv 2) rfl)
     (ag (aD (a6 (pv 0) T.cl Ke.m GK hr1 Ke.b .nil ap (aa (aL a9 (pv 3) ae (λ _ _=>rfl)) (aa (aL a9 (pv 3) ae (λ _ _=>rfl)) ad)))))) aB))))),?_⟩
  refine seq_g λ R1 g1=>?_
  intro d nd;have npd:p≠d:=af hp nd;refine⟨_,rfl,p,C,dx,[],rfl,(by rw [upd_ne npd];exact hp),T.cl,T.nT,(by show 0<1000;decide),g1 _ _ ?_⟩;clear g1;refine seq_g λ R1 g1=>?_
  intro e ne;have npe:p≠e:=by
   rintro rfl;rw [upd_same] at ne;cases ne
  have nde:d≠e:=by
   rintro rfl;rw [upd_ne npd.symm,upd_same] at ne;cases ne
  refine⟨_,rfl,p,C,dx,_,rfl,(by rw [upd_ne npe,upd_same]),T.cl,T.nB,(by show 1<1000;decide),g1 _ _ ?_⟩;clear g1;have neH:H e=none:=by
   rw [upd_ne npe.symm,upd_ne nde.symm] at ne;exact ne
  try dsimp only
  rw [nN];have kp:∀b o,H b=some o->b≠p->upd (upd (upd (upd H d (.dT [])) p (.ins C dx (putF "things" (.ref d) []))) e (.dT [])) p (.ins C dx (fC d e)) b=some o:=λ b o ez hn=>by
   rw [upd_ne hn,upd_ne (af ez neH),upd_ne hn,upd_ne (af ez nd)];exact ez
  have hp0:upd (upd (upd (upd H d (.dT [])) p (.ins C dx (putF "things" (.ref d) []))) e (.dT [])) p (.ins C dx (fC d e)) p=some (.ins C dx (fC d e)):=upd_same;have hd0:upd (upd (upd (upd H d (.dT [])) p (.ins C dx (putF "things" (.ref d) []))) e (.dT [])) p (.ins C dx (fC d e)) d=some (.dT []):=by
   rw [upd_ne npd.symm,upd_ne nde,upd_ne npd.symm,upd_same]
  have he0:upd (upd (upd (upd H d (.dT [])) p (.ins C dx (putF "things" (.ref d) []))) e (.dT [])) p (.ins C dx (fC d e)) e=some (.dT []):=by
   rw [upd_ne npe.symm,upd_same]
  generalize upd (upd (upd (upd H d (.dT [])) p (.ins C dx (putF "things" (.ref d) []))) e (.dT [])) p (.ins C dx (fC d e))=H0 at*;have nap:a≠p:=ne_of ha hp (by intro z;cases z);refine⟨_,rfl,_,L,rfl,⟨a,rfl,kp _ _ ha nap,G.most⟩,G,λ l xs H1 nl s1 hl1 hC1=>?_⟩;have nlp:l≠p:=λ z=>by rw [z,hp0] at nl;cases nl
  have nld:l≠d:=λ z=>by rw [z,hd0] at nl;cases nl
  have nle:l≠e:=λ z=>by rw [z,he0] at nl;cases nl
  refine⟨l,_,rfl,SqL.of hl1,pR (D:=⟨_,_,λ _ _=>False,λ _ _=>False⟩) (K:=K) (a:=l) (xs:=xs) (λ i σ H2=>∃(v2 v3:Option V) (k1 k2:List (List Key×V)),σ=[some (.ref p),some (.ref a),v2,v3]/\H2 p=some (.ins C dx (fC d e))/\H2 d=some (.dT k1)/\H2 e=some (.dT k2)/\jO L i k1/\jI L i k2/\H2 l=some (.lst xs)/\CL H2 xs (codes L)/\
    ∀b o,H b=some o->b≠p->H2 b=some o) ⟨none,none,[],[],rfl,s1 _ _ hp0,s1 _ _ hd0,s1 _ _ he0,sD L,uc L,hl1,hC1,λ b o ez hn=>s1 _ _ (kp b o ez hn)⟩ (λ i σ H' _ ⟨_,_,_,_,_,_,_,_,_,_,z,_⟩=>SqL.of z) ?_ ?_⟩
  ·rintro i x t σ H2 hx nt ⟨v2,v3,k1,k2,rfl,hp2,hd2,he2,hT,hB,hl2,hC,oth⟩;have hil:i<(codes L).length:=by rw [<-hC.1];exact(List.getElem?_eq_some_iff.mp hx).1
   have hiL:i<L.length:=by
    unfold codes at hil
    rwa [aW] at hil
   have hLle:=G.le;have st:=ak (o:=.tup [vN i,x]) nt;refine⟨t,_,rfl,SqT.of upd_same,rfl,_,_,rfl,_,_,rfl,rfl,?_⟩;have ot:=hC.2 i x _ hx (List.getElem?_eq_getElem hil);have hpT:=st _ _ hp2;have hdT:=st _ _ hd2;have heT:=st _ _ he2;have hlT:=st _ _ hl2;have hCT:CL _ xs (codes L):=hC.keep λ t2 ys ez=>st _ _ ez
   have othT:∀b o,H b=some o->b≠p->upd H2 t (.tup [vN i,x]) b=some o:=λ b o ez hn=>st _ _ (oth b o ez hn)
   generalize upd H2 t (.tup [vN i,x])=H3 at*;cases eo:(codes L)[i] with
   |none=>
    rw [eo] at ot;have ex:x=.non:=ot;subst ex;have h0:∀s,L[i]?=some s->¬1≤s:=λ s hs h1=>by
     have:=codes_of_get G hs h1;rw [List.getElem?_eq_getElem hil,eo] at this;cases this
    refine⟨_,rfl,_,rfl,bL ?_⟩;exact⟨_,_,k1,k2,rfl,hpT,hdT,heT,uF hT h0,sJ hB h0,hlT,hCT,othT⟩
   |some c=>
    rw [eo] at ot;have hcs:=ml G (c:=c) (q:=i) (by rw [List.getElem?_eq_getElem hil,eo]);obtain⟨u,ex,hu⟩:=hC.keep (H':=H3) (λ t2 ys ez=>by exact(st _ _ ez))|>.2 i x _ hx (by rw [List.getElem?_eq_getElem hil,eo]);subst ex;refine⟨_,rfl,_,rfl,pz ?_⟩;refine seq_g λ R2 g2=>?_
    refine⟨_,rfl,_,rfl,p,C,dx,_,_,rfl,hpT,T.cl,T.nT,wc _ _,_,rfl,d,_,rfl,DPut.t (b:=u) (k:=kk c.1 c.2) hdT hu (Nat.lt_of_le_of_lt (show _≤300 by have:=hT.1;lia) (by decide)),g2 _ _ ?_⟩;clear g2;have nud:u≠d:=ne_of hu hdT (by intro z;cases z);have hu4:upd H3 d (.dT (putK k1 (kk c.1 c.2) (vN i))) u=some (.tup [vN c.1,vN c.2]):=by rw [upd_ne nud];exact hu
    refine⟨_,rfl,p,dx,_,rfl,(by rw [upd_ne npd];exact hpT),fC_no _ _ (by decide+kernel) (by decide+kernel),?_⟩;refine⟨_,rfl,u,_,_,_,rfl,rfl,SqT.of hu4,aw (j:=0) rfl,_,rfl,u,_,_,_,rfl,rfl,SqT.of hu4,aw (j:=1) rfl,?_⟩;have hc12:c.2≤12:=lS G hcs.1;refine⟨p,d,e,dx,c.1,c.2,k2,rfl,(by rw [upd_ne npd];exact hpT),(by rw [upd_ne nde.symm];exact heT),(by have:=hB.1;lia),hc12,λ H5 k2' he5 hl5 hv5 oth5=>?_⟩;refine⟨_,_,_,k2',rfl,oth5 _ _ (by rw [upd_ne npd];exact hpT) npe,oth5 _ _ upd_same nde,he5,?_,?_,oth5 _ _ (by rw [upd_ne nld];exact hlT) nle,?_,λ b o ez hn=>?_⟩
    ·have:=vM hT hcs.1 hcs.2.1;rw [<-hcs.2.2] at this;exact this
    ·refine wo hB hcs.1 hc12 hl5 λ a b=>?_
     rw [<-hcs.2.2];exact hv5 a b
    ·refine hCT.keep λ t2 ys ez=>?_
     refine oth5 _ _ ?_ (ne_of ez heT (by intro z;cases z));rw [upd_ne (ne_of ez hdT (by intro z;cases z))];exact ez
    ·have h3:=othT b o ez hn;refine oth5 _ _ ?_ (af ez neH);rw [upd_ne (af ez nd)];exact h3
  ·rintro σ H2 ⟨v2,v3,k1,k2,rfl,hp2,hd2,he2,hT,hB,hl2,hC,oth⟩;have e1:xs.length=L.length:=by rw [hC.1];unfold codes;rw [aW]
   rw [e1] at hT hB;exact q d e H2 nd neH ⟨⟨dx,hp2⟩,⟨k1,hd2,hT⟩,⟨k2,he2,hB⟩⟩ oth
end
def bt (R:List Nat):List Bool:=BP.dig (BP.val R) (8*R.length)
theorem o3 (R:List Nat):(bt R).length=8*R.length:=BP.dig_length _ _
theorem mX (n:Nat):∀(m i:Nat),i<m->(BP.dig n m)[i]?=some (decide (n/2^(m-1-i)%2=1))
 |m+1,0,_=>by
  show some _=some _;rfl
 |m+1,i+1,h=>by
  show(BP.dig n m)[i]?=_;rw [mX n m i (by lia),show m+1-1-(i+1)=m-1-i by lia]
theorem vL {R:List Nat}{t s:Nat}(h:t+s<8*R.length):∃b:Bool,((bt R).drop t).take (s+1)=((bt R).drop t).take s++[b]/\BP.val R/2^(8*R.length-(t+s+1))%2^1=b.toNat:=by
 refine⟨decide (BP.val R/2^(8*R.length-1-(t+s))%2=1),?_,?_⟩
 ·rw [List.take_add_one,List.getElem?_drop];unfold bt;rw [mX _ _ _ h];rfl
 ·rw [show 8*R.length-(t+s+1)=8*R.length-1-(t+s) by lia,Nat.pow_one];have h2:=Nat.mod_lt (BP.val R/2^(8*R.length-1-(t+s))) (show 0<2 by decide);by_cases c:BP.val R/2^(8*R.length-1-(t+s))%2=1
  ·rw [decide_eq_true c,c];rfl
  ·rw [decide_eq_false c];show _=0;lia
theorem _root_.K19.ReadAt.same {C:Addr}{H H':Hp}{p d:Addr}{R:List Nat}{t:Nat}(h:ReadAt C H p d R t)(s:Same H H'):ReadAt C H' p d R t:=by
 obtain⟨⟨dx,h1⟩,h2,h3,h4⟩:=h;exact⟨⟨dx,s _ _ h1⟩,s _ _ h2,h3,h4⟩
theorem xI:¬(("things":Str)="held"):=by decide+kernel
theorem wB {C B:Addr}{H:Hp}{p d e r g:Addr}{L R:List Nat}{t:Nat}(h:CdAt C H p d e L)(h':ReadAt B H r g R t):p≠r/\d≠r/\e≠r/\p≠g/\d≠g/\e≠g:=by
 obtain⟨⟨dx,h1⟩,⟨k1,h2,_⟩,⟨k2,h3,_⟩⟩:=h;obtain⟨⟨dy,r1⟩,r2,_,_⟩:=h';refine⟨ne_of h1 r1 ?_,ne_of h2 r1 (by intro z;cases z),ne_of h3 r1 (by intro z;cases z),ne_of h1 r2 (by intro z;cases z),ne_of h2 r2 (by intro z;cases z),ne_of h3 r2 (by intro z;cases z)⟩;intro z;injection z with _ _ z
 unfold fC fR at z;injection z with z _
 injection z with z _
 exact xI z
theorem CdAt.keep {C:Addr}{H H':Hp}{p d e:Addr}{L:List Nat}(h:CdAt C H p d e L)(s:∀c o,H c=some o->(c=p\/c=d\/c=e)->H' c=some o):CdAt C H' p d e L:=by
 obtain⟨⟨dx,h1⟩,⟨k1,h2,h2'⟩,⟨k2,h3,h3'⟩⟩:=h;exact⟨⟨dx,s _ _ h1 (.inl rfl)⟩,⟨k1,s _ _ h2 (.inr (.inl rfl)),h2'⟩,⟨k2,s _ _ h3 (.inr (.inr rfl)),h3'⟩⟩
theorem CdAt.same {C:Addr}{H H':Hp}{p d e:Addr}{L:List Nat}(h:CdAt C H p d e L)(s:Same H H'):CdAt C H' p d e L:=h.keep λ c o e _=>s _ _ e
theorem CdAt.but {C B:Addr}{H H':Hp}{p d e r g:Addr}{L R:List Nat}{t:Nat}(h:CdAt C H p d e L)(h':ReadAt B H r g R t)(s:∀c o,H c=some o->c≠r->H' c=some o):CdAt C H' p d e L:=by
 obtain⟨n1,n2,n3,_⟩:=wB h h';exact h.keep λ c o ez hc=>s c o ez (by rcases hc with rfl|rfl|rfl<;>assumption)
theorem tE {L:List Nat}{kvs:List (List Key×V)}(h:jI L L.length kvs)(u:List Bool):(bz kvs (kk (BP.num u) u.length)).isSome=true<->Beg L u:=by
 rw [h.2];constructor
 ·rintro⟨q,s,_,h1,h2,h3⟩;exact⟨q,s,h1,h2,h3⟩
 ·rintro⟨q,s,h1,h2,h3⟩;exact⟨q,s,(List.getElem?_eq_some_iff.mp h1).1,h1,h2,h3⟩
theorem sI {L:List Nat}{kvs:List (List Key×V)}(h:jO L L.length kvs)(u:List Bool):(∀q,c7 L u q->bz kvs (kk (BP.num u) u.length)=some (vN q))/\((∀q,¬c7 L u q)->bz kvs (kk (BP.num u) u.length)=none):=by
 refine⟨λ q ⟨h1,h2,h3⟩=>(h.2 _ _).1 q (List.getElem?_eq_some_iff.mp h1).1 h1 h2 h3,λ hn=>(h.2 _ _).2 λ q _ h1 h2 h3=>hn q ⟨h1,h2,h3⟩⟩
section
variable {P : Program} {w : World} {K : PySem.W.Frag} {mg : Str -> Option Value} {base : Heap} {C B : Addr}
structure Rds (K:PySem.W.Frag)(mg:Str->Option Value)(B:Addr):Prop where
 X:Txt K mg
 whole:∃f fd,Fn K mg "is_whole" bK ["thing","least","most"] f fd
 size:∃f fd,Fn K mg "need_size" bP ["size"] f fd
 ones:∃f fd,Fn K mg "ones" dR ["size"] f fd
 bits:∃f fd,Fn K mg "bits_at" dH ["row","place","size"] f fd
 take:∃f fd,Me K B "take" "BitReader.take" jE ["self","size"] f fd
 left:∃f fd,Me K B "left" "BitReader.left" im ["self"] f fd
 place:∃f fd,Me K B "place" "BitReader.place" gy ["self"] f fd
 go:∃f fd,Me K B "go" "BitReader.go" sGo ["self","place"] f fd
 R:CRd K mg B
def sM (C B:Addr):Sp:=λ vs H Q _=>∃(p d e r g:Addr) (L R:List Nat) (t q s:Nat),vs=[.ref p,.ref r]/\CdAt C H p d e L/\Good L/\ReadAt B H r g R t/\Due L ((bt R).drop t) (.thing q s)/\∀H',ReadAt B H' r g R (t+s)->(∀c o,H c=some o->c≠r->H' c=some o)->Q (vN q) H'
abbrev vy:List Str:=["self","reader","begin","code","size"]
theorem scThing:FnScope vy ["self","reader"] (defScope i6):=⟨rfl,rfl,rfl,by decide+kernel,rfl,by decide+kernel,by decide+kernel⟩
theorem ok_thing {f:Addr}{fd:FuncData}(F:Fun K "thing" "CodeReader.thing" i6 f fd)(T:CRc K mg C)(D:Rds K mg B):FnOk P w K mg base CX0 31 f fd ["self","reader"] (sM C B):=by
 obtain⟨X,⟨_,_,W⟩,⟨_,_,S⟩,⟨_,_,O⟩,⟨_,_,Bi⟩,⟨_,_,Ta⟩,⟨_,_,Le⟩,⟨_,_,Pl⟩,⟨_,_,Go⟩,TB⟩:=D;have GT:=f8 (P:=P) (w:=w) (base:=base) Ta.F S W Bi O Le TB X;have GL:=m7 (P:=P) (w:=w) (base:=base) Le.F TB X;have GP:=gP (P:=P) (w:=w) (base:=base) Pl.F TB;have GG:=xk (P:=P) (w:=w) (base:=base) Go.F W TB X;refine F.ok scThing (λ vs H Q E h=>?_) (λ cdv A outer st H vs Q E hr h=>?_)
 ·obtain⟨p,d,e,r,g,L,R,t,q0,s0,rfl,_⟩:=h;rfl
 ·obtain⟨p,d,e,r,g,L,R,t,q0,s0,rfl,hC,G,hR,hD,k⟩:=h;have hr1:Room 1 _:=hr.mono (by decide);have hr2:Room 2 _:=hr.mono (by decide);have hr3:Room 3 _:=hr.mono (by decide);refine⟨_,ac (aj (i:=2) scThing.nd rfl (Or.inl rfl) (bi (pv 1) TB.cl Pl.m GP hr1 Pl.b .nil ap))
   (ac (aj (i:=3) scThing.nd rfl (Or.inl rfl) ae)
   (ac (aj (i:=4) scThing.nd rfl (Or.inl rfl) ae)
   (ac (bF PassesOwn.never (mw (vE (u1 hr) (bB (aa (pv 3) (aa (pv 4) ad))) (aR (pv 0) rfl)))
    (ac (aM (ar bh (bi (pv 1) TB.cl Le.m GL hr1 Le.b .nil ap) ae (ax _))
     (ac (aD (a6 (pv 1) TB.cl Go.m GG hr2 Go.b .nil ap (aa (pv 2) ad))) (ag aT)) aB)
    (ac (aj (i:=3) scThing.nd rfl (Or.inl rfl) (ai rL (ai cQ (pv 3) ae) (a6 (pv 1) TB.cl Ta.m GT hr3 Ta.b .nil ap (aa ae ad))))
    (ag (aj (i:=4) scThing.nd rfl (Or.inl rfl) (ai aA (pv 4) ae))))))
   (ac (aM (mw (o4 (u1 hr) (bB (aa (pv 3) (aa (pv 4) ad))) (aR (pv 0) rfl)))
     (ac (aD (a6 (pv 1) TB.cl Go.m GG hr2 Go.b .nil ap (aa (pv 2) ad))) (ag aT)) aB)
   (ag (az (nF (u1 hr) (aR (pv 0) rfl) (bB (aa (pv 3) (aa (pv 4) ad))) (λ _ _=>rfl)))))))),?_⟩
  have ht:=hR.le;have hrl:((bt R).drop t).length=8*R.length-t:=by rw [List.length_drop,o3]
  refine seq_g λ R1 g1=>?_
  obtain⟨dx,hr0⟩:=hR.ob;refine⟨_,rfl,r,dx,_,rfl,hr0,eu _ _ (by decide+kernel) (by decide+kernel),r,g,R,t,rfl,hR,g1 _ _ ?_⟩;clear g1;refine seq_g λ R1 g1=>g1 _ _ ?_
  clear g1;refine seq_g λ R1 g1=>g1 _ _ ?_
  clear g1;refine seq_g λ R1 g1=>?_
  refine⟨λ m σ H2=>∃s,m=(8*R.length-t)-s/\t+s≤8*R.length/\(∀j<s,Beg L (((bt R).drop t).take j))/\σ=[some (.ref p),some (.ref r),some (vN t),some (vN (BP.num (((bt R).drop t).take s))),some (vN s)]/\ReadAt B H2 r g R (t+s)/\CdAt C H2 p d e L/\∀c o,H c=some o->c≠r->H2 c=some o,
   ⟨_,0,rfl,by lia,λ j hj=>absurd hj (by lia),rfl,hR,hC,λ c o z _=>z⟩,?_⟩
  rintro m σ H2 ⟨s,rfl,hs,hbg,rfl,hR2,hC2,oth⟩;have hus:(((bt R).drop t).take s).length=s:=by rw [List.length_take,hrl];lia
  obtain⟨k2,hk2,hB2⟩:=hC2.bg;obtain⟨dy,hp2⟩:=hC2.ob;refine⟨_,rfl,_,rfl,(by show 2≤sizeLine;decide),λ u nu=>?_⟩;have su:=ak (o:=.tup [vN (BP.num (((bt R).drop t).take s)),vN s]) nu;have hu:upd H2 u (.tup [vN (BP.num (((bt R).drop t).take s)),vN s]) u=some (.tup ((kk (BP.num (((bt R).drop t).take s)) s).map kV)):=upd_same;have hR3:=hR2.same su;have hC3:=hC2.same su;have oth3:∀c o,H c=some o->c≠r->upd H2 u (.tup [vN (BP.num (((bt R).drop t).take s)),vN s]) c=some o:=λ c o z hn=>su _ _ (oth c o z hn)
  have hk3:=su _ _ hk2;have hp3:=su _ _ hp2;generalize upd H2 u (.tup [vN (BP.num (((bt R).drop t).take s)),vN s])=H3 at*;refine⟨_,rfl,p,C,dy,_,_,rfl,hp3,T.cl,T.nB,wx _ _,e,_,rfl,DGet.t hk3 hu,_,rfl,?_⟩;have hw:=tE hB2 (((bt R).drop t).take s);rw [hus] at hw;by_cases c1:Beg L (((bt R).drop t).take s)
  ·rw [hw.mpr c1];refine pz ?_;refine⟨λ σ' H'=>∃m',m'<8*R.length-t-s/\∃s',m'=(8*R.length-t)-s'/\t+s'≤8*R.length/\(∀j<s',Beg L (((bt R).drop t).take j))/\σ'=[some (.ref p),some (.ref r),some (vN t),some (vN (BP.num (((bt R).drop t).take s'))),some (vN s')]/\ReadAt B H' r g R (t+s')/\CdAt C H' p d e L/\∀c o,H c=some o->c≠r->H' c=some o,λ σ' H' h=>h,?_⟩;have hbg':∀j<s+1,Beg L (((bt R).drop t).take j):=λ j hj=>by
    rcases Nat.lt_or_ge j s with z|z
    ·exact hbg j z
    ·have:j=s:=by lia
     subst this;exact c1
   refine seq_g λ R2 g2=>?_
   obtain⟨dx3,hr3'⟩:=hR3.ob;refine⟨_,rfl,r,dx3,_,rfl,hr3',eu _ _ (by decide+kernel) (by decide+kernel),r,g,R,t+s,rfl,hR3,rfl,_,rfl,aJ (λ h1=>?_) (λ h1=>?_)⟩
   ·have h0:8*R.length-(t+s)=0:=vN_inj.mp (of_decide_eq_true h1);have hn:Due L ((bt R).drop t) .none:=λ j hj=>hbg' j (by rw [hrl] at hj;lia)
    cases hD.uniq hn
   ·have h0:t+s<8*R.length:=by
     rcases Nat.lt_or_ge (t+s) (8*R.length) with z|z
     ·exact z
     ·exact absurd (decide_eq_true (vN_inj.mpr (show 8*R.length-(t+s)=0 by lia))) h1
    refine g2 _ _ ?_;clear g2;obtain⟨b,hb1,hb2⟩:=vL h0;refine seq_g λ R2 g2=>?_
    have hs12:s≤12:=by
     obtain⟨q1,s1,z1,z2,_⟩:=c1;have:=lS G z1;lia
    have es:BP.num (((bt R).drop t).take s)<2^s:=by have:=BP.num_lt (((bt R).drop t).take s);rwa [hus] at this
    have es2:2^s≤2^12:=Nat.pow_le_pow_right (by decide) hs12;refine⟨_,rfl,_,_,rfl,rfl,⟨by lia,by lia,by lia⟩,?_⟩;refine⟨_,rfl,r,dx3,_,rfl,hr3',eu _ _ (by decide+kernel) (by decide+kernel),r,g,R,t+s,1,rfl,hR3,by lia,by lia,λ H4 hR4 oth4=>?_⟩;refine⟨_,_,rfl,rfl,g2 _ _ ?_⟩;clear g2;have hb3:b.toNat<2^1:=by cases b<;>decide
    have e1:Builtin.bitOr (((BP.num (((bt R).drop t).take s):Nat):Int)*2^(1:Int).toNat) ((BP.val R/2^(8*R.length-(t+s+1))%2^1:Nat):Int)=((BP.num (((bt R).drop t).take (s+1)):Nat):Int):=by
     rw [hb2];have:=lU (BP.num (((bt R).drop t).take s)) b.toNat 1 hb3;rw [hb1,BP.num_snoc];rw [show((1:Int))=((1:Nat):Int) from rfl,this];lia
    try dsimp only
    rw [e1];refine⟨_,rfl,_,_,rfl,rfl,?_⟩;have e2:((s:Nat):Int)+1=((s+1:Nat):Int):=by lia
    try dsimp only
    rw [e2];exact⟨_,by lia,s+1,rfl,by lia,hbg',rfl,hR4,hC3.but hR3 oth4,λ c o z hn=>oth4 c o (oth3 c o z hn) hn⟩
  ·rw [Bool.eq_false_iff.mpr (λ z=>c1 (hw.mp z))];refine bL (g1 _ _ ?_);clear g1;obtain⟨k1,hk1,hT1⟩:=hC3.th;obtain⟨dx3,hr3'⟩:=hR3.ob;obtain⟨tw1,tw2⟩:=sI hT1 (((bt R).drop t).take s);rw [hus] at tw1 tw2;refine seq_g λ R2 g2=>?_
   refine⟨_,rfl,_,rfl,(by show 2≤sizeLine;decide),λ v nv=>?_⟩;have sv:=ak (o:=.tup [vN (BP.num (((bt R).drop t).take s)),vN s]) nv;have hv:upd H3 v (.tup [vN (BP.num (((bt R).drop t).take s)),vN s]) v=some (.tup ((kk (BP.num (((bt R).drop t).take s)) s).map kV)):=upd_same;have hR4:=hR3.same sv;have hC4:=hC3.same sv;have oth4:∀c o,H c=some o->c≠r->upd H3 v (.tup [vN (BP.num (((bt R).drop t).take s)),vN s]) c=some o:=λ c o z hn=>sv _ _ (oth3 c o z hn)
   have hk4:=sv _ _ hk1;have hp4:=sv _ _ hp3;have hr4:=sv _ _ hr3';generalize upd H3 v (.tup [vN (BP.num (((bt R).drop t).take s)),vN s])=H4 at*;refine⟨_,rfl,p,C,dy,_,_,rfl,hp4,T.cl,T.nT,wc _ _,d,_,rfl,DGet.t hk4 hv,_,rfl,?_⟩;by_cases c2:∃q,c7 L (((bt R).drop t).take s) q
   ·obtain⟨q,hq⟩:=c2;rw [tw1 q hq];refine bL (g2 _ _ ?_);clear g2;have hn:Due L ((bt R).drop t) (.thing q s):=⟨by rw [hrl];lia,hq,hbg⟩;have hz:=hD.uniq hn;obtain⟨e1,e2⟩:q=q0/\s=s0:=by cases hz;exact⟨rfl,rfl⟩
    subst e1 e2;refine⟨_,rfl,p,C,dy,_,_,rfl,hp4,T.cl,T.nT,wc _ _,_,rfl,_,rfl,(by show 2≤sizeLine;decide),λ x nx=>?_⟩;have sx:=ak (o:=.tup [vN (BP.num (((bt R).drop t).take s)),vN s]) nx;refine⟨d,_,rfl,?_,k _ (hR4.same sx) λ c o z hn=>sx _ _ (oth4 c o z hn)⟩;have:=DGet.t (sx _ _ hk4) (show upd H4 x (.tup [vN (BP.num (((bt R).drop t).take s)),vN s]) x=some (.tup ((kk (BP.num (((bt R).drop t).take s)) s).map kV)) from upd_same);rw [tw1 q hq] at this;exact this
   ·have c3:∀q,¬c7 L (((bt R).drop t).take s) q:=λ q hq=>c2 ⟨q,hq⟩
    rw [tw2 c3];refine pz ?_;have hn:Due L ((bt R).drop t) .bad:=⟨s,by rw [hrl];lia,hbg,c1,c3⟩;cases hD.uniq hn
end
end K19.C
set_option maxHeartbeats 1000000
namespace K19
open PySem L2 QQ W17 W16 BP
def th:Pc->Nat
 | .sg s=>s
 | .cp _ z=>253+z
def cP (L:List Nat):Pc->List (Nat×Nat)
 | .sg s=>[(C9.cdAt L s (L.getD s 0),L.getD s 0)]
 | .cp b z=>[(C9.cdAt L (253+z) (L.getD (253+z) 0),L.getD (253+z) 0),(b,8)]
def hP (L:List Nat)(P:List Pc):List (Nat×Nat):=P.flatMap (cP L)
def cn (Q:List Nat):List Nat:=(List.range 272).map λ q=>Q.count q
theorem cV (L:List Nat)(P Q:List Pc):hP L (P++Q)=hP L P++hP L Q:=by simp [hP]
theorem nZ (L:List Nat)(x:Pc)(P:List Pc):hP L (x::P)=cP L x++hP L P:=by simp [hP]
theorem jz (L:List Nat)(x:Pc):hP L [x]=cP L x:=by simp [hP]
theorem bO (Q:List Nat):(cn Q).length=272:=by simp [cn]
theorem GR.all:∀{P:List Pc} {B:List Nat},GR B P->∀x∈P,∃B',dg B' x
 |y::P,B,h,x,hx=>by
  rcases List.mem_cons.mp hx with rfl|hx
  ·exact⟨B,h.1⟩
  ·exact GR.all h.2 x hx
theorem iO {B:List Nat}{x:Pc}(h:dg B x):th x<272:=by
 cases x with
 |sg s=>have:s<256:=h;show s<272;lia
 |cp b z=>
  obtain⟨_,_,_,_,h5⟩:1≤b/\b≤255/\b≤B.length/\3≤z/\z≤18:=h;show 253+z<272;lia
structure TOk (L:List Nat)(Pp:List Pc):Prop where
 good:C9.Good L
 len:L.length=272
 six:∀b∈L,b≤6
 has:∀x∈Pp,1≤L.getD (th x) 0
theorem TOk.at {L:List Nat}{Pp:List Pc}(h:TOk L Pp){x:Pc}(hx:x∈Pp){B:List Nat}(g:dg B x):L[th x]?=some (L.getD (th x) 0)/\1≤L.getD (th x) 0/\L.getD (th x) 0≤6:=by
 have hl:th x<L.length:=by rw [h.len];exact iO g
 have e:L[th x]?=some (L.getD (th x) 0):=by rw [List.getD_eq_getElem?_getD,List.getElem?_eq_getElem hl];rfl
 exact⟨e,h.has x hx,h.six _ (List.mem_of_getElem? e)⟩
theorem mF {L:List Nat}{W:List Nat}{Pp:List Pc}(h:TOk L Pp)(g:GR W Pp):Good (hP L Pp):=λ q hq=>by
 obtain⟨x,hx,hq⟩:=List.mem_flatMap.mp hq;obtain⟨B',gx⟩:=g.all x hx;obtain⟨e1,e2,e3⟩:=h.at hx gx;have cl:=C10.cd_lt h.good e1 e2;cases x with
 |sg s=>
  rw [List.mem_singleton.mp (show q∈ [(C9.cdAt L s (L.getD s 0),L.getD s 0)] from hq)];exact cl
 |cp b z=>
  rcases List.mem_cons.mp (show q∈ [(C9.cdAt L (253+z) (L.getD (253+z) 0),L.getD (253+z) 0),(b,8)] from hq) with rfl|hq
  ·exact cl
  ·rw [List.mem_singleton.mp hq];obtain⟨_,h2,_,_,_⟩:1≤b/\b≤255/\b≤B'.length/\3≤z/\z≤18:=gx;show b<2^8;lia
theorem nU {L:List Nat}{Pp:List Pc}(h:TOk L Pp):∀q∈hP L Pp,q.2≤24:=λ q hq=>by
 obtain⟨x,hx,hq⟩:=List.mem_flatMap.mp hq;have six:∀n,L.getD n 0≤6:=λ n=>by
  rw [List.getD_eq_getElem?_getD];cases e:L[n]? with
  |none=>exact Nat.zero_le _
  |some y=>exact h.six y (List.mem_of_getElem? e)
 cases x with
 |sg s=>
  rw [List.mem_singleton.mp (show q∈ [(C9.cdAt L s (L.getD s 0),L.getD s 0)] from hq)];have:=six s;show L.getD s 0≤24;lia
 |cp b z=>
  rcases List.mem_cons.mp (show q∈ [(C9.cdAt L (253+z) (L.getD (253+z) 0),L.getD (253+z) 0),(b,8)] from hq) with rfl|hq
  ·have:=six (253+z);show L.getD (253+z) 0≤24;lia
  ·rw [List.mem_singleton.mp hq];show 8≤24;decide
theorem sk {L:List Nat}(six:∀b∈L,b≤6)(x:Pc):tots (cP L x)≤14:=by
 have six:∀n,L.getD n 0≤6:=λ n=>by
  rw [List.getD_eq_getElem?_getD];cases e:L[n]? with
  |none=>exact Nat.zero_le _
  |some y=>exact six y (List.mem_of_getElem? e)
 cases x with
 |sg s=>have:=six s;show L.getD s 0+0≤14;lia
 |cp b z=>have:=six (253+z);show L.getD (253+z) 0+(8+0)≤14;lia
theorem dB {L:List Nat}(six:∀b∈L,b≤6):∀P:List Pc,tots (hP L P)≤14*P.length
 | []=>Nat.le_refl _
 |x::P=>by
  rw [nZ,aC,List.length_cons];have:=dB six P;have:=sk six x;lia
theorem pH (L:List Nat):∀P:List Pc,(hP L P).length≤2*P.length
 | []=>Nat.le_refl _
 |x::P=>by
  rw [nZ,List.length_append,List.length_cons];have:=pH L P;have:(cP L x).length≤2:=by cases x<;>simp [cP]
  lia
theorem dE:∀{It:List W13.Itm} (a:Nat),(∀x∈It,W13.StOk x)->tots (W13.puts It)≤3*(W13.decL a It).length
 | [],_,_=>Nat.le_refl _
 |x::It,a,h=>by
  have hx:=h x (by simp);have e:W13.puts (x::It)=x.puts++W13.puts It:=by simp [W13.puts]
  rw [e,aC];cases x with
  |one y=>
   have ih:=dE (It:=It) y λ z hz=>h z (by simp [hz])
   show(3+0)+tots (W13.puts It)≤3*((W13.decL y It).length+1);lia
  |rep r=>
   have ih:=dE (It:=It) a λ z hz=>h z (by simp [hz])
   have hr:3≤r/\r≤66:=hx;show(3+(6+0))+tots (W13.puts It)≤3*(List.replicate r a++W13.decL a It).length;rw [List.length_append,List.length_replicate];lia
theorem jh {L:List Nat}(hl:L.length=272){It:List W13.Itm}{b:Nat}(h:W13.Walk L 0 0 It 272 b):W13.decL 0 It=L:=by
 have:=W13.walk_dec h;rw [List.take_zero,List.nil_append,<-hl,List.take_length] at this;exact this.symm
theorem mM {L:List Nat}:∀{P P':List W13.Itm} {p a b b':Nat},W13.Walk L p a P L.length b->W13.Walk L p a P' L.length b'->P=P'
 | [],[],_,_,_,_,_,_=>rfl
 | [],x::P',p,a,b,b',h,h'=>by have:=h.1;have:=h'.1;lia
 |x::P,[],p,a,b,b',h,h'=>by have:=h'.1;have:=h.1;lia
 |x::P,x'::P',p,a,b,b',h,h'=>by
  obtain⟨_,e,h⟩:=h;obtain⟨_,e',h'⟩:=h';subst e;subst e';rw [mM h h']
theorem ft (a:Nat)(Q:List Nat):∀n,((List.range n).map λ q=>(a::Q).count q).sum=((List.range n).map λ q=>Q.count q).sum+if a<n then 1 else 0
 |0=>rfl
 |n+1=>by
  rw [List.range_succ,List.map_append,List.sum_append,List.map_append,List.sum_append,ft a Q n];simp only [List.map_cons,List.map_nil,List.sum_cons,List.sum_nil,List.count_cons];by_cases e:a=n
  ·subst e;rw [if_neg (Nat.lt_irrefl _),if_pos (Nat.lt_succ_self _)];simp;lia
  ·have:(a==n)=false:=by simp [e]
   rw [this];by_cases l:a<n
   ·have l2:a<n+1:=Nat.lt_succ_of_lt l;rw [if_pos l,if_pos l2];simp;lia
   ·have l2:¬a<n+1:=λ z=>e (Nat.le_antisymm (Nat.le_of_lt_succ z) (Nat.not_lt.mp l))
    rw [if_neg l,if_neg l2];simp
theorem we (Q:List Nat){q:Nat}(h:q<272):Q.count q∈cn Q:=by
 unfold cn;exact List.mem_map.mpr ⟨q,List.mem_range.mpr h,rfl⟩
theorem ow {Q:List Nat}{b:Nat}(h:b∈cn Q):∃q,b=Q.count q:=by
 unfold cn at h;obtain⟨q,_,e⟩:=List.mem_map.mp h;exact⟨q,e.symm⟩
theorem rQ:∀Q:List Nat,(cn Q).sum≤Q.length
 | []=>by
  have:∀n,((List.range n).map λ q=>([]:List Nat).count q).sum=0:=λ n=>by
   induction n with
   |zero=>rfl
   |succ n ih=>rw [List.range_succ,List.map_append,List.sum_append,ih];rfl
  show((List.range 272).map λ q=>([]:List Nat).count q).sum≤0;rw [this];exact Nat.le_refl _
 |a::Q=>by
  have ih:=rQ Q;have e:=ft a Q 272;have ih':((List.range 272).map λ q=>Q.count q).sum≤Q.length:=ih;show((List.range 272).map λ q=>(a::Q).count q).sum≤Q.length+1;rw [e]
  split<;>lia
theorem dn:∀C:List Nat,(C.filter (λ b=>decide (0<b))).length≤C.sum
 | []=>Nat.le_refl _
 |a::C=>by
  have ih:=dn C;rw [List.filter_cons,List.sum_cons];by_cases h:0<a
  ·rw [if_pos (decide_eq_true h),List.length_cons];lia
  ·rw [if_neg (by simpa using h)];lia
theorem qX (C:List Nat):C.filter (λ b=>decide (0<b))=(S.pos C).map (S.cw C):=by
 have e:C=(List.range C.length).map (S.cw C):=by
  apply List.ext_getElem?;intro i;rw [List.getElem?_map];by_cases h:i<C.length
  ·rw [List.getElem?_range h,List.getElem?_eq_getElem h];simp [S.cw,List.getD_eq_getElem?_getD,h]
  ·rw [List.getElem?_eq_none (by lia),List.getElem?_eq_none (by simp;lia)];rfl
 conv=>lhs;rw [e]
 rw [List.filter_map];rfl
theorem qx (Q:List Nat){q:Nat}(h:q<272):S.cw (cn Q) q=Q.count q:=by
 simp [S.cw,cn,List.getD_eq_getElem?_getD,h]
seal cn
theorem uR {Q:List Nat}(hq:∀q∈Q,q<272)(h1:1≤Q.length)(h64:Q.length≤64):(∀b∈cn Q,b≤1000000)/\1≤(cn Q).length/\(cn Q).length≤300/\(∃b∈cn Q,0<b)/\1≤6/\6≤12/\((cn Q).filter (λ b=>decide (0<b))).length≤2^6/\(S.pos (cn Q)).length≤300/\1≤(S.pos (cn Q)).length/\(S.pos (cn Q)).length≤2^6:=by
 have hf:=dn (cn Q);have hs:=rQ Q;have hp:(S.pos (cn Q)).length=((cn Q).filter (λ b=>decide (0<b))).length:=by rw [qX,List.length_map]
 have h0:∃b∈cn Q,0<b:=by
  obtain⟨a,ha⟩:=List.exists_mem_of_length_pos h1;exact⟨_,we Q (hq a ha),List.count_pos_iff.mpr ha⟩
 refine⟨λ b hb=>?_,by rw [bO];decide,by rw [bO];decide,h0,by decide,by decide,by lia,by lia,?_,by lia⟩
 ·obtain⟨q,rfl⟩:=ow hb;have:=List.count_le_length (a:=q) (l:=Q);lia
 ·rw [hp];obtain⟨b,hb,hb0⟩:=h0;exact List.length_pos_iff.mpr (List.ne_nil_of_mem (List.mem_filter.mpr ⟨hb,decide_eq_true hb0⟩))
def ShL (Q:List Nat)(L:List Nat):Prop:=∃ln:Nat->Nat,S.LnOf (cn Q) 6 ln/\L=(List.range 272).map ln/\PM.Best (S.pos (cn Q)) (S.cw (cn Q)) 6 ln
theorem ShL.uniq {Q L L':List Nat}(h:ShL Q L)(h':ShL Q L'):L=L':=by
 obtain⟨ln,h1,rfl,_⟩:=h;obtain⟨ln',h2,rfl,_⟩:=h';rw [h1.uniq h2]
theorem mem_pos {Q:List Nat}{q:Nat}:q∈S.pos (cn Q)<->q<272/\q∈Q:=by
 unfold S.pos;rw [List.mem_filter,List.mem_range,bO];constructor
 ·rintro⟨h1,h2⟩;rw [qx Q h1] at h2;exact⟨h1,List.count_pos_iff.mp (of_decide_eq_true h2)⟩
 ·rintro⟨h1,h2⟩;refine⟨h1,decide_eq_true ?_⟩;rw [qx Q h1];exact List.count_pos_iff.mpr h2
theorem ShL.ok {Q L:List Nat}(hq:∀q∈Q,q<272)(h1:1≤Q.length)(h:ShL Q L):C9.Good L/\L.length=272/\(∀b∈L,b≤6)/\∀q∈Q,1≤L.getD q 0:=by
 obtain⟨ln,_,rfl,b1,b2,b3,_⟩:=h;have get:∀q,q<272->((List.range 272).map ln).getD q 0=ln q:=λ q hq=>by simp [List.getD_eq_getElem?_getD,hq]
 have le6:∀q,ln q≤6:=λ q=>by
  by_cases m:q∈S.pos (cn Q)
  ·exact(b1 q m).2
  ·rw [b2 q m];decide
 have six:∀b∈(List.range 272).map ln,b≤6:=λ b hb=>by
  obtain⟨q,_,rfl⟩:=List.mem_map.mp hb;exact le6 q
 have hpos:∀q∈Q,1≤ln q:=λ q m=>(b1 q (mem_pos.mpr ⟨hq q m,m⟩)).1
 have ek:C9.krf 6 ((List.range 272).map ln)=((S.pos (cn Q)).map λ p=>2^(6-ln p)).sum:=by
  unfold C9.krf S.pos;rw [List.filter_map,List.map_map,bO];have:(List.range 272).filter ((λ l=>decide (0<l))∘ln)=(List.range 272).filter (λ p=>decide (0<S.cw (cn Q) p)):=by
   refine List.filter_congr λ q hq'=>?_
   have hq2:=List.mem_range.mp hq';show decide (0<ln q)=decide (0<S.cw (cn Q) q);rw [qx Q hq2];by_cases m:q∈Q
   ·rw [decide_eq_true (show 0<ln q from hpos q m),decide_eq_true (List.count_pos_iff.mpr m)]
   ·have z:=b2 q (λ z=>m (mem_pos.mp z).2);rw [z,List.count_eq_zero.mpr m]
  rw [this];rfl
 refine⟨⟨by simp,by simp,λ l hl=>Nat.le_trans (six l hl) (by decide),?_,?_⟩,by simp,six,λ q m=>by rw [get q (hq q m)];exact hpos q m⟩
 ·obtain⟨a,ha⟩:=List.exists_mem_of_length_pos h1;exact⟨ln a,List.mem_map.mpr ⟨a,List.mem_range.mpr (hq a ha),rfl⟩,hpos a ha⟩
 ·rw [C9.krf_up (m:=6) (by decide) _ six,ek];have:2^(12-6)*((S.pos (cn Q)).map λ p=>2^(6-ln p)).sum≤2^(12-6)*2^6:=Nat.mul_le_mul_left _ b3;exact this
theorem ShL.tok {W:List Nat}{Pp:List Pc}{L:List Nat}(g:GR W Pp)(h1:1≤Pp.length)(h:ShL (Pp.map th) L):TOk L Pp:=by
 have hq:∀q∈Pp.map th,q<272:=λ q hq=>by
  obtain⟨x,hx,rfl⟩:=List.mem_map.mp hq;obtain⟨_,gx⟩:=g.all x hx;exact iO gx
 obtain⟨a,b,c,d⟩:=h.ok hq (by rw [List.length_map];exact h1);exact⟨a,b,c,λ x hx=>d _ (List.mem_map.mpr ⟨x,hx,rfl⟩)⟩
theorem rV (bs:List Bool):dig (num bs) bs.length=bs:=C10.num_inj (dig_length _ _) (by rw [jl,Nat.mod_eq_of_lt (num_lt bs)])
theorem tT {R:List Nat}{ps:List (Nat×Nat)}(h:RdOf R ps):C.bt R=bitsP ps:=by
 unfold C.bt;rw [h.num,h.len,<-cU h.good,<-ay ps];exact rV _
theorem vk {L:List Nat}(g:C9.Good L){R:List Nat}{ps a c:List (Nat×Nat)}{q s:Nat}(h:RdOf R ps)(e:ps=a++(C9.cdAt L q s,s)::c)(hq:L[q]?=some s)(hs:1≤s):C10.Due L ((C.bt R).drop (tots a)) (.thing q s):=by
 have eb:(C.bt R).drop (tots a)=dig (C9.cdAt L q s) s++bitsP c:=by
  rw [tT h,e,bU,c4,<-ay a,List.drop_left]
 rw [eb];have hl:(dig (C9.cdAt L q s) s).length=s:=dig_length _ _;have hn:num (dig (C9.cdAt L q s) s)=C9.cdAt L q s:=C10.wd_num g hq hs;refine⟨by rw [List.length_append,hl];lia,?_,λ j hj=>?_⟩
 ·have et:(dig (C9.cdAt L q s) s++bitsP c).take s=dig (C9.cdAt L q s) s:=by
   conv=>lhs;rw [<-hl]
   rw [hl,List.take_append_of_le_length (by lia),List.take_of_length_le (by lia)]
  rw [et];exact⟨by rw [hl];exact hq,by rw [hl];exact hs,by rw [hl,hn]⟩
 ·have et:(dig (C9.cdAt L q s) s++bitsP c).take j=(dig (C9.cdAt L q s) s).take j:=List.take_append_of_le_length (by lia);rw [et];have elj:((dig (C9.cdAt L q s) s).take j).length=j:=by rw [List.length_take];lia
  refine⟨q,s,hq,by lia,?_⟩;rw [elj,C10.num_take _ (by lia),hl,hn]
theorem sS {R:List Nat}{pre post:List (Nat×Nat)}{It:List W13.Itm}(h:RdOf R (pre++W13.puts It++post))(ok:∀x∈It,W13.StOk x):Tb.Told pre post It R:=by
 refine⟨⟨?_,?_,?_⟩,λ q hq=>h.good q (by simp [hq]),ok⟩
 all_goals have hl:=h.len
 all_goals first|exact h.byt|lia|(rw [h.num,hl,Nat.sub_self,Nat.pow_zero,Nat.mul_one])|skip
end K19
set_option maxHeartbeats 1000000
namespace K19
open PySem L2 QQ W17 W16 BP
seal PE PA PS PSs PT PW PG PI
theorem iA {X:Cx}{x:Str}{c:Int}{pos:Pos}(h:∃t,X.mg x=some (.int c t))(hg:Gl X x)(hd:(x==("__debug__":Str))=false:=by decide):PE X (.Name x pos) (tC (.int c)):=by
 obtain⟨t,h⟩:=h;exact aK hg h ⟨t,rfl⟩ hd
structure Shs (K:PySem.W.Frag)(mg:Str->Option Value):Prop where
 X:Txt K mg
 whole:∃f fd,Fn K mg "is_whole" bK ["thing","least","most"] f fd
 arewhole:∃f fd,Fn K mg "are_whole" bA ["thing","least","most"] f fd
 things:∃f fd,Fn K mg "are_of_things" c9 ["thing","most"] f fd
 need:∃f fd,Fn K mg "need_shares" kC ["counts","most"] f fd
 weight:∃f fd,Fn K mg "weight_of" dz ["bundle"] f fd
 pairs:∃f fd,Fn K mg "in_pairs" fj ["bundles"] f fd
 light:∃f fd,Fn K mg "lightest_bundles" gw ["singles","most"] f fd
 lengths:∃f fd,S.FnL K mg "lengths_of" sLengths ["counts","most"] f fd
section
variable {P : Program} {w : World} {K : PySem.W.Frag} {mg : Str -> Option Value} {base : Heap}
def fm:Sp:=λ vs H Q _=>∃(t:Addr) (x:Pc),vs=[.ref t]/\H t=some (.tup (itm x))/\Q (vN (th x)) H
abbrev rH:List Str:=["piece"]
theorem oH:FnScope rH ["piece"] (defScope e7):=⟨rfl,rfl,rfl,by decide+kernel,rfl,by decide+kernel,by decide+kernel⟩
theorem mf {f:Addr}{fd:FuncData}(F:Fn K mg "thing_of" e7 ["piece"] f fd)(T:Txt K mg):FnOk P w K mg base CX0 1 f fd ["piece"] fm:=by
 refine F.F.ok oH (λ vs H Q E h=>?_) (λ cdv A outer s H vs Q E hr h=>?_)
 ·obtain⟨t,x,rfl,_⟩:=h;rfl
 ·obtain⟨t,x,rfl,ht,k⟩:=h;refine⟨_,ac (aM (ar bh (aL a9 (pv 0) ae (λ _ _=>rfl)) bY (ax _)) (ag (az (aL a9 (pv 0) ae (λ _ _=>rfl)))) aB)
   (ag (az (ai aY (ai aA (iA T.first (by rfl)) (aL a9 (pv 0) ae (λ _ _=>rfl))) (iA T.least (by rfl))))),?_⟩
  cases x with
  |sg s=>
   refine⟨_,rfl,t,_,_,_,rfl,rfl,SqT.of ht,aw (j:=0) rfl,rfl,_,rfl,aJ (λ _=>?_) (λ h=>absurd (decide_eq_true rfl) h)⟩;exact⟨_,rfl,t,_,_,_,rfl,rfl,SqT.of ht,aw (j:=1) rfl,k⟩
  |cp b z=>
   refine⟨_,rfl,t,_,_,_,rfl,rfl,SqT.of ht,aw (j:=0) rfl,rfl,_,rfl,aJ (λ h=>absurd (of_decide_eq_true h) oj) (λ _=>?_)⟩;refine⟨_,rfl,t,_,_,_,rfl,rfl,SqT.of ht,aw (j:=2) rfl,_,_,rfl,rfl,_,_,rfl,rfl,?_⟩;have e:(256:Int)+((z:Nat):Int)-3=((253+z:Nat):Int):=by lia
   try dsimp only
   rw [e];exact k
def rB:Sp:=λ vs H Q _=>∃(a:Addr) (Qs:List Nat),vs=[.ref a]/\H a=some (.lst (Qs.map vN))/\(∀q∈Qs,q<272)/\1≤Qs.length/\Qs.length≤64/\
 ∀(l:Addr) (L:List Nat) (H':Hp),H l=none->Same H H'->H' l=some (.lst (L.map vN))->ShL Qs L->Q (.ref l) H'
abbrev oQ:List Str:=["things","counts","thing"]
theorem scSharesOf:FnScope oQ ["things"] (defScope dD):=⟨rfl,rfl,rfl,by decide+kernel,rfl,by decide+kernel,by decide+kernel⟩
theorem p8 {Qs:List Nat}{i q:Nat}(h:Qs[i]?=some q)(hq:q<272):((cn (Qs.take i)).map vN).set q (vN ((Qs.take i).count q+1))=(cn (Qs.take (i+1))).map vN:=by
 have e1:∀A:List Nat,(cn A).map vN=(List.range 272).map λ p=>vN (A.count p):=λ A=>by unfold cn;rw [List.map_map];rfl
 rw [e1,e1];refine S.set_range (f:=λ p=>(Qs.take i).count p) (f':=λ p=>(Qs.take (i+1)).count p) λ p=>?_
 show(Qs.take (i+1)).count p=(Qs.take i).count p+ [q].count p;rw [cY h,List.count_append]
theorem rc:(List.replicate 272 [vN 0]).flatten=(cn []).map vN:=by
 have e1:(cn []).map vN=(List.range 272).map λ _=>vN 0:=by unfold cn;rw [List.map_map];rfl
 rw [e1,List.map_const',List.length_range];generalize 272=n
 induction n with
 |zero=>rfl
 |succ n ih=>rw [List.replicate_succ,List.flatten_cons,ih,List.replicate_succ];rfl
theorem jK {f:Addr}{fd:FuncData}(F:Fn K mg "shares_of" dD ["things"] f fd)(Y:Shs K mg):FnOk P w K mg base CX0 34 f fd ["things"] rB:=by
 obtain⟨T,⟨_,_,Wh⟩,⟨_,_,AW⟩,⟨_,_,Th⟩,⟨_,_,Ne⟩,⟨_,_,We⟩,⟨_,_,Pa⟩,⟨_,_,Li⟩,⟨_,_,Le⟩⟩:=Y;have GL:=S.ok_lengths (P:=P) (w:=w) (base:=base) Le Ne Th AW Wh Li Pa We T;obtain⟨t6,B6⟩:=Le.d;refine F.F.ok scSharesOf (λ vs H Q E h=>?_) (λ cdv A outer st H vs Q E hr h=>?_)
 ·obtain⟨a,Qs,rfl,_⟩:=h;rfl
 ·obtain⟨a,Qs,rfl,ha,hq,h1,h64,k⟩:=h;refine⟨_,ac (aj (i:=1) scSharesOf.nd rfl (Or.inl rfl) (ai fE (aV (aa ae ad)) (iA T.many (by rfl))))
   (ac (aS PassesOwn.never rfl (bf (pv 0)) (aF (i:=2) scSharesOf.nd rfl (Or.inl rfl)) (ag (dX (ai aA (aL aN (pv 1) (pv 2) (λ _ _=>rfl)) ae) (fw (pv 1) (pv 2) cW))))
   (ag (az (am GL hr (by rfl) Le.m Le.kp B6 (.cons (a:=V.int 6) ⟨_,rfl⟩ .nil) ap (aa (pv 1) ad))))),?_⟩
  refine seq_g λ R1 g1=>?_
  refine⟨(by show 1≤sizeLine;decide),λ l4 n4=>?_⟩;have s4:=ak (o:=.lst [V.int 0]) n4;have h44:(upd H l4 (.lst [V.int 0])) l4=some (.lst [vN 0]):=upd_same;generalize upd H l4 (.lst [V.int 0])=H4 at*;refine⟨l4,_,_,rfl,rfl,h44,by decide,by decide,(by show 1*272≤sizeLine;decide),λ l5 n5=>g1 _ _ ?_⟩;clear g1;have s5:=ak (o:=.lst ((List.replicate 272 [vN 0]).flatten)) n5;have h55:(upd H4 l5 (.lst ((List.replicate (272:Int).toNat [vN 0]).flatten))) l5=some (.lst ((cn (Qs.take 0)).map vN)):=by
   rw [upd_same];exact congrArg (λ z=>some (HO.lst z)) rc
  have n05:H l5=none:=none_of s4 n5;have s05:Same H (upd H4 l5 (.lst ((List.replicate (272:Int).toNat [vN 0]).flatten))):=s4.trans s5;generalize upd H4 l5 (.lst ((List.replicate (272:Int).toNat [vN 0]).flatten))=H5 at*;clear s5 s4 h44;have hal:a≠l5:=af ha n05;refine seq_g λ R1 g1=>?_
  refine⟨_,rfl,a,rfl,⟨_,SqL.of (s05 _ _ ha)⟩,bE (D:=⟨_,_,λ _ _=>False,λ _ _=>False⟩) (K:=K) (a:=a) (xs:=Qs.map vN) (λ i σ H7=>∃v:Option V,σ=[some (.ref a),some (.ref l5),v]/\H7 l5=some (.lst ((cn (Qs.take i)).map vN))/\∀c o,c≠l5->H5 c=some o->H7 c=some o)
   ⟨none,rfl,h55,λ _ _ _ e=>e⟩ (λ i σ H7 _ ⟨_,_,_,kp⟩=>SqL.of (kp _ _ hal (s05 _ _ ha))) ?_ ?_⟩
  ·clear g1;rintro i y σ H7 hi ⟨v,rfl,h7,kp⟩;obtain⟨q,hqi,rfl⟩:=cm hi;have hqn:=hq q (List.mem_of_getElem? hqi);have hg:((cn (Qs.take i)).map vN)[q]?=some (vN ((Qs.take i).count q)):=by
    unfold cn;rw [List.getElem?_map,List.getElem?_map,List.getElem?_range hqn];rfl
   have e2:(((Qs.take i).count q:Nat):Int)+1=(((Qs.take i).count q+1:Nat):Int):=by lia
   refine⟨_,rfl,_,rfl,l5,_,_,_,rfl,rfl,SqL.of h7,aw hg,_,_,rfl,rfl,?_⟩
   try dsimp only
   rw [e2];refine⟨_,rfl,_,rfl,l5,_,_,q,rfl,rfl,h7,S.ixN_nat (by rw [List.length_map,bO];exact hqn),some (vN q),rfl,?_,λ c o n e=>?_⟩
   ·rw [upd_same,p8 hqi hqn]
   ·rw [upd_ne n];exact kp _ _ n e
  ·rintro σ H7 ⟨v,rfl,h7,kp⟩;rw [List.length_map,List.take_length] at h7;refine g1 _ _ ?_;clear g1;have s07:Same H H7:=λ c o e=>kp _ _ (af e n05) (s05 _ _ e)
   obtain⟨q1,q2,q3,q4,q5,q6,q7,q8,q9,q10⟩:=uR hq h1 h64;refine⟨_,rfl,l5,cn Qs,6,rfl,h7,q1,q2,q3,q4,q5,q6,q7,q8,q9,q10,λ l ln H8 nl s8 hl hb hln=>?_⟩;refine k l ((List.range 272).map ln) H8 (none_of s07 nl) (s07.trans s8) ?_ ⟨ln,hln,rfl,hb⟩;rw [hl,bO,List.map_map];rfl
structure Cds (K:PySem.W.Frag)(mg:Str->Option Value)(D C:Addr):Prop where
 M:K19.C.Mks K mg C
 Z:Rdr K mg D
 go:∃f fd,Me K D "go" "BitReader.go" sGo ["self","place"] f fd
 m:mg "CodeReader"=some (.ref C)
 init:∃f fd,Fun K "__init__" "CodeReader.__init__" i9 f fd/\Binds K fd ["self","lengths"] []/\Mk K C f
 thing:∃f fd,Me K C "thing" "CodeReader.thing" i6 ["self","reader"] f fd
 items:∃f fd,Fn K mg "lengths_in_items" gN ["reader"] f fd
 taketab:∃f fd,Fn K mg "take_table" db ["reader"] f fd
theorem Cds.rds {D C:Addr}(h:Cds K mg D C):K19.C.Rds K mg D:=⟨h.Z.R.X,h.Z.R.whole,h.Z.needsize,h.Z.ones,h.Z.bitsat,h.Z.take,h.Z.left,h.Z.place,h.go,h.Z.T⟩
end
section
variable {P : Program} {w : World} {K : PySem.W.Frag} {mg : Str -> Option Value} {base : Heap} {B D C : Addr}
def pD (D C:Addr):Sp:=λ vs H Q _=>∃(r d:Addr) (R:List Nat) (pre post:List (Nat×Nat)) (It:List W13.Itm),vs=[.ref r]/\ReadAt D H r d R (tots pre)/\Tb.Told pre post It R/\(W13.decL 0 It).length=272/\C9.Good (W13.decL 0 It)/\
 ∀(p e1 e2:Addr) (H':Hp),K19.C.CdAt C H' p e1 e2 (W13.decL 0 It)->ReadAt D H' r d R (tots pre+tots (W13.puts It))->(∀c o,H c=some o->c≠r->H' c=some o)->Q (.ref p) H'
abbrev rN:List Str:=["reader"]
theorem pF:FnScope rN ["reader"] (defScope eG):=⟨rfl,rfl,rfl,by decide+kernel,rfl,by decide+kernel,by decide+kernel⟩
theorem mv {f:Addr}{fd:FuncData}(F:Fn K mg "codes_in" eG ["reader"] f fd)(Y:Cds K mg D C):FnOk P w K mg base CX0 36 f fd ["reader"] (pD D C):=by
 obtain⟨_,_,It⟩:=Y.items;obtain⟨_,_,Tt⟩:=Y.taketab;obtain⟨_,_,FI,bI,MI⟩:=Y.init;have GT:=Tb.ok_taketable (P:=P) (w:=w) (base:=base) Tt It Y.Z;have GI:=K19.C.ok_cinit (P:=P) (w:=w) (base:=base) FI Y.M;refine F.F.ok pF (λ vs H Q E h=>?_) (λ cdv A outer st H vs Q E hr h=>?_)
 ·obtain⟨r,d,R,pre,post,It,rfl,_⟩:=h;rfl
 ·obtain⟨r,d,R,pre,post,It,rfl,hR,hT,h272,hG,k⟩:=h;have hr5:Room 5 _:=hr.mono (by decide);refine⟨_,ag (ji (ag (az (nQ MI GI hr (by rfl) Y.m bI .nil ap (aa (am GT hr5 (by rfl) Tt.m Tt.F.kp Tt.b .nil ap (aa (pv 0) ad)) ad))))),?_⟩;refine⟨_,rfl,r,d,R,pre,post,It,rfl,hR,hT,h272,λ l H2 nl h2l hR2 kp2=>?_⟩;intro p dp np ndp nep;have hp0:(upd (upd H2 dp (.own p)) p (.ins C dp [])) p=some (.ins C dp []):=upd_same;have s5:Same H2 (upd (upd H2 dp (.own p)) p (.ins C dp [])):=λ c o e=>by
   rw [upd_ne (af e np),upd_ne (af e ndp)];exact e
  refine⟨p,dp,l,_,rfl,hp0,s5 _ _ h2l,hG,λ e1 e2 H5 n1 n2 hC kp5=>⟨rfl,?_⟩⟩;have s25:Same H2 H5:=λ c o e=>kp5 _ _ (s5 _ _ e) (af e np)
  exact k p e1 e2 H5 hC (hR2.same s25) λ c o e n=>s25 _ _ (kp2 _ _ e n)
def oV (D C:Addr):Sp:=λ vs H Q _=>∃(p d e r g:Addr) (L R:List Nat) (t q s:Nat),vs=[.ref r,.ref p]/\K19.C.CdAt C H p d e L/\C9.Good L/\ReadAt D H r g R t/\C10.Due L ((K19.C.bt R).drop t) (.thing q s)/\∀H',ReadAt D H' r g R (t+s)->(∀c o,H c=some o->c≠r->H' c=some o)->Q (vN q) H'
abbrev rf:List Str:=["reader","codes"]
theorem pC:FnScope rf ["reader","codes"] (defScope eJ):=⟨rfl,rfl,rfl,by decide+kernel,rfl,by decide+kernel,by decide+kernel⟩
theorem mq {f:Addr}{fd:FuncData}(F:Fn K mg "thing_in" eJ ["reader","codes"] f fd)(Y:Cds K mg D C):FnOk P w K mg base CX0 32 f fd ["reader","codes"] (oV D C):=by
 obtain⟨_,_,Tn⟩:=Y.thing;have TC:=Y.M.R;have GT:=K19.C.ok_thing (P:=P) (w:=w) (base:=base) Tn.F TC Y.rds;refine F.F.ok pC (λ vs H Q E h=>?_) (λ cdv A outer st H vs Q E hr h=>?_)
 ·obtain⟨p,d,e,r,g,L,R,t,q,s,rfl,_⟩:=h;rfl
 ·obtain⟨p,d,e,r,g,L,R,t,q,s,rfl,hC,hG,hR,hD,k⟩:=h;refine⟨_,ag (ji (ag (az (a6 (pv 1) TC.cl Tn.m GT hr Tn.b .nil ap (aa (pv 0) ad))))),?_⟩;obtain⟨dx,hp⟩:=hC.ob;exact⟨_,rfl,p,dx,_,rfl,hp,K19.C.fC_no _ _ (by decide+kernel) (by decide+kernel),_,rfl,p,d,e,r,g,L,R,t,q,s,rfl,hC,hG,hR,hD,k⟩
structure Shw (K:PySem.W.Frag)(mg:Str->Option Value)(B D C:Addr):Prop where
 Y:Wys K mg
 Zb:Bts K mg B
 Sh:Shs K mg
 Cd:Cds K mg D C
 thingof:∃f fd,Fn K mg "thing_of" e7 ["piece"] f fd
 sharesof:∃f fd,Fn K mg "shares_of" dD ["things"] f fd
 needtab:∃f fd,Fn K mg "need_table" cI ["lengths"] f fd
 again:∃f fd,Fn K mg "again_from" gu ["lengths","place","ahead"] f fd
 puttab:∃f fd,Fn K mg "put_table" dw ["bits","lengths"] f fd
 codesin:∃f fd,Fn K mg "codes_in" eG ["reader"] f fd
 thingin:∃f fd,Fn K mg "thing_in" eJ ["reader","codes"] f fd
def lF (B:Addr):Sp:=λ vs H Q _=>∃(o p d a:Addr) (x:V) (T W:List Nat) (Pp:List Pc) (N T0:Nat),vs=[.ref o,.ref p,.ref a,x]/\BitsAt B H p d N T0/\T0≤1000/\H a=some (.lst (T.map vN))/\(∀b∈T,b<256)/\1≤T.length/\T.length≤64/\WinV H x W/\(∀b∈W,b<256)/\W.length≤192/\Walk (W++T) W.length Pp (W++T).length/\
 ∀(L:List Nat) (It:List W13.Itm) (b:Nat) (H':Hp),ShL (Pp.map th) L->W13.Walk L 0 0 It 272 b->BitsAt B H' p d (nums (W13.puts It++hP L Pp) N) (T0+tots (W13.puts It++hP L Pp))->(∀c o,H c=some o->c≠p->c≠d->H' c=some o)->Q .non H'
abbrev wF:List Str:=["self","bits","text","before","pieces","lengths","codes","piece","pair"]
theorem scTell:FnScope wF ["self","bits","text","before"] (defScope mG):=⟨rfl,rfl,rfl,by decide+kernel,rfl,by decide+kernel,by decide+kernel⟩
theorem xV:(["piece"]:List Str).Nodup:=by decide+kernel
def xo:TE:=rF fm [] E0 (dt (dM 0) i4)
theorem m9 {S:List Nat}{p q:Nat}{Pp:List Pc}(h:Walk S p Pp q)(hpq:p<q):1≤Pp.length:=by
 cases Pp with
 |nil=>have:p=q:=h;lia
 |cons x Pp=>simp
theorem tp {f:Addr}{fd:FuncData}(F:Fun K "tell" "ShareWay.tell" mG f fd)(A0:Shw K mg B D C):FnOk P w K mg base CX0 35 f fd ["self","bits","text","before"] (lF B):=by
 obtain⟨⟨Vi,⟨_,_,Po⟩,⟨_,_,Ac⟩,⟨_,_,Na⟩,⟨_,_,Ns⟩,⟨_,_,Ao⟩,⟨_,_,Nm⟩,⟨_,_,La⟩⟩,Z,Sh,Cd,⟨_,_,To⟩,⟨_,_,So⟩,⟨_,_,Nt⟩,⟨_,_,Ag⟩,⟨_,_,Pt⟩,_,_⟩:=A0;obtain⟨_,_,Nr⟩:=Vi.needrow;obtain⟨_,_,Nw⟩:=Vi.needwin;have X:=Vi.R.X;have GN:=jn (P:=P) (w:=w) (base:=base) Ns Na Nw Nr Vi.R;have GO:=kx (P:=P) (w:=w) (base:=base) Po Vi;have GS:=jK (P:=P) (w:=w) (base:=base) So Sh;have GTh:=mf (P:=P) (w:=w) (base:=base) To X;obtain⟨_,_,Nl⟩:=Cd.M.need;obtain⟨_,_,Co⟩:=Cd.M.cof;have GC:=K19.C.ok_codesof (P:=P) (w:=w) (base:=base) Co Nl Cd.M.Y;have GPt:=Tb.ok_puttable (P:=P) (w:=w) (base:=base) Pt Nt Ag Z;obtain⟨_,_,Wh⟩:=Z.R.whole;obtain⟨_,_,Sz⟩:=Z.needsize;obtain⟨_,_,O⟩:=Z.ones;obtain⟨_,_,Pu⟩:=Z.put;obtain⟨_,_,M⟩:=Z.move;have TB:=Z.T;have GP:=lV (P:=P) (w:=w) (base:=base) Pu.F Sz Wh O M TB X;refine F.ok scTell (λ vs H Q E h=>?_) (λ cdv A outer st H vs Q E hr h=>?_)
 ·obtain⟨o,p,d,a,x,T,W,Pp,N,T0,rfl,_⟩:=h;rfl
 ·obtain⟨o,p,d,a,x,T,W,Pp,N,T0,rfl,hB,hT0,ha,hTb,h1,h64,hx,hWb,hWl,hwk,k⟩:=h;have hr1:Room 1 _:=hr.mono (by decide);have hr3:Room 3 _:=hr.mono (by decide);have hr7:Room 7 _:=hr.mono (by decide);have hr32:Room 32 _:=hr.mono (by decide);have hr33:Room 33 _:=hr.mono (by decide);refine⟨_,ac (aD (am GN hr7 (by rfl) Ns.m Ns.F.kp Ns.b .nil ap (aa (pv 2) (aa (pv 3) ad))))
   (ac (aj (i:=4) scTell.nd rfl (Or.inl rfl) (am GO hr32 (by rfl) Po.m Po.kp Po.b .nil ap (aa (pv 2) (aa (pv 3) ad))))
   (ac (aj (i:=5) scTell.nd rfl (Or.inl rfl) (am GS hr (by rfl) So.m So.F.kp So.b .nil ap (aa (jg (N:=["piece"]) (g:=bZ 0) (te:=xo) rfl rfl (by decide+kernel) (by decide+kernel) (by decide+kernel) (bf (pv 4)) (λ fp s H=>aF (i:=0) xV rfl (Or.inl rfl)) (λ fp s H=>am GTh hr1 (by rfl) To.m To.F.kp To.b .nil ap (aa (pv 0) ad))) ad)))
   (ac (aj (i:=6) scTell.nd rfl (Or.inl rfl) (am GC hr33 (by rfl) Co.m Co.F.kp Co.b .nil ap (aa (pv 5) ad)))
   (ac (aD (am GPt hr32 (by rfl) Pt.m Pt.F.kp Pt.b .nil ap (aa (pv 1) (aa (pv 5) ad))))
   (ag (aS PassesOwn.never rfl (bf (pv 4)) (aF (i:=7) scTell.nd rfl (Or.inl rfl)) (ac (aj (i:=8) scTell.nd rfl (Or.inl rfl) (aL aN (pv 6) (am GTh hr1 (by rfl) To.m To.F.kp To.b .nil ap (aa (pv 7) ad)) (λ _ _=>rfl)))
   (ac (aD (a6 (pv 1) TB.cl Pu.m GP hr3 Pu.b .nil ap (aa (aL a9 (pv 8) ae (λ _ _=>rfl)) (aa (aL a9 (pv 8) ae (λ _ _=>rfl)) ad))))
   (ag (aM (ar bh (aL a9 (pv 7) ae (λ _ _=>rfl)) bY (ax _)) (ag (aD (a6 (pv 1) TB.cl Pu.m GP hr3 Pu.b .nil ap (aa (aL a9 (pv 7) ae (λ _ _=>rfl)) (aa ae ad))))) aB)))))))))),?_⟩
  refine seq_g λ R1 g1=>?_
  refine⟨_,rfl,_,rfl,a,x,T,W,rfl,ha,hTb,h1,h64,hx,hWb,hWl,λ l0 H0 s0 n0 h00=>g1 _ _ ?_⟩;clear g1;refine seq_g λ R1 g1=>?_
  refine⟨_,rfl,_,rfl,a,x,W,T,rfl,s0 _ _ ha,hx.same s0,hWb,hTb,by lia,by lia,λ l P' H1 s01 nl0 ⟨ts,hl,hts⟩ hwk'=>g1 _ _ ?_⟩;clear g1;have eP:P'=Pp:=ik hwk' hwk;subst eP;have s1:=s0.trans s01;have nl:H l=none:=none_of s0 nl0;obtain⟨gr,hrun,hPl⟩:=ip hWb hTb hwk;have hP1:1≤P'.length:=m9 hwk (by rw [List.length_append];lia);clear s0 s01 h00 nl0 hwk';refine seq_g λ R1 g1=>?_
  refine⟨_,rfl,l,rfl,⟨_,SqL.of hl⟩,λ l2 nl2=>?_⟩;refine jx (g:=bZ 0) (te:=xo) (K:=K) (a:=l) (l:=l2) (xs:=ts.map V.ref) (n:=1) (λ i ys H2=>ys=((P'.take i).map th).map vN/\H2 l2=some (.lst ys)/\Same H1 H2)
   ⟨rfl,upd_same,ak nl2⟩ (λ i ys H2 _ ⟨_,_,sm⟩=>SqL.of (sm _ _ hl)) ?_ ?_ ?_ ?_
  ·clear g1;rintro i y ys σ H2 hi ⟨rfl,h22,sm⟩ hσ;obtain⟨t,ht,rfl⟩:=dA hi;obtain⟨u0,rfl⟩:∃u0,σ=[u0]:=match σ,hσ with| [u0],_=>⟨u0,rfl⟩
   have hil:i<P'.length:=by rw [<-hts.1];exact(List.getElem?_eq_some_iff.mp ht).1
   have hPi:P'[i]?=some P'[i]:=List.getElem?_eq_getElem hil;refine⟨_,rfl,t,P'[i],rfl,sm _ _ (hts.2 i t _ ht hPi),h22,aU (by rw [List.length_map,List.length_map,List.length_take];lia),rfl,?_,upd_same,λ c o e=>?_⟩
   ·rw [cY hPi,List.map_append,List.map_append];rfl
   ·rw [upd_ne (af e nl2)];exact sm _ _ e
  rotate_left
  ·exact λ x σ H A B h z=>h _ _ z
  ·rintro σ H A B h ⟨v,e1,t,x,e2,e3,z⟩;exact⟨v,e1,t,x,e2,e3,h _ _ z⟩
  rintro ys H2 ⟨rfl,h22,s12⟩;rw [List.length_map,hts.1,List.take_length] at h22;have hq:∀q∈P'.map th,q<272:=λ q hq=>by
   obtain⟨x,hx,rfl⟩:=List.mem_map.mp hq;obtain⟨_,gx⟩:=gr.all x hx;exact iO gx
  refine⟨l2,P'.map th,rfl,h22,hq,by rw [List.length_map];exact hP1,by rw [List.length_map];lia,λ l3 L H3 nl3 s23 h33 hsh=>g1 _ _ ?_⟩;clear g1;have tok:=hsh.tok gr hP1;have s13:=s12.trans s23;have nl31:H1 l3=none:=none_of s12 nl3;refine seq_g λ R1 g1=>?_
  refine⟨_,rfl,_,L,rfl,⟨l3,rfl,h33,λ b hb=>Nat.le_trans (tok.six b hb) (by decide)⟩,tok.good,λ l4 xs H4 nl4 s34 h44 hcl=>g1 _ _ ?_⟩;clear g1;have s14:=s13.trans s34;have hB4:=hB.keep λ c o e _=>s14 _ _ (s1 _ _ e)
  have h43:=s34 _ _ h33;obtain⟨dxp,rp,kp',hpp⟩:=hB4.ob;obtain⟨dxd,Bd,rd,kd,_,hdd,_⟩:=id hB4;have nl3p:l3≠p:=ne_of h43 hpp (by intro z;cases z);have nl3d:l3≠d:=(fV (hB.sm.2.imp λ _ e=>s1 _ _ e) nl31).symm;have nl4p:l4≠p:=ne_of h44 hpp (by intro z;cases z);have nl4d:l4≠d:=(fV (hB.sm.2.imp λ _ e=>s13 _ _ (s1 _ _ e)) nl4).symm;have nlp:l≠p:=(fV hB.sm.1 nl).symm;have nld:l≠d:=(fV hB.sm.2 nl).symm;refine seq_g λ R1 g1=>?_
  refine⟨_,rfl,_,rfl,p,d,l3,N,T0,L,rfl,hB4,hT0,h43,tok.len,tok.six,nl3d,λ It b H5 hit hB5 kp5=>g1 _ _ ?_⟩;clear g1;have hit2:=jh tok.len hit;have hto:=dE 0 (W13.walk_ok tok.six hit);rw [hit2,tok.len] at hto;have h5l:=kp5 _ _ (s14 _ _ hl) nlp nld;have h54:=kp5 _ _ h44 nl4p nl4d;have htup:∀t ys,H4 t=some (.tup ys)->H5 t=some (.tup ys):=λ t ys e=>kp5 _ _ e (ne_of e hpp (by intro z;cases z)) (ne_of e hdd (by intro z;cases z))
  have hcl5:=hcl.keep htup;have hts5:=(hts.keep λ a xs e=>s14 _ _ e).keep htup;obtain⟨dxp5,rp5,kp5',hpp5⟩:=hB5.ob;obtain⟨dxd5,Bd5,rd5,kd5,_,hdd5,_⟩:=id hB5;refine⟨_,rfl,l,rfl,⟨_,SqL.of h5l⟩,bE (D:=⟨_,_,λ _ _=>False,λ _ _=>False⟩) (K:=K) (a:=l) (xs:=ts.map V.ref) (λ i σ H6=>∃v7 v8:Option V,σ=[some (.ref o),some (.ref p),some (.ref a),some x,some (.ref l),some (.ref l3),some (.ref l4),v7,v8]/\BitsAt B H6 p d (nums (hP L (P'.take i)) (nums (W13.puts It) N)) (T0+tots (W13.puts It)+tots (hP L (P'.take i)))/\∀c o,H5 c=some o->c≠p->c≠d->H6 c=some o)
   ⟨none,none,rfl,hB5,λ c o e _ _=>e⟩ (λ i σ H6 _ ⟨_,_,_,_,kp⟩=>SqL.of (kp _ _ h5l nlp nld)) ?_ ?_⟩
  ·rintro i y σ H6 hi ⟨v7,v8,rfl,hB6,kp⟩;obtain⟨t,ht,rfl⟩:=dA hi;have hil:i<P'.length:=by rw [<-hts.1];exact(List.getElem?_eq_some_iff.mp ht).1
   have hPi:P'[i]?=some P'[i]:=List.getElem?_eq_getElem hil;have htt:=hts5.2 i t _ ht hPi;have hga:=gr.at hPi;have hmem:P'[i]∈P':=List.getElem_mem hil;have ntp:t≠p:=ne_of htt hpp5 (by intro z;cases z);have ntd:t≠d:=ne_of htt hdd5 (by intro z;cases z);have htt6:=kp _ _ htt ntp ntd;have h64':=kp _ _ h54 nl4p nl4d;obtain⟨e1,e2,e3⟩:=tok.at hmem hga;have hco:=C10.codes_of_get tok.good e1 e2;have hlx:th P'[i]<xs.length:=by rw [hcl5.1];exact(List.getElem?_eq_some_iff.mp hco).1
   have hxi:xs[th P'[i]]?=some xs[th P'[i]]:=List.getElem?_eq_getElem hlx;obtain⟨tc,etc,htc⟩:K19.C.OT H5 xs[th P'[i]] (some (C9.cdAt L (th P'[i]) (L.getD (th P'[i]) 0),L.getD (th P'[i]) 0)):=hcl5.2 _ _ _ hxi hco;rw [etc] at hxi;have ntcp:tc≠p:=ne_of htc hpp5 (by intro z;cases z);have ntcd:tc≠d:=ne_of htc hdd5 (by intro z;cases z);have htc6:=kp _ _ htc ntcp ntcd;have hto2:=dB tok.six (P'.take i);rw [List.length_take] at hto2;have hcl2:=C10.cd_lt tok.good e1 e2;obtain⟨dx,r,kk,hp6⟩:=hB6.ob;rw [cY hPi,cV,bp,aC,jz];refine seq_g λ R2 g2=>?_
   refine⟨_,rfl,_,rfl,t,P'[i],rfl,htt6,l4,_,_,_,rfl,rfl,SqL.of h64',aw hxi,g2 _ _ ?_⟩;clear g2;refine seq_g λ R2 g2=>?_
   refine⟨_,rfl,p,dx,_,rfl,hp6,dP _ _ _ (by decide+kernel) (by decide+kernel) (by decide+kernel),_,rfl,tc,_,_,_,rfl,rfl,SqT.of htc6,aw (j:=0) rfl,_,rfl,tc,_,_,_,rfl,rfl,SqT.of htc6,aw (j:=1) rfl,p,d,_,_,_,_,rfl,hB6,by lia,by lia,hcl2,λ H7 hB7 kp7=>g2 _ _ ?_⟩;clear g2;have htt7:=kp7 _ _ htt6 ntp ntd;obtain⟨dx7,r7,kk7,hp7⟩:=hB7.ob;generalize P'[i]=xx at*;cases xx with
   |sg s=>
    refine⟨_,rfl,t,_,_,_,rfl,rfl,SqT.of htt7,aw (j:=0) rfl,rfl,_,rfl,aJ (λ h=>absurd (of_decide_eq_true h) (λ z=>oj z.symm)) (λ _=>?_)⟩;refine⟨_,_,rfl,?_,λ c o e n1 n2=>kp7 _ _ (kp _ _ e n1 n2) n1 n2⟩;have e5:T0+tots (W13.puts It)+(tots (hP L (P'.take i))+tots (cP L (.sg s)))=T0+tots (W13.puts It)+tots (hP L (P'.take i))+L.getD (th (.sg s)) 0:=by
     have:tots (cP L (.sg s))=L.getD (th (.sg s)) 0:=rfl;lia
    rw [e5];exact hB7
   |cp bk z=>
    obtain⟨g1,g2,g3,g4,g5⟩:1≤bk/\bk≤255/\bk≤_/\3≤z/\z≤18:=hga;refine⟨_,rfl,t,_,_,_,rfl,rfl,SqT.of htt7,aw (j:=0) rfl,rfl,_,rfl,aJ (λ _=>?_) (λ h=>absurd (decide_eq_true rfl) h)⟩;refine⟨_,rfl,p,dx7,_,rfl,hp7,dP _ _ _ (by decide+kernel) (by decide+kernel) (by decide+kernel),_,rfl,t,_,_,_,rfl,rfl,SqT.of htt7,aw (j:=1) rfl,p,d,_,_,bk,8,rfl,hB7,by lia,by decide,(by show bk<2^8;lia),λ H8 hB8 kp8=>?_⟩;refine⟨_,_,rfl,?_,λ c o e n1 n2=>kp8 _ _ (kp7 _ _ (kp _ _ e n1 n2) n1 n2) n1 n2⟩;have e5:T0+tots (W13.puts It)+(tots (hP L (P'.take i))+tots (cP L (.cp bk z)))=T0+tots (W13.puts It)+tots (hP L (P'.take i))+L.getD (th (.cp bk z)) 0+8:=by
     have:tots (cP L (.cp bk z))=L.getD (th (.cp bk z)) 0+8:=rfl;lia
    rw [e5];exact hB8
  ·rintro σ H6 ⟨v7,v8,rfl,hB6,kp⟩;rw [List.length_map,hts.1,List.take_length] at hB6;refine k L It b H6 hsh hit ?_ λ c o e n1 n2=>kp _ _ (kp5 _ _ (s14 _ _ (s1 _ _ e)) n1 n2) n1 n2
   rw [bp,aC,<-Nat.add_assoc];exact hB6
def ko:Sp:=λ vs H Q _=>∃o:Addr,vs=[.ref o]/\Q (.int 3) H
abbrev uu:List Str:=["self"]
theorem rq:FnScope uu ["self"] (defScope fK):=⟨rfl,rfl,rfl,by decide+kernel,rfl,by decide+kernel,by decide+kernel⟩
theorem oF {f:Addr}{fd:FuncData}(F:Fun K "number" "ShareWay.number" fK f fd):FnOk P w K mg base CX0 1 f fd ["self"] ko:=by
 refine F.ok rq (λ vs H Q E h=>?_) (λ cdv A outer st H vs Q E hr h=>?_)
 ·obtain⟨o,rfl,_⟩:=h;rfl
 ·obtain⟨o,rfl,k⟩:=h;exact⟨_,ag (az ae),k⟩
def kn (D:Addr):Sp:=λ vs H Q _=>∃(o r d:Addr) (x:V) (R:List Nat) (pre post:List (Nat×Nat)) (W T:List Nat) (Pp:List Pc) (It:List W13.Itm) (L:List Nat),vs=[.ref o,.ref r,vN T.length,x]/\WinV H x W/\ReadAt D H r d R (tots pre)/\RdOf R (pre++(W13.puts It++hP L Pp)++post)/\(∀x∈It,W13.StOk x)/\W13.decL 0 It=L/\TOk L Pp/\GR W Pp/\runP W Pp=W++T/\T.length≤64/\W.length≤192/\
 ∀l H',H l=none->H' l=some (.lst (T.map vN))->ReadAt D H' r d R (tots (pre++(W13.puts It++hP L Pp)))->(∀c o,H c=some o->c≠r->H' c=some o)->Q (.ref l) H'
abbrev tI:List Str:=["self","reader","count","before","signs","begin","end","codes","thing","back"]
theorem scShRead:FnScope tI ["self","reader","count","before"] (defScope gc):=⟨rfl,rfl,rfl,by decide+kernel,rfl,by decide+kernel,by decide+kernel⟩
theorem oI {f:Addr}{fd:FuncData}(F:Fun K "read" "ShareWay.read" gc f fd)(A0:Shw K mg B D C):FnOk P w K mg base CX0 37 f fd ["self","reader","count","before"] (kn D):=by
 have Z:=A0.Cd.Z;have X:=Z.R.X;obtain⟨_,_,Wh⟩:=Z.R.whole;obtain⟨_,_,Sz⟩:=Z.needsize;obtain⟨_,_,O⟩:=Z.ones;obtain⟨_,_,Ba⟩:=Z.bitsat;obtain⟨_,_,Tk⟩:=Z.take;obtain⟨_,_,Lf⟩:=Z.left;obtain⟨_,_,Ac⟩:=A0.Y.addcopy;obtain⟨_,_,Ao⟩:=A0.Y.aheadof;obtain⟨_,_,Nm⟩:=A0.Y.needroom;obtain⟨_,_,La⟩:=A0.Y.laycopy;obtain⟨_,_,Ci⟩:=A0.codesin;obtain⟨_,_,Ti⟩:=A0.thingin;have TR:=Z.T;have GT:=f8 (P:=P) (w:=w) (base:=base) Tk.F Sz Wh Ba O Lf TR X;have GA:=mj (P:=P) (w:=w) (base:=base) Ao X;have GL:=vn (P:=P) (w:=w) (base:=base) La Nm Ac X;have GC:=mv (P:=P) (w:=w) (base:=base) Ci A0.Cd;have GI:=mq (P:=P) (w:=w) (base:=base) Ti A0.Cd;refine F.ok scShRead (λ vs H Q E h=>?_) (λ cdv A outer st H vs Q E hr h=>?_)
 ·obtain⟨o,r,d,x,R,pre,post,W,T,Pp,It,L,rfl,_⟩:=h;rfl
 ·obtain⟨o,r,d,x,R,pre,post,W,T,Pp,It,L,rfl,hx,hR,hrd,hIt,hdec,tok,gr,hrun,h64,hWl,k⟩:=h;have hr3:Room 3 _:=hr.mono (by decide);have hr2:Room 2 _:=hr.mono (by decide);have hr1:Room 1 _:=hr.mono (by decide);have hr32:Room 32 _:=hr.mono (by decide);refine⟨_,ac (aj (i:=4) scShRead.nd rfl (Or.inl rfl) (am GA hr1 (by rfl) Ao.m Ao.F.kp Ao.b .nil ap (aa (pv 3) ad)))
   (ac (aj (i:=5) scShRead.nd rfl (Or.inl rfl) (aq ao (by rfl) X.len PySem.boot_len (aa (pv 4) ad)))
   (ac (aj (i:=6) scShRead.nd rfl (Or.inl rfl) (ai aA (pv 5) (pv 2)))
   (ac (aj (i:=7) scShRead.nd rfl (Or.inl rfl) (am GC hr (by rfl) Ci.m Ci.F.kp Ci.b .nil ap (aa (pv 1) ad)))
   (ac (bF PassesOwn.never (ar df (aq ao (by rfl) X.len PySem.boot_len (aa (pv 4) ad)) (pv 6) (ax _)) (ac (aj (i:=8) scShRead.nd rfl (Or.inl rfl) (am GI hr32 (by rfl) Ti.m Ti.F.kp Ti.b .nil ap (aa (pv 1) (aa (pv 7) ad))))
   (ag (aM (ar df (pv 8) (iA X.first (by rfl)) (ax _)) (ag (aD (b7 PySem.F.plainAttrs_list PySem.F.slot_list_append PySem.F.type_list_append aO (pv 4) (aa (pv 8) ad)))) (ac (aj (i:=9) scShRead.nd rfl (Or.inl rfl) (a6 (pv 1) TR.cl Tk.m GT hr3 Tk.b .nil ap (aa ae ad)))
   (ag (aD (am GL hr2 (by rfl) La.m La.F.kp La.b .nil ap (aa (pv 4) (aa (pv 9) (aa (ai aA (ai aY (pv 8) (iA X.first (by rfl))) (iA X.least (by rfl))) (aa (pv 6) ad))))))))))))
   (ag (az (cT fU (pv 4) (cN (pv 5)) gh))))))),?_⟩
  obtain⟨⟨dx0,hr0⟩,hd0,_,_⟩:=id hR;refine seq_g λ R1 g1=>?_
  refine⟨_,rfl,x,W,rfl,hx,λ l nl=>g1 _ _ ?_⟩;clear g1;have nlr:l≠r:=(af hr0 nl).symm;have nld:l≠d:=(af hd0 nl).symm;refine seq_g λ R1 g1=>?_
  refine⟨_,rfl,l,_,rfl,.inl (SqL.of upd_same),g1 _ _ ?_⟩;clear g1
  try dsimp only
  rw [List.length_map];refine seq_g λ R1 g1=>?_
  have e0:((W.length:Nat):Int)+((T.length:Nat):Int)=((W.length+T.length:Nat):Int):=by lia
  refine⟨_,rfl,_,rfl,_,_,rfl,rfl,g1 _ _ ?_⟩;clear g1
  try dsimp only
  rw [e0];have s0:=ak (o:=.lst (W.map vN)) nl;have h0l:(upd H l (.lst (W.map vN))) l=some (.lst (W.map vN)):=upd_same;have hR0:=hR.same s0;generalize upd H l (.lst (W.map vN))=H0 at*;refine seq_g λ R1 g1=>?_
  have hrd1:RdOf R (pre++W13.puts It++(hP L Pp++post)):=by
   have e:pre++W13.puts It++(hP L Pp++post)=pre++(W13.puts It++hP L Pp)++post:=by simp [List.append_assoc]
   rw [e];exact hrd
  refine⟨_,rfl,r,d,R,pre,hP L Pp++post,It,rfl,hR0,sS hrd1 hIt,by rw [hdec];exact tok.len,by rw [hdec];exact tok.good,λ pc e1 e2 H1 hC1 hR1 kp1=>g1 _ _ ?_⟩;clear g1;rw [hdec] at hC1;have h1l:=kp1 _ _ h0l nlr;have hall:(runP W Pp).length=W.length+T.length:=by rw [hrun,List.length_append]
  have hlt:∀i,i≤Pp.length->(runP W (Pp.take i)).length+(Pp.length-i)≤W.length+T.length:=λ i hi=>by
   have h1:=(gr.drop i).len;rw [<-mi,hall,List.length_drop] at h1;exact h1
  have nlC:∀{H2:Hp} {xs:List V},K19.C.CdAt C H2 pc e1 e2 L->H2 l=some (.lst xs)->l≠pc/\l≠e1/\l≠e2:=λ h hl=>by
   obtain⟨⟨dx,ho⟩,⟨k1,ht,_⟩,⟨k2,hb,_⟩⟩:=h;exact⟨ne_of hl ho (by intro z;cases z),ne_of hl ht (by intro z;cases z),ne_of hl hb (by intro z;cases z)⟩
  refine seq_g λ R1 g1=>?_
  refine⟨λ n σ H2=>∃(i:Nat) (v8 v9:Option V),n=Pp.length-i/\i≤Pp.length/\σ=[some (.ref o),some (.ref r),some (vN T.length),some x,some (.ref l),some (vN W.length),some (vN (W.length+T.length)),some (.ref pc),v8,v9]/\H2 l=some (.lst ((runP W (Pp.take i)).map vN))/\ReadAt D H2 r d R (tots (pre++(W13.puts It++hP L (Pp.take i))))/\K19.C.CdAt C H2 pc e1 e2 L/\∀c o,H c=some o->c≠r->H2 c=some o,
   ⟨Pp.length,0,none,none,rfl,Nat.zero_le _,rfl,h1l,?_,hC1,λ c o e n=>kp1 _ _ (s0 _ _ e) n⟩,?_⟩
  ·have et:tots (pre++(W13.puts It++hP L (Pp.take 0)))=tots pre+tots (W13.puts It):=by
    rw [aC,aC];show tots pre+(tots (W13.puts It)+0)=_;lia
   rw [et];exact hR1
  rintro n σ H2 ⟨i,v8,v9,rfl,hi,rfl,h2l,hR2,hC2,kp⟩;have hli:=hlt i hi;refine⟨_,rfl,l,_,rfl,.inl (SqL.of h2l),_,rfl,_,_,rfl,rfl,_,rfl,aJ (λ h=>?_) (λ h=>?_)⟩
  ·clear g1;have hiP:i<Pp.length:=by
    have h':=of_decide_eq_true h;rw [List.length_map] at h';rcases Nat.lt_or_ge i Pp.length with q|q
    ·exact q
    ·rw [List.take_of_length_le q,hall] at h';lia
   have hPi:Pp[i]?=some Pp[i]:=List.getElem?_eq_getElem hiP;have hmem:Pp[i]∈Pp:=List.getElem_mem hiP;have hga:=gr.at hPi;have hl1:=hlt (i+1) (by lia);have ers:runP W (Pp.take (i+1))=app (runP W (Pp.take i)) Pp[i]:=by rw [cY hPi,oy]
   have eps:hP L Pp=hP L (Pp.take i)++cP L Pp[i]++hP L (Pp.drop (i+1)):=by
    rw [<-jz,<-cV,<-cV,<-cY hPi,List.take_append_drop]
   have etk:pre++(W13.puts It++hP L (Pp.take (i+1)))=pre++(W13.puts It++hP L (Pp.take i))++cP L Pp[i]:=by rw [cY hPi,cV,jz];simp [List.append_assoc]
   rw [ers] at hl1;rw [gQ] at hl1;refine⟨λ σ' H'=>∃(v8 v9:Option V),σ'=[some (.ref o),some (.ref r),some (vN T.length),some x,some (.ref l),some (vN W.length),some (vN (W.length+T.length)),some (.ref pc),v8,v9]/\H' l=some (.lst ((runP W (Pp.take (i+1))).map vN))/\ReadAt D H' r d R (tots (pre++(W13.puts It++hP L (Pp.take (i+1)))))/\K19.C.CdAt C H' pc e1 e2 L/\∀c o,H c=some o->c≠r->H' c=some o,
    λ σ' H' ⟨v8,v9,z⟩=>⟨Pp.length-(i+1),by lia,i+1,v8,v9,rfl,by lia,z⟩,?_⟩
   rw [ers,etk];obtain⟨q1,q2,q3⟩:=tok.at hmem hga;have hth:=iO hga;generalize Pp[i]=xx at*;obtain⟨⟨dx,hr2'⟩,_,_,_⟩:=id hR2;have no:∀t,(fR d t).lookup ("take":Str)=none:=λ t=>eu _ _ (by decide+kernel) (by decide+kernel)
   have n0:=nlC hC2 h2l;have ea:∃c,pre++(W13.puts It++hP L Pp)++post=(pre++(W13.puts It++hP L (Pp.take i)))++(C9.cdAt L (th xx) (L.getD (th xx) 0),L.getD (th xx) 0)::c:=by
    cases xx with
    |sg s=>exact⟨hP L (Pp.drop (i+1))++post,by rw [eps];simp [cP,th,List.append_assoc]⟩
    |cp b z=>exact⟨(b,8)::(hP L (Pp.drop (i+1))++post),by rw [eps];simp [cP,th,List.append_assoc]⟩
   obtain⟨ca,ea⟩:=ea;have hdue:=vk tok.good hrd ea q1 q2;refine seq_g λ R2 g2=>?_
   refine⟨_,rfl,_,rfl,pc,e1,e2,r,d,L,R,_,th xx,L.getD (th xx) 0,rfl,hC2,tok.good,hR2,hdue,λ H3 hR3 kp3=>g2 _ _ ?_⟩;clear g2;have h3l:=kp3 _ _ h2l nlr;have hC3:=hC2.but hR2 kp3;cases xx with
   |sg s=>
    have hs:s<256:=hga;refine⟨_,rfl,_,_,rfl,rfl,_,rfl,aJ (λ _=>?_) (λ h=>?_)⟩
    ·refine⟨_,rfl,.inl ⟨rfl,_,SqL.of h3l⟩,_,rfl,l,_,_,rfl,rfl,h3l,aU (by rw [List.length_map];lia),_,_,rfl,by rw [upd_same];show _=some (HO.lst ((runP W (Pp.take i)++[s]).map vN));rw [List.map_append];rfl,?_,?_,λ c o' e n=>?_⟩
     ·have et2:tots (pre++(W13.puts It++hP L (Pp.take i))++cP L (.sg s))=tots (pre++(W13.puts It++hP L (Pp.take i)))+L.getD (th (.sg s)) 0:=by rw [aC];rfl
      rw [et2];refine hR3.keep λ c o e hc=>?_
      rw [upd_ne (by rcases hc with rfl|rfl;exact nlr.symm;exact nld.symm)];exact e
     ·refine hC3.keep λ c o e hc=>?_
      rw [upd_ne (by rcases hc with rfl|rfl|rfl;exact n0.1.symm;exact n0.2.1.symm;exact n0.2.2.symm)];exact e
     ·rw [upd_ne (af e nl)];exact kp3 _ _ (kp _ _ e n) n
    ·exact absurd (decide_eq_true (show((th (.sg s):Nat):Int)<256 by show((s:Nat):Int)<256;lia)) h
   |cp b z=>
    obtain⟨g1,g2,g3,g4,g5⟩:1≤b/\b≤255/\b≤(runP W (Pp.take i)).length/\3≤z/\z≤18:=hga;have hzs:(Pc.cp b z).size=z:=rfl;rw [hzs] at hl1;have eb:pre++(W13.puts It++hP L Pp)++post=(pre++(W13.puts It++hP L (Pp.take i))++[(C9.cdAt L (253+z) (L.getD (253+z) 0),L.getD (253+z) 0)])++(b,8)::(hP L (Pp.drop (i+1))++post):=by rw [eps];simp [cP,List.append_assoc]
    obtain⟨b1,b2⟩:=hrd.at eb;have et1:tots (pre++(W13.puts It++hP L (Pp.take i))++[(C9.cdAt L (253+z) (L.getD (253+z) 0),L.getD (253+z) 0)])=tots (pre++(W13.puts It++hP L (Pp.take i)))+L.getD (th (.cp b z)) 0:=by rw [aC];rfl
    rw [et1] at b1 b2;refine⟨_,rfl,_,_,rfl,rfl,_,rfl,aJ (λ h=>?_) (λ _=>?_)⟩
    ·have:((253+z:Nat):Int)<256:=of_decide_eq_true h;lia
    obtain⟨⟨dx3,hr3'⟩,_,_,_⟩:=id hR3;refine seq_g λ R2 q2=>?_
    refine⟨_,rfl,r,dx3,_,rfl,hr3',no _,r,d,R,_,8,rfl,hR3,by decide,b1,λ H4 hR4 kp4=>q2 _ _ ?_⟩;clear q2;rw [b2];have h4l:=kp4 _ _ h3l nlr;have hC4:=hC3.but hR3 kp4;have ez:((th (.cp b z):Nat):Int)-256+3=((z:Nat):Int):=by show((253+z:Nat):Int)-256+3=_;lia
    refine⟨_,rfl,_,rfl,_,rfl,_,_,rfl,rfl,_,_,rfl,rfl,_,rfl,?_⟩
    try dsimp only
    rw [ez];refine⟨l,runP W (Pp.take i),b,z,W.length+T.length,rfl,h4l,g1,g3,by lia,by lia,_,_,rfl,upd_same,?_,?_,λ c o' e n=>?_⟩
    ·have et3:tots (pre++(W13.puts It++hP L (Pp.take i))++cP L (.cp b z))=tots (pre++(W13.puts It++hP L (Pp.take i)))+L.getD (th (.cp b z)) 0+8:=by
      rw [aC];have:tots (cP L (.cp b z))=L.getD (th (.cp b z)) 0+8:=rfl;lia
     rw [et3];refine hR4.keep λ c o e hc=>?_
     rw [upd_ne (by rcases hc with rfl|rfl;exact nlr.symm;exact nld.symm)];exact e
    ·refine hC4.keep λ c o e hc=>?_
     rw [upd_ne (by rcases hc with rfl|rfl|rfl;exact n0.1.symm;exact n0.2.1.symm;exact n0.2.2.symm)];exact e
    ·rw [upd_ne (af e nl)];exact kp4 _ _ (kp3 _ _ (kp _ _ e n) n) n
  ·have hiP:i=Pp.length:=by
    rcases Nat.lt_or_ge i Pp.length with q|q
    ·exact absurd (decide_eq_true (by rw [List.length_map];lia)) h
    ·lia
   rw [hiP,List.take_length] at h2l hR2;rw [hrun] at h2l;refine g1 _ _ ?_;clear g1;have ec:cutV ((W++T).map vN) (some ((W.length:Nat):Int)) none=T.map vN:=by rw [kI,<-List.map_drop,List.drop_left]
   refine⟨_,rfl,_,rfl,_,rfl,l,_,rfl,SqL.of h2l,λ l9 n9=>?_⟩
   try dsimp only
   rw [ec];have s9:=ak (o:=.lst (T.map vN)) n9;refine k l9 _ ?_ upd_same (hR2.keep λ c o e _=>s9 _ _ e) λ c o e n=>s9 _ _ (kp _ _ e n)
   cases e:H l9 with
   |none=>rfl
   |some o'=>
    by_cases z:l9=r
    ·subst z;obtain⟨⟨dx9,hr9⟩,_⟩:=hR2;rw [hr9] at n9;cases n9
    ·rw [kp _ _ e z] at n9;cases n9
end
theorem jL (n:Nat):∀(k j:Nat),j<k->(dig n k).take (j+1)=(dig n k).take j++[decide (n/2^(k-1-j)%2=1)]
 |0,j,h=>by lia
 |k+1,0,_=>rfl
 |k+1,j+1,h=>by
  show decide (n/2^k%2=1)::(dig n k).take (j+1)=decide (n/2^k%2=1)::((dig n k).take j++[decide (n/2^(k+1-1-(j+1))%2=1)]);rw [jL n k j (by lia),show k+1-1-(j+1)=k-1-j by lia]
theorem sN (a:Nat)(c:Int):∃v:Nat,(v=0\/v=a)/\atI [V.int 0,vN a,vN a,V.int 0] (c%4)=some (vN v):=by
 obtain⟨z,hz,ez⟩:∃z:Nat,z<4/\c%4=(z:Int):=⟨(c%4).toNat,by lia,by lia⟩;rw [ez]
 match z,hz with
 |0,_=>exact⟨0,.inl rfl,aw rfl⟩
 |1,_=>exact⟨a,.inr rfl,aw rfl⟩
 |2,_=>exact⟨a,.inr rfl,aw rfl⟩
 |3,_=>exact⟨0,.inl rfl,aw rfl⟩
theorem sB:(Str.ofString "":Str)=txt []:=by decide+kernel
theorem xq:(Str.ofString "1":Str)=txt [true]:=by decide+kernel
theorem uZ:(Str.ofString "0":Str)=txt [false]:=by decide+kernel
theorem va:(Str.ofString "01":Str)=txt [false,true]:=by decide+kernel
theorem vd (b:Bool):decide (V.str (txt [b])=V.str (Str.ofString "1"))=b:=by
 rw [xq];cases b with
 |true=>exact decide_eq_true rfl
 |false=>exact decide_eq_false λ e=>absurd (txt_inj.mp (V.str.inj e)) (by decide)
theorem tZ (n:Nat):atI (txt [false,true]).cps.toList ((n:Int)%2)=some (sgn (decide (n%2=1))):=by
 have e:(n:Int)%2=((n%2:Nat):Int):=by lia
 rw [e];have h2:n%2<2:=Nat.mod_lt _ (by decide);refine aw ?_
 match n%2,h2 with
 |0,_=>rfl
 |1,_=>rfl
theorem vi (k:Nat)(hk:k≤7):MulOk (txt [false]) (k:Int):=by
 match k,hk with
 |0,_=>exact⟨by decide,λ h=>absurd (by decide) h,λ h=>absurd (by decide) h⟩
 |1,_=>exact⟨by decide,λ _ h=>absurd h (by decide),λ _ h=>absurd h (by decide)⟩
 |2,_=>exact⟨by decide,λ _ _=>by decide,λ _ _=>by decide⟩
 |3,_=>exact⟨by decide,λ _ _=>by decide,λ _ _=>by decide⟩
 |4,_=>exact⟨by decide,λ _ _=>by decide,λ _ _=>by decide⟩
 |5,_=>exact⟨by decide,λ _ _=>by decide,λ _ _=>by decide⟩
 |6,_=>exact⟨by decide,λ _ _=>by decide,λ _ _=>by decide⟩
 |7,_=>exact⟨by decide,λ _ _=>by decide,λ _ _=>by decide⟩
theorem m6 (k:Nat)(hk:k≤7):Txt.mul (txt [false]) (k:Int)=txt (List.replicate k false):=by
 match k,hk with
 |0,_=>decide+kernel
 |1,_=>decide+kernel
 |2,_=>decide+kernel
 |3,_=>decide+kernel
 |4,_=>decide+kernel
 |5,_=>decide+kernel
 |6,_=>decide+kernel
 |7,_=>decide+kernel
theorem bS {n:Nat}(h:n≤100000):n≤sizeLine:=Nat.le_trans h (by decide)
theorem vF (m:Nat)(h:m≤1000):Builtin.Range.small 0 ((8*m:Nat):Int) 8=true/\Builtin.Range.rangeSize 0 ((8*m:Nat):Int) 8=(m:Int):=by
 have e:Builtin.Range.rangeSize 0 ((8*m:Nat):Int) 8=(m:Int):=by
  unfold Builtin.Range.rangeSize;rw [if_pos (by decide)]
  split<;>lia
 refine⟨?_,e⟩;have f:∀i:Int,0≤i->i<100000->Builtin.Range.rangeFitsLong i=true:=λ i h0 h1=>by
  unfold Builtin.Range.rangeFitsLong;rw [decide_eq_true (by lia),decide_eq_true (by lia)];rfl
 unfold Builtin.Range.small;rw [e]
 try dsimp only
 rw [f 0 (by decide) (by decide),f ((8*m:Nat):Int) (by lia) (by lia),f 8 (by decide) (by decide),f (m:Int) (by lia) (by lia),if_pos (by decide),f (((8*m:Nat):Int)+(8-1)) (by lia) (by lia)];simp
theorem tV {S:List Nat}(h:S≠ []):∃b∈S,atI (S.map vN) (-1)=some (vN b):=by
 have hl:0<S.length:=List.length_pos_iff.mpr h;have hl2:S.length-1<S.length:=by lia
 refine⟨S[S.length-1],List.getElem_mem _,?_⟩;exact ng (b:=1) (by decide) (by rw [List.length_map];lia) (by rw [List.length_map];exact bC hl2)
section
variable {P : Program} {w : World} {K : PySem.W.Frag} {mg : Str -> Option Value} {base : Heap} {B D : Addr}
def mW (C:Addr):Sp:=λ vs H Q _=>∃(o dx a:Addr) (x:V) (T W:List Nat) (Pp:List Pc),vs=[.ref o,.ref a,x]/\H o=some (.ins C dx [])/\H a=some (.lst (T.map vN))/\(∀b∈T,b<256)/\1≤T.length/\T.length≤64/\WinV H x W/\(∀b∈W,b<256)/\W.length≤192/\Walk (W++T) W.length Pp (W++T).length/\
 ∀(L:List Nat) (It:List W13.Itm) (b:Nat) (H':Hp),ShL (Pp.map th) L->W13.Walk L 0 0 It 272 b->Same H H'->Q (vN (tots (W13.puts It++hP L Pp))) H'
theorem scCost:FnScope ["self","text","before","bits"] ["self","text","before"] (defScope mN):=⟨rfl,rfl,rfl,by decide+kernel,rfl,by decide+kernel,by decide+kernel⟩
theorem si {C f fT:Addr}{fd fdT:FuncData}(F:Fun K "cost" "Way.cost" mN f fd)(Z:Bts K mg B)(clW:Cls K C)(Te:Meth K C "tell" fT)(bT:Binds K fdT ["self","bits","text","before"] [])(GT:FnOk P w K mg base CX0 35 fT fdT ["self","bits","text","before"] (lF B)):
  FnOk P w K mg base CX0 36 f fd ["self","text","before"] (mW C):=by
 have X:=Z.R.X;obtain⟨_,_,FI,bI,MI⟩:=Z.init;obtain⟨_,_,Ma⟩:=Z.many;have TB:=Z.T;have GI:=gU (P:=P) (w:=w) (base:=base) FI TB;have GM:=ju (P:=P) (w:=w) (base:=base) Ma.F TB X;refine F.ok scCost (λ vs H Q E h=>?_) (λ cdv A outer st H vs Q E hr h=>?_)
 ·obtain⟨o,dx,a,x,T,W,Pp,rfl,_⟩:=h;rfl
 ·obtain⟨o,dx,a,x,T,W,Pp,rfl,ho,ha,hTb,h1,h64,hx,hWb,hWl,hwk,k⟩:=h;have hr2:Room 2 _:=hr.mono (by decide);have hr1:Room 1 _:=hr.mono (by decide);refine⟨_,ac (aj (i:=3) scCost.nd rfl (Or.inl rfl) (gm MI GI hr2 (by rfl) Z.m bI .nil ap))
   (ac (aD (a6 (pv 0) clW Te GT hr bT .nil ap (aa (pv 3) (aa (pv 1) (aa (pv 2) ad)))))
   (ag (az (bi (pv 3) TB.cl Ma.m GM hr1 Ma.b .nil ap)))),?_⟩
  refine seq_g λ R1 g1=>?_
  intro p dp np ndp nep;have hp0:(upd (upd H dp (.own p)) p (.ins B dp [])) p=some (.ins B dp []):=upd_same;have s0:Same H (upd (upd H dp (.own p)) p (.ins B dp [])):=λ c o e=>by
   rw [upd_ne (af e np),upd_ne (af e ndp)];exact e
  refine⟨p,dp,rfl,hp0,λ d H1 nd hB kp=>⟨rfl,g1 _ _ ?_⟩⟩;clear g1;have nd0:H d=none:=none_of s0 nd;have s1:Same H H1:=λ c o e=>kp _ _ (s0 _ _ e) (af e np)
  clear s0 hp0 kp;refine seq_g λ R1 g1=>?_
  refine⟨_,rfl,o,dx,_,rfl,s1 _ _ ho,rfl,_,rfl,_,rfl,_,rfl,o,p,d,a,x,T,W,Pp,0,0,rfl,hB,by decide,s1 _ _ ha,hTb,h1,h64,hx.same s1,hWb,hWl,hwk,λ L It b H2 hsh hit hB2 kp2=>g1 _ _ ?_⟩;clear g1;have s2:Same H H2:=λ c o e=>kp2 _ _ (s1 _ _ e) (af e np) (af e nd0)
  obtain⟨dx2,r2,k2,hp2⟩:=hB2.ob;refine⟨_,rfl,p,dx2,_,rfl,hp2,dP _ _ _ (by decide+kernel) (by decide+kernel) (by decide+kernel),p,d,_,_,rfl,hB2,?_⟩;rw [Nat.zero_add];exact k _ _ _ _ hsh hit s2
def wm (K:PySem.W.Frag):Sp:=λ vs H Q _=>∃(a:Addr) (ns:List Int) (k:Nat),vs=[.ref a,vN k]/\SqL K H a (ns.map V.int)/\Q (.int (ns.getD k 0)) H
theorem vK:FnScope ["_law_script","_law_k"] ["_law_script","_law_k"] (defScope eg):=⟨rfl,rfl,rfl,by decide+kernel,rfl,by decide+kernel,by decide+kernel⟩
theorem mS {f:Addr}{fd:FuncData}(F:Fn K mg "_law_cell_at" eg ["_law_script","_law_k"] f fd)(X:Txt K mg):FnOk P w K mg base CX0 1 f fd ["_law_script","_law_k"] (wm K):=by
 refine F.F.ok vK (λ vs H Q E h=>?_) (λ cdv A outer st H vs Q E hr h=>?_)
 ·obtain⟨a,ns,k,rfl,_⟩:=h;rfl
 ·obtain⟨a,ns,k,rfl,hS,q⟩:=h;refine⟨_,ac (aM (ar df (pv 1) (aq ao (by rfl) X.len PySem.boot_len (aa (pv 0) ad)) (ax _)) (ag (az (aL aN (pv 0) (pv 1) (λ _ _=>rfl)))) aB)
   (ag (az ae)),?_⟩
  refine⟨_,rfl,_,rfl,a,_,rfl,.inl hS,_,_,rfl,rfl,_,rfl,?_⟩;refine aJ (λ h1=>?_) (λ h1=>?_)
  ·have h2:k<ns.length:=by have:=of_decide_eq_true h1;rw [List.length_map] at this;lia
   refine⟨_,rfl,_,rfl,a,_,_,V.int (ns.getD k 0),rfl,rfl,hS,aw ?_,q⟩;rw [List.getElem?_map,List.getElem?_eq_getElem h2,List.getD_eq_getElem?_getD,List.getElem?_eq_getElem h2];rfl
  ·have h1':decide ((k:Int)<((ns.map V.int).length:Int))≠true:=h1;have h2:ns.length≤k:=by
    rw [List.length_map] at h1';by_cases h:(k:Int)<(ns.length:Int)
    ·exact absurd (decide_eq_true h) h1'
    ·lia
   try dsimp only
   rw [List.getD_eq_getElem?_getD,List.getElem?_eq_none h2] at q;exact q
def nV:Sp:=λ vs H Q _=>∃(c:Int) (k:Nat),vs=[.int c,vN k]/\k≤1000/\∀v:Nat,Q (vN v) H
theorem scDrawn:FnScope ["_law_seed","_law_k","_law_mixed"] ["_law_seed","_law_k"] (defScope fh):=⟨rfl,rfl,rfl,by decide+kernel,rfl,by decide+kernel,by decide+kernel⟩
theorem qP {f:Addr}{fd:FuncData}(F:Fn K mg "_law_drawn" fh ["_law_seed","_law_k"] f fd):FnOk P w K mg base CX0 1 f fd ["_law_seed","_law_k"] nV:=by
 refine F.F.ok scDrawn (λ vs H Q E h=>?_) (λ cdv A outer st H vs Q E hr h=>?_)
 ·obtain⟨c,k,rfl,_⟩:=h;rfl
 ·obtain⟨c,k,rfl,hk,q⟩:=h;refine⟨_,ac (aj (i:=2) scDrawn.nd rfl (Or.inl rfl) (ai aQ (ai cy (ai aA (ai aA (ai aA (pv 0) (ai cy (ai cy ae (pv 1)) (pv 1))) (ai cy ae (pv 1))) ae) ae) ae))
   (ag (az (ai a8 (ai aQ (ai cy (ai aA (ai a8 (pv 2) ae) (pv 1)) ae) ae) ae))),?_⟩
  refine seq_g λ R1 g1=>?_
  refine⟨_,rfl,_,rfl,_,_,rfl,rfl,.inl ⟨by decide,by decide⟩,_,rfl,_,_,rfl,rfl,.inr ⟨by lia,by lia⟩,_,_,rfl,rfl,_,rfl,_,_,rfl,rfl,.inl ⟨by decide,by decide⟩,_,_,rfl,rfl,_,_,rfl,rfl,?_⟩;refine⟨_,_,rfl,rfl,.inr ⟨by decide,by decide⟩,_,_,rfl,rfl,(by show(0:Int)<2147483647;decide),g1 _ _ ?_⟩;clear g1;obtain⟨m,em⟩:=Int.eq_ofNat_of_zero_le (Int.emod_nonneg ((c+101*((k:Nat):Int)*((k:Nat):Int)+7*((k:Nat):Int)+13)*48271) (show(2147483647:Int)≠0 by decide))
  try dsimp only
  rw [em];refine⟨_,rfl,_,_,rfl,rfl,⟨by decide,by decide⟩,_,rfl,_,_,rfl,rfl,_,_,rfl,rfl,.inr ⟨by decide,by decide⟩,_,_,rfl,rfl,(by show(0:Int)<2147483629;decide),_,_,rfl,rfl,⟨by decide,by decide⟩,?_⟩;obtain⟨v,ev⟩:∃v:Nat,(((m:Nat):Int)/7+((k:Nat):Int))*16807%2147483629/64=((v:Nat):Int):=⟨((((m:Nat):Int)/7+((k:Nat):Int))*16807%2147483629/64).toNat,by lia⟩
  try dsimp only
  rw [ev];exact q v
def uz:Sp:=λ vs H Q _=>∃(c:Int) (s:Nat) (a:Addr) (A:List Nat),vs=[.int c,vN s,.ref a]/\H a=some (.lst (A.map vN))/\(∀b∈A,b<256)/\A.length≤192/\s≤192/\∀(l:Addr) (T:List Nat) (H':Hp),Same H H'->H l=none->H' l=some (.lst (T.map vN))->T.length=s->(∀b∈T,b<256)->Q (.ref l) H'
abbrev wa:List Str:=["_law_cell","_law_size","_law_ahead","_law_found","_law_some","_law_back","_law_k","_law_number","_law_sign"]
theorem scSigns:FnScope wa ["_law_cell","_law_size","_law_ahead"] (defScope gF):=⟨rfl,rfl,rfl,by decide+kernel,rfl,by decide+kernel,by decide+kernel⟩
theorem x5:(["_law_k","_law_cell"]:List Str).Nodup:=by decide+kernel
def qO:TE:=tOp (rI (λ _ j=>0<j) λ i j=>.int (i%j)) (rF nV [] E0 (dt (dM 1) (dt (tOp (rI0 λ i j=>.int (i+j)) (tC (.int 300)) (dM 0)) i4))) (tC (.int 256))
theorem pS {f fD:Addr}{fd fdD:FuncData}(F:Fn K mg "_law_signs" gF ["_law_cell","_law_size","_law_ahead"] f fd)(Dr:Fn K mg "_law_drawn" fh ["_law_seed","_law_k"] fD fdD)(X:Txt K mg):FnOk P w K mg base CX0 31 f fd ["_law_cell","_law_size","_law_ahead"] uz:=by
 have GD:=qP (P:=P) (w:=w) (base:=base) Dr;refine F.F.ok scSigns (λ vs H Q E h=>?_) (λ cdv A outer st H vs Q E hr h=>?_)
 ·obtain⟨c,s,a,A,rfl,_⟩:=h;rfl
 ·obtain⟨c,s,a,A,rfl,ha,hAb,hA,hs,k⟩:=h;have hr1:Room 1 _:=hr.mono (by decide);have hu:=hr.units;refine⟨_,ac (aj (i:=3) scSigns.nd rfl (Or.inl rfl) (bj aZ (by rfl) X.list PyProof.Rows.boot_list (aa (pv 2) ad)))
   (ac (r8 (N:=["_law_k","_law_cell"]) (js:=[none,some 0]) (cl:=[("_law_cell",st.heap.objs.size+1)]) (g:=bZ 0) (te:=qO) (i:=4) scSigns.nd rfl (Or.inl rfl) rfl
    ⟨rfl,by decide+kernel,by decide+kernel,by rfl,λ x c h=>(by obtain⟨rfl,rfl⟩:=l7 h;rfl),λ x hx=>?c1,rfl,λ i x j h1 h2=>?c2⟩
    (bw (by rfl) X.range (aa (ai aA ae (ai aQ (ai a8 (pv 0) ae) ae)) ad)) (λ fp s H=>aF (i:=0) x5 rfl (Or.inl rfl))
    (λ fp s H=>ai aQ (am GD hr1 (by rfl) Dr.m Dr.F.kp Dr.b .nil ap (aa (pv 1) (aa (ai aA ae (pv 0)) ad))) ae) (by rfl))
   (ac (aj (i:=5) scSigns.nd rfl (Or.inl rfl) (ai aA ae (ai aQ (am GD hr1 (by rfl) Dr.m Dr.F.kp Dr.b .nil ap (aa (pv 0) (aa ae ad))) (aq (io (hr.hd (by decide))) (by rfl) X.max PyProof.Rows.boot_max (aa ae (aa (ai aA (aq ao (by rfl) X.len PySem.boot_len (aa (pv 2) ad)) ae) ad))))))
   (ac (aS PassesOwn.never rfl (bw (by rfl) X.range (aa (pv 1) ad)) (aF (i:=6) scSigns.nd rfl (Or.inl rfl))
    (ac (aj (i:=7) scSigns.nd rfl (Or.inl rfl) (am GD hr1 (by rfl) Dr.m Dr.F.kp Dr.b .nil ap (aa (pv 0) (aa (pv 6) ad))))
    (ac (aj (i:=8) scSigns.nd rfl (Or.inl rfl) (aL aN (pv 4) (ai aQ (pv 7) (aq ao (by rfl) X.len PySem.boot_len (aa (pv 4) ad))) (λ _ _=>rfl)))
    (ac (aM (ar bh (ai aQ (pv 0) ae) ae (ax _)) (ag (aj (i:=8) scSigns.nd rfl (Or.inl rfl) (ai aQ (pv 7) ae)))
     (ag (aM (PW.pt (c5 (ar bh (ai aQ (pv 0) ae) ae (ax _)) (c5 (ar cz (ai aQ (ai a8 (pv 7) ae) ae) ae (ax _)) (cZ (ar (p9 hu) (pv 3) (aV ad) (ax _))))))
      (ag (aj (i:=8) scSigns.nd rfl (Or.inl rfl) (aL aN (pv 3) (uP rZ ae) (λ _ _=>rfl))))
      (ag (aM (PW.pt (c5 (ar bh (ai aQ (pv 0) ae) ae (ax _)) (c5 (ar cz (ai aQ (ai a8 (pv 7) ae) ae) ae (ax _)) (cZ (ar kG (pv 5) (aq ao (by rfl) X.len PySem.boot_len (aa (pv 3) ad)) (ax _))))))
       (ag (aj (i:=8) scSigns.nd rfl (Or.inl rfl) (aL aN (pv 3) (ai aY (aq ao (by rfl) X.len PySem.boot_len (aa (pv 3) ad)) (pv 5)) (λ _ _=>rfl)))) aB)))))
    (ag (aD (b7 PySem.F.plainAttrs_list PySem.F.slot_list_append PySem.F.type_list_append aO (pv 3) (aa (pv 8) ad))))))))
   (ag (az (cT fU (pv 3) (cN (aq ao (by rfl) X.len PySem.boot_len (aa (pv 2) ad))) gh)))))),?_⟩
  case c1=>
   rcases hx with hx|hx
   ·have m':(x,NameKind.cell)∈([(".0",.local),("_law_k",.local),("_law_drawn",.globalImplicit),("_law_cell",.cell)]:List (Str×NameKind)):=PySem.mem_of_lookup hx;have e:x="_law_cell":=by simpa using m'
    subst e;exact⟨_,rfl⟩
   ·have m':(x,NameKind.free)∈([(".0",.local),("_law_k",.local),("_law_drawn",.globalImplicit),("_law_cell",.cell)]:List (Str×NameKind)):=PySem.mem_of_lookup hx;simp at m'
  case c2=>
   match i,h1,h2 with
   |0,_,h2=>cases h2
   |1,h1,h2=>
    cases h1;cases h2;exact⟨rfl,rfl,rfl,λ c h=>h⟩
   |i+2,h1,_=>cases h1
  refine seq_g λ R1 g1=>?_
  refine⟨_,rfl,a,_,rfl,.inl (SqL.of ha),λ lf nf=>g1 _ _ ?_⟩;clear g1;have s0:=ak (o:=.lst (A.map vN)) nf;have h0f:(upd H lf (.lst (A.map vN))) lf=some (.lst (A.map vN)):=upd_same;generalize upd H lf (.lst (A.map vN))=H0 at*;refine seq_g λ R1 g1=>?_
  obtain⟨n,hn1,hn6,en⟩:∃n:Nat,1≤n/\n≤6/\(1:Int)+c/4%6=((n:Nat):Int):=⟨(1+c/4%6).toNat,by lia,by lia,by lia⟩;refine⟨_,rfl,_,_,rfl,rfl,⟨by decide,by decide⟩,_,_,rfl,rfl,(by show(0:Int)<6;decide),_,_,rfl,rfl,?_⟩
  try dsimp only
  rw [en];refine⟨((n:Nat):Int),rfl,by lia,by lia,λ ls ns=>?_⟩;refine o8 (g:=bZ 0) (te:=qO) (lo:=0) (l:=ls) (k:=((n:Nat):Int).toNat)
   (λ p ys σ H2=>∃(v0:Option V) (S:List Nat),σ=[v0,some (.int c)]/\ys=S.map vN/\S.length=p/\(∀b∈S,b<256)/\H2 ls=some (.lst ys)/\Same H0 H2)
   ⟨none,[],rfl,rfl,rfl,(λ _ h=>nomatch h),upd_same,ak ns⟩ ?_ ?_ ?_ ?_
  ·clear g1;rintro p ys σ H2 hp ⟨v0,S,rfl,rfl,hSl,hSb,h2l,sm⟩;have hp6:p<n:=by simpa using hp
   have e2:(300:Int)+((0:Int)+((p:Nat):Int))=((300+p:Nat):Int):=by lia
   refine⟨_,rfl,_,rfl,_,_,rfl,rfl,?_⟩
   try dsimp only
   rw [e2];refine⟨c,300+p,rfl,by lia,λ v=>?_⟩;have e3:((v:Nat):Int)%256=((v%256:Nat):Int):=by lia
   refine⟨_,_,rfl,rfl,(by show(0:Int)<256;decide),?_⟩
   try dsimp only
   rw [e3];refine⟨h2l,aU (by rw [List.length_map];lia),_,S++[v%256],rfl,by rw [List.map_append];rfl,by rw [List.length_append,hSl];rfl,λ b hb=>?_,upd_same,λ c o e=>?_⟩
   ·rcases List.mem_append.mp hb with h|h
    ·exact hSb b h
    ·rw [List.mem_singleton.mp h];exact Nat.mod_lt _ (by decide)
   ·rw [upd_ne (af e ns)];exact sm _ _ e
  rotate_left
  ·exact λ x σ H A B h z=>h _ _ z
  ·rintro σ H A B h ⟨v,e1,v2,e2,i,j,e3,e4,c',k',e5,e6,z⟩;refine⟨v,e1,v2,e2,i,j,e3,e4,c',k',e5,e6,λ v=>?_⟩;obtain⟨i2,j2,f1,f2,f3,z⟩:=z v;exact⟨i2,j2,f1,f2,f3,h _ _ z⟩
  rintro ys σ H2 ⟨v0,S,rfl,rfl,hSl,hSb,h2s,sm2⟩;rw [Int.toNat_natCast] at hSl;refine g1 _ _ ?_;clear g1;have h2f:=sm2 _ _ h0f;have s02:=s0.trans sm2;have ha2:=s02 _ _ ha;have nsf:ls≠lf:=(af h0f ns).symm;refine seq_g λ R1 g1=>?_
  refine⟨_,rfl,c,400,rfl,by decide,λ v=>⟨_,rfl,a,_,rfl,.inl (SqL.of ha2),_,_,rfl,rfl,_,_,rfl,?_⟩⟩;have emx:(if((A.map vN).length:Int)+9>1 then((A.map vN).length:Int)+9 else 1)=((A.length+9:Nat):Int):=by
   rw [List.length_map,if_pos (by lia)];lia
  have em:(1:Int)+((v:Nat):Int)%((A.length+9:Nat):Int)=((1+v%(A.length+9):Nat):Int):=by rw [<-Int.natCast_emod];lia
  try dsimp only
  rw [emx];refine⟨_,_,rfl,rfl,(by show(0:Int)<((A.length+9:Nat):Int);lia),_,_,rfl,rfl,g1 _ _ ?_⟩;clear g1
  try dsimp only
  rw [em];have hbk1:1≤1+v%(A.length+9):=by lia
  generalize 1+v%(A.length+9)=bk at*;refine seq_g λ R1 g1=>?_
  refine⟨_,rfl,((s:Nat):Int),rfl,by lia,by lia,bc (D:=⟨_,_,λ _ _=>False,λ _ _=>False⟩) (lo:=0) (n:=((s:Nat):Int).toNat) (λ i σ H3=>∃(v6 v7 v8:Option V) (T:List Nat),σ=[some (.int c),some (vN s),some (.ref a),some (.ref lf),some (.ref ls),some (vN bk),v6,v7,v8]/\T.length=i/\(∀b∈T,b<256)/\H3 lf=some (.lst ((A++T).map vN))/\∀c o,c≠lf->H2 c=some o->H3 c=some o)
   ⟨none,none,none,[],rfl,rfl,(λ _ h=>nomatch h),by rw [List.append_nil];exact h2f,λ _ _ _ e=>e⟩ ?_ ?_⟩
  ·clear g1;rintro i σ H3 hi ⟨v6,v7,v8,T,rfl,hTl,hTb,h3f,kp⟩;have his:i<s:=by simpa using hi
   have h3s:=kp _ _ nsf h2s;have e0:(0:Int)+((i:Nat):Int)=((i:Nat):Int):=by lia
   rw [e0];refine seq_g λ R2 g2=>?_
   refine⟨_,rfl,_,rfl,c,i,rfl,by lia,λ m=>g2 _ _ ?_⟩;clear g2;have hb2:∀b∈A++T,b<256:=λ b hb=>by
    rcases List.mem_append.mp hb with h|h
    ·exact hAb b h
    ·exact hTb b h
   refine seq_g λ R2 g2=>?_
   have hmS:=Nat.mod_lt m (show 0<S.length by lia);refine⟨_,rfl,_,rfl,_,rfl,ls,_,rfl,.inl (SqL.of h3s),_,_,rfl,rfl,(by show(0:Int)<((S.map vN).length:Int);rw [List.length_map];lia),?_⟩;have emm:((m:Nat):Int)%(((S.map vN).length:Nat):Int)=((m%S.length:Nat):Int):=by rw [List.length_map,Int.natCast_emod]
   try dsimp only
   rw [emm];refine⟨ls,_,_,_,rfl,rfl,SqL.of h3s,aw (bC hmS),g2 _ _ ?_⟩;clear g2;have hs0:S[m%S.length]<256:=hSb _ (List.getElem_mem hmS);generalize S[m%S.length]=sg0 at*;refine seq_g λ R2 g2=>?_
   have J:∀(sg:Nat) (H4:Hp),sg<256->Same H3 H4->R2 [some (.int c),some (vN s),some (.ref a),some (.ref lf),some (.ref ls),some (vN bk),some (vN i),some (vN m),some (vN sg)] H4:=by
    intro sg H4 hsg s34;refine g2 _ _ ?_;have h4f:=s34 _ _ h3f;refine⟨_,rfl,.inl ⟨rfl,_,SqL.of h4f⟩,_,rfl,lf,_,_,rfl,rfl,h4f,aU (by rw [List.length_map,List.length_append];lia),_,_,_,T++[sg],rfl,by rw [List.length_append,hTl];rfl,λ b hb=>?_,?_,λ c o n e=>?_⟩
    ·rcases List.mem_append.mp hb with h|h
     ·exact hTb b h
     ·rw [List.mem_singleton.mp h];exact hsg
    ·rw [upd_same,<-List.append_assoc,List.map_append (l₁:=A++T)];rfl
    ·rw [upd_ne n];exact s34 _ _ (kp _ _ n e)
   clear g2;refine⟨_,rfl,_,_,rfl,rfl,(by show(0:Int)<4;decide),rfl,_,rfl,aJ (λ _=>?_) (λ _=>?_)⟩
   ·have e3:((m:Nat):Int)%256=((m%256:Nat):Int):=by lia
    refine⟨_,rfl,_,_,rfl,rfl,(by show(0:Int)<256;decide),?_⟩
    try dsimp only
    rw [e3];exact J _ _ (Nat.mod_lt _ (by decide)) (Same.refl _)
   refine⟨_,rfl,_,_,rfl,rfl,(by show(0:Int)<4;decide),rfl,_,rfl,aJ (λ _=>?_) (λ _=>bL ?_)⟩
   ·refine⟨_,rfl,_,_,rfl,rfl,⟨by decide,by decide⟩,_,_,rfl,rfl,(by show(0:Int)<5;decide),_,_,rfl,rfl,_,rfl,aJ (λ _=>?_) (λ _=>bL ?_)⟩
    ·refine⟨_,rfl,by decide,λ q nq=>?_⟩;have sq:=ak (o:=.lst []) nq;have hqq:(upd H3 q (.lst [])) q=some (.lst (([]:List Int).map V.int)):=upd_same;generalize upd H3 q (.lst [])=H4 at*;refine⟨lf,q,(A++T).map (λ b=>((b:Nat):Int)),[],rfl,rfl,by rw [<-bV];exact SqL.of (sq _ _ h3f),SqL.of hqq,_,rfl,aJ (λ hne=>?_) (λ _=>?_)⟩
     ·have hne':A++T≠ []:=λ z=>by rw [z] at hne;simp at hne
      obtain⟨b,hb,hat⟩:=tV hne';exact⟨_,rfl,_,rfl,lf,_,_,_,rfl,rfl,SqL.of (sq _ _ h3f),hat,J b _ (hb2 b hb) sq⟩
     ·refine⟨_,rfl,_,_,rfl,rfl,(by show(0:Int)<4;decide),rfl,_,rfl,aJ (λ _=>?_) (λ _=>bL (J sg0 _ hs0 sq))⟩;refine⟨_,rfl,_,_,rfl,rfl,⟨by decide,by decide⟩,_,_,rfl,rfl,(by show(0:Int)<9;decide),_,_,rfl,rfl,_,rfl,aJ (λ _=>?_) (λ _=>bL (J sg0 _ hs0 sq))⟩;refine⟨_,rfl,_,rfl,lf,_,rfl,.inl (SqL.of (sq _ _ h3f)),_,_,rfl,rfl,_,rfl,aJ (λ hb=>?_) (λ _=>J sg0 _ hs0 sq)⟩;have hbl:bk≤(A++T).length:=by
       have:=of_decide_eq_true hb;rw [List.length_map] at this;lia
      refine⟨_,rfl,_,rfl,lf,_,rfl,.inl (SqL.of (sq _ _ h3f)),_,rfl,_,_,rfl,rfl,?_⟩;have ei:((((A++T).map vN).length:Nat):Int)-((bk:Nat):Int)=(((A++T).length-bk:Nat):Int):=by rw [List.length_map];lia
      try dsimp only
      rw [ei];exact⟨lf,_,_,_,rfl,rfl,SqL.of (sq _ _ h3f),aw (bC (show(A++T).length-bk<(A++T).length by lia)),J _ _ (hb2 _ (List.getElem_mem _)) sq⟩
    ·refine⟨_,rfl,_,_,rfl,rfl,(by show(0:Int)<4;decide),rfl,_,rfl,aJ (λ _=>?_) (λ _=>bL (J sg0 _ hs0 (Same.refl H3)))⟩;refine⟨_,rfl,_,_,rfl,rfl,⟨by decide,by decide⟩,_,_,rfl,rfl,(by show(0:Int)<9;decide),_,_,rfl,rfl,_,rfl,aJ (λ _=>?_) (λ _=>bL (J sg0 _ hs0 (Same.refl H3)))⟩;refine⟨_,rfl,_,rfl,lf,_,rfl,.inl (SqL.of ((Same.refl H3) _ _ h3f)),_,_,rfl,rfl,_,rfl,aJ (λ hb=>?_) (λ _=>J sg0 _ hs0 (Same.refl H3))⟩;have hbl:bk≤(A++T).length:=by
      have:=of_decide_eq_true hb;rw [List.length_map] at this;lia
     refine⟨_,rfl,_,rfl,lf,_,rfl,.inl (SqL.of ((Same.refl H3) _ _ h3f)),_,rfl,_,_,rfl,rfl,?_⟩;have ei:((((A++T).map vN).length:Nat):Int)-((bk:Nat):Int)=(((A++T).length-bk:Nat):Int):=by rw [List.length_map];lia
     try dsimp only
     rw [ei];exact⟨lf,_,_,_,rfl,rfl,SqL.of ((Same.refl H3) _ _ h3f),aw (bC (show(A++T).length-bk<(A++T).length by lia)),J _ _ (hb2 _ (List.getElem_mem _)) (Same.refl H3)⟩
   ·refine⟨_,rfl,_,_,rfl,rfl,(by show(0:Int)<4;decide),rfl,_,rfl,aJ (λ _=>?_) (λ _=>bL (J sg0 _ hs0 (Same.refl H3)))⟩;refine⟨_,rfl,_,_,rfl,rfl,⟨by decide,by decide⟩,_,_,rfl,rfl,(by show(0:Int)<9;decide),_,_,rfl,rfl,_,rfl,aJ (λ _=>?_) (λ _=>bL (J sg0 _ hs0 (Same.refl H3)))⟩;refine⟨_,rfl,_,rfl,lf,_,rfl,.inl (SqL.of ((Same.refl H3) _ _ h3f)),_,_,rfl,rfl,_,rfl,aJ (λ hb=>?_) (λ _=>J sg0 _ hs0 (Same.refl H3))⟩;have hbl:bk≤(A++T).length:=by
     have:=of_decide_eq_true hb;rw [List.length_map] at this;lia
    refine⟨_,rfl,_,rfl,lf,_,rfl,.inl (SqL.of ((Same.refl H3) _ _ h3f)),_,rfl,_,_,rfl,rfl,?_⟩;have ei:((((A++T).map vN).length:Nat):Int)-((bk:Nat):Int)=(((A++T).length-bk:Nat):Int):=by rw [List.length_map];lia
    try dsimp only
    rw [ei];exact⟨lf,_,_,_,rfl,rfl,SqL.of ((Same.refl H3) _ _ h3f),aw (bC (show(A++T).length-bk<(A++T).length by lia)),J _ _ (hb2 _ (List.getElem_mem _)) (Same.refl H3)⟩
  ·rintro σ H3 ⟨v6,v7,v8,T,rfl,hTl,hTb,h3f,kp⟩;rw [Int.toNat_natCast] at hTl;refine g1 _ _ ?_;clear g1;have naf:a≠lf:=af ha nf;refine⟨_,rfl,_,rfl,a,_,rfl,.inl (SqL.of (kp _ _ naf ha2)),_,rfl,lf,_,rfl,SqL.of h3f,λ l nl=>?_⟩;have ec:cutV ((A++T).map vN) (some (((A.map vN).length:Nat):Int)) none=T.map vN:=by
    rw [kI,List.length_map,<-List.map_drop,List.drop_left]
   try dsimp only
   rw [ec];have sl:=ak (o:=.lst (T.map vN)) nl;refine k l T _ (λ c o e=>sl _ _ (kp _ _ (af e nf) (s02 _ _ e))) ?_ upd_same hTl hTb;cases e:H l with
   |none=>rfl
   |some o=>rw [kp _ _ (af e nf) (s02 _ _ e)] at nl;cases nl
def ra (K:PySem.W.Frag):Sp:=λ vs H Q _=>∃(a:Addr) (ns:List Int) (f:Nat),vs=[.ref a,vN f]/\SqL K H a (ns.map V.int)/\∀(t lt lb:Addr) (T W:List Nat) (H':Hp),Same H H'->H' t=some (.tup [.ref lt,.ref lb])->H' lt=some (.lst (T.map vN))->H' lb=some (.lst (W.map vN))->1≤T.length->T.length≤64->W.length≤192->(∀b∈T,b<256)->(∀b∈W,b<256)->Q (.ref t) H'
abbrev tx:List Str:=["_law_script","_law_first","_law_cell","_law_wide","_law_size","_law_before"]
theorem scTextBy:FnScope tx ["_law_script","_law_first"] (defScope gb):=⟨rfl,rfl,rfl,by decide+kernel,rfl,by decide+kernel,by decide+kernel⟩
theorem oU {f fC fS fD:Addr}{fd fdC fdS fdD:FuncData}(F:Fn K mg "_law_text_by" gb ["_law_script","_law_first"] f fd)(Ce:Fn K mg "_law_cell_at" eg ["_law_script","_law_k"] fC fdC)(Si:Fn K mg "_law_signs" gF ["_law_cell","_law_size","_law_ahead"] fS fdS)(Dr:Fn K mg "_law_drawn" fh ["_law_seed","_law_k"] fD fdD)(X:Txt K mg):FnOk P w K mg base CX0 32 f fd ["_law_script","_law_first"] (ra K):=by
 have GC:=mS (P:=P) (w:=w) (base:=base) Ce X;have GS:=pS (P:=P) (w:=w) (base:=base) Si Dr X;refine F.F.ok scTextBy (λ vs H Q E h=>?_) (λ cdv A outer st H vs Q E hr h=>?_)
 ·obtain⟨a,ns,f,rfl,_⟩:=h;rfl
 ·obtain⟨a,ns,f,rfl,hS,k⟩:=h;have hr1:Room 1 _:=hr.mono (by decide);refine⟨_,ac (aj (i:=2) scTextBy.nd rfl (Or.inl rfl) (am GC hr1 (by rfl) Ce.m Ce.F.kp Ce.b .nil ap (aa (pv 0) (aa (pv 1) ad))))
   (ac (aj (i:=3) scTextBy.nd rfl (Or.inl rfl) (aL aN (aV (aa ae (aa (ai aQ (ai a8 (pv 2) ae) ae) (aa (ai aQ (ai a8 (pv 2) ae) ae) (aa ae ad))))) (ai aQ (pv 2) ae) (λ _ _=>rfl)))
   (ac (aj (i:=4) scTextBy.nd rfl (Or.inl rfl) (ai aA ae (ai aQ (ai a8 (pv 2) ae) ae)))
   (ac (aM (ar bh (ai aQ (ai a8 (pv 2) ae) ae) ae (ax _))
    (ac (aj (i:=3) scTextBy.nd rfl (Or.inl rfl) (ai aA ae (ai aQ (ai a8 (pv 2) ae) ae))) (ag (aj (i:=4) scTextBy.nd rfl (Or.inl rfl) (ai aA ae (ai aQ (ai a8 (pv 2) ae) ae))))) aB)
   (ac (aM (ar bh (ai aQ (ai a8 (pv 2) ae) ae) ae (ax _))
    (ac (aj (i:=3) scTextBy.nd rfl (Or.inl rfl) ae) (ag (aj (i:=4) scTextBy.nd rfl (Or.inl rfl) (ai aY ae (ai aQ (ai a8 (pv 2) ae) ae))))) aB)
   (ac (aj (i:=5) scTextBy.nd rfl (Or.inl rfl) (am GS hr (by rfl) Si.m Si.F.kp Si.b .nil ap (aa (am GC hr1 (by rfl) Ce.m Ce.F.kp Ce.b .nil ap (aa (pv 0) (aa (ai aA (pv 1) ae) ad))) (aa (pv 3) (aa (aV ad) ad)))))
   (ag (az (bB (aa (am GS hr (by rfl) Si.m Si.F.kp Si.b .nil ap (aa (am GC hr1 (by rfl) Ce.m Ce.F.kp Ce.b .nil ap (aa (pv 0) (aa (ai aA (pv 1) ae) ad))) (aa (pv 4) (aa (pv 5) ad)))) (aa (pv 5) ad)))))))))),?_⟩
  refine seq_g λ R1 g1=>?_
  refine⟨_,rfl,_,rfl,a,ns,f,rfl,hS,g1 _ _ ?_⟩;clear g1;generalize ns.getD f 0=c;refine seq_g λ R1 g1=>?_
  obtain⟨m,hm,em⟩:∃m:Nat,m≤30/\c/8%31=((m:Nat):Int):=⟨(c/8%31).toNat,by lia,by lia⟩;refine⟨_,rfl,_,_,rfl,rfl,⟨by decide,by decide⟩,_,_,rfl,rfl,(by show(0:Int)<31;decide),_,rfl,_,_,rfl,rfl,⟨by decide,by decide⟩,_,_,rfl,rfl,(by show(0:Int)<31;decide),(by show 4≤sizeLine;decide),λ l1 n1=>?_⟩
  try dsimp only at n1
  try dsimp only
  rw [em];obtain⟨wd,hwd,hat⟩:=sN m c;have s1:=ak (o:=.lst [V.int 0,V.int ((m:Nat):Int),V.int ((m:Nat):Int),V.int 0]) n1;have h11:(upd H l1 (.lst [V.int 0,V.int ((m:Nat):Int),V.int ((m:Nat):Int),V.int 0])) l1=some (.lst [V.int 0,vN m,vN m,V.int 0]):=upd_same;generalize upd H l1 (.lst [V.int 0,V.int ((m:Nat):Int),V.int ((m:Nat):Int),V.int 0])=H1 at*;refine⟨_,rfl,_,_,rfl,rfl,(by show(0:Int)<4;decide),l1,_,_,_,rfl,rfl,SqL.of h11,hat,g1 _ _ ?_⟩;clear g1;have hwd30:wd≤192:=by rcases hwd with h|h<;>lia
  refine seq_g λ R1 g1=>?_
  obtain⟨sz,hsz1,hsz2,esz⟩:∃m:Nat,1≤m/\m≤64/\(1:Int)+c/300%24=((m:Nat):Int):=⟨(1+c/300%24).toNat,by lia,by lia,by lia⟩;refine⟨_,rfl,_,_,rfl,rfl,⟨by decide,by decide⟩,_,_,rfl,rfl,(by show(0:Int)<24;decide),_,_,rfl,rfl,g1 _ _ ?_⟩;clear g1
  try dsimp only
  rw [esz];refine seq_g λ R1 g1=>?_
  have J:∀wd sz:Nat,wd≤192->1≤sz->sz≤64->R1 [some (.ref a),some (vN f),some (.int c),some (vN wd),some (vN sz),none] H1:=by
   intro wd sz hwd h1 h64;refine g1 _ _ ?_;clear g1;refine seq_g λ R2 g2=>?_
   have J2:∀wd sz:Nat,wd≤192->1≤sz->sz≤64->R2 [some (.ref a),some (vN f),some (.int c),some (vN wd),some (vN sz),none] H1:=by
    intro wd sz hwd h1 h64;refine g2 _ _ ?_;clear g2;have e1:((f:Nat):Int)+1=((f+1:Nat):Int):=by lia
    have e2:((f:Nat):Int)+2=((f+2:Nat):Int):=by lia
    refine seq_g λ R3 g3=>?_
    refine⟨_,rfl,_,rfl,_,_,rfl,rfl,?_⟩
    try dsimp only
    rw [e1];refine⟨a,ns,f+1,rfl,s1.seq hS,_,rfl,by decide,λ l2 n2=>?_⟩;have s2:=ak (o:=.lst []) n2;have h22:(upd H1 l2 (.lst [])) l2=some (.lst (([]:List Nat).map vN)):=upd_same;generalize upd H1 l2 (.lst [])=H2 at*;refine⟨_,wd,l2,[],rfl,h22,(λ _ h=>nomatch h),by decide,hwd,λ lb W H3 s3 nb hlb hWl hWb=>g3 _ _ ?_⟩;clear g3;have s13:=(s1.trans s2).trans s3;refine⟨_,rfl,_,rfl,_,_,rfl,rfl,?_⟩
    try dsimp only
    rw [e2];refine⟨a,ns,f+2,rfl,s13.seq hS,_,rfl,_,rfl,_,sz,lb,W,rfl,hlb,hWb,by lia,by lia,λ lt T H4 s4 nt hlt hTl hTb=>?_⟩;refine⟨_,rfl,(by show 2≤sizeLine;decide),λ t ntt=>?_⟩;have st:=ak (o:=.tup [V.ref lt,V.ref lb]) ntt;exact k t lt lb T W _ ((s13.trans s4).trans st) upd_same (st _ _ hlt) (st _ _ (s4 _ _ hlb)) (by lia) (by lia) (by lia) hTb hWb
   clear g2;obtain⟨q,hq9,eq⟩:∃m:Nat,m≤8/\c/64%9=((m:Nat):Int):=⟨(c/64%9).toNat,by lia,by lia⟩;refine⟨_,rfl,_,_,rfl,rfl,⟨by decide,by decide⟩,_,_,rfl,rfl,(by show(0:Int)<16;decide),rfl,_,rfl,aJ (λ _=>?_) (λ _=>J2 wd sz hwd h1 h64)⟩;refine⟨_,rfl,_,_,rfl,rfl,⟨by decide,by decide⟩,_,_,rfl,rfl,(by show(0:Int)<9;decide),_,_,rfl,rfl,?_⟩
   try dsimp only
   rw [eq,show(64:Int)-((q:Nat):Int)=((64-q:Nat):Int) by lia];exact J2 0 (64-q) (by decide) (by lia) (by lia)
  clear g1;obtain⟨q,hq33,eq⟩:∃m:Nat,m≤32/\c/64%33=((m:Nat):Int):=⟨(c/64%33).toNat,by lia,by lia⟩;obtain⟨q2,hq9,eq2⟩:∃m:Nat,m≤8/\c/64%9=((m:Nat):Int):=⟨(c/64%9).toNat,by lia,by lia⟩;refine⟨_,rfl,_,_,rfl,rfl,⟨by decide,by decide⟩,_,_,rfl,rfl,(by show(0:Int)<16;decide),rfl,_,rfl,aJ (λ _=>?_) (λ _=>J wd sz hwd30 hsz1 hsz2)⟩;refine⟨_,rfl,_,_,rfl,rfl,⟨by decide,by decide⟩,_,_,rfl,rfl,(by show(0:Int)<33;decide),_,_,rfl,rfl,?_⟩;refine⟨_,rfl,_,_,rfl,rfl,⟨by decide,by decide⟩,_,_,rfl,rfl,(by show(0:Int)<9;decide),_,_,rfl,rfl,?_⟩
  try dsimp only
  rw [eq,eq2,show(160:Int)+((q:Nat):Int)=((160+q:Nat):Int) by lia,show(1:Int)+((q2:Nat):Int)=((1+q2:Nat):Int) by lia];exact J (160+q) (1+q2) (by lia) (by lia) (by lia)
def rX:Sp:=λ vs H Q _=>∃(l:Addr) (ts:List Addr) (ps:List (Nat×Nat)),vs=[.ref l]/\H l=some (.lst (ts.map V.ref))/\Prs H ts ps/\(∀q∈ps,q.2≤24)/\tots ps≤4000/\Q (.str (txt (bitsP ps))) H
theorem scDigits:FnScope ["_law_parts_here","_law_found","_law_number","_law_size","_law_k"] ["_law_parts_here"] (defScope fZ):=⟨rfl,rfl,rfl,by decide+kernel,rfl,by decide+kernel,by decide+kernel⟩
theorem iK {f:Addr}{fd:FuncData}(F:Fn K mg "_law_digits" fZ ["_law_parts_here"] f fd)(X:Txt K mg):FnOk P w K mg base CX0 1 f fd ["_law_parts_here"] rX:=by
 refine F.F.ok scDigits (λ vs H Q E h=>?_) (λ cdv A outer st H vs Q E hr h=>?_)
 ·obtain⟨l,ts,ps,rfl,_⟩:=h;rfl
 ·obtain⟨l,ts,ps,rfl,hl,hprs,h24,htot,k⟩:=h;refine⟨_,ac (aj (i:=1) scDigits.nd rfl (Or.inl rfl) bY)
   (ac (aS PassesOwn.never rfl (bf (pv 0)) (gY rfl (bH (aF (i:=2) scDigits.nd rfl (Or.inl rfl)) (bH (aF (i:=3) scDigits.nd rfl (Or.inl rfl)) ee)))
    (ag (aS PassesOwn.never rfl (bw rfl X.range (aa (pv 3) ad)) (aF (i:=4) scDigits.nd rfl (Or.inl rfl))
     (ag (aj (i:=1) scDigits.nd rfl (Or.inl rfl) (ai cH (pv 1) (aL vc bY (ai aQ (ai a8 (pv 2) (ai cQ ae (ai aY (ai aY (pv 3) ae) (pv 4)))) ae) (λ _ _=>rfl))))))))
   (ag (az (pv 1)))),?_⟩
  have htl:=hprs.len;refine seq_g λ R1 g1=>g1 _ _ ?_
  clear g1;refine seq_g λ R1 g1=>?_
  refine⟨_,rfl,l,rfl,⟨_,SqL.of hl⟩,bE (D:=⟨_,_,λ _ _=>False,λ _ _=>False⟩) (K:=K) (a:=l) (xs:=ts.map V.ref) (λ i σ H2=>∃v2 v3 v4:Option V,σ=[some (.ref l),some (.str (txt (bitsP (ps.take i)))),v2,v3,v4]/\H2=H)
   ⟨none,none,none,?_,rfl⟩ (λ i σ H2 _ ⟨_,_,_,_,e⟩=>by rw [e];exact SqL.of hl) ?_ ?_⟩
  ·show [some (V.ref l),some (V.str (Str.ofString "")),none,none,none]=_;rw [sB];rfl
  ·clear g1;rintro i y σ H2 hi ⟨v2,v3,v4,rfl,rfl⟩;obtain⟨t,ht,rfl⟩:=dA hi;obtain⟨q,hq,htt⟩:=hprs.at ht;have hs:=h24 q (List.mem_of_getElem? hq);have htk:tots (ps.take i)+q.2≤4000:=by
    have e:tots ps=tots (ps.take (i+1))+tots (ps.drop (i+1)):=by rw [<-aC,List.take_append_drop]
    rw [cY hq,aC] at e;have:tots [q]=q.2:=by simp [tots]
    lia
   refine⟨t,_,rfl,SqT.of htt,rfl,_,_,rfl,_,_,rfl,rfl,?_⟩;refine⟨_,rfl,((q.2:Nat):Int),rfl,by lia,by lia,bc (D:=⟨_,_,λ _ _=>False,λ _ _=>False⟩) (lo:=0) (n:=((q.2:Nat):Int).toNat) (λ j σ H3=>∃v4:Option V,σ=[some (.ref l),some (.str (txt (bitsP (ps.take i)++(dig q.1 q.2).take j))),some (vN q.1),some (vN q.2),v4]/\H3=H2)
    ⟨v4,by rw [List.take_zero,List.append_nil];rfl,rfl⟩ ?_ ?_⟩
   ·rintro j σ H3 hj ⟨v4,rfl,rfl⟩;rw [Int.toNat_natCast] at hj;have e1:((q.2:Nat):Int)-1-((0:Int)+((j:Nat):Int))=((q.2-1-j:Nat):Int):=by lia
    have hpw:2^(q.2-1-j)≤2^24:=Nat.pow_le_pow_right (by decide) (by lia);have hpos:=pow_pos2 (q.2-1-j);have e2:(1:Int)*2^((q.2-1-j:Nat):Int).toNat=((2^(q.2-1-j):Nat):Int):=by rw [Int.one_mul,Int.toNat_natCast];simp
    have e3:((q.1:Nat):Int)/((2^(q.2-1-j):Nat):Int)=((q.1/2^(q.2-1-j):Nat):Int):=rfl;refine⟨_,rfl,_,rfl,_,rfl,_,_,rfl,rfl,_,rfl,_,_,rfl,rfl,?_⟩
    try dsimp only
    rw [e1];refine⟨_,_,rfl,rfl,⟨by lia,by lia,by decide⟩,?_⟩
    try dsimp only
    rw [e2];refine⟨_,_,rfl,rfl,⟨by lia,by show((2^(q.2-1-j):Nat):Int)<1073741824;lia⟩,?_⟩
    try dsimp only
    rw [e3];refine⟨_,_,rfl,rfl,(by show(0:Int)<2;decide),_,_,sgn (decide (q.1/2^(q.2-1-j)%2=1)),rfl,rfl,bS (by decide+kernel),?_,_,_,rfl,rfl,?_,?_⟩
    ·rw [va];exact tZ (q.1/2^(q.2-1-j))
    ·show(txt _).length+1≤sizeLine;rw [aI,List.length_append,ay,List.length_take,dig_length];exact bS (by lia)
    ·have e4:txt (bitsP (ps.take i)++(dig q.1 q.2).take j)++(⟨#[sgn (decide (q.1/2^(q.2-1-j)%2=1))]⟩:Str)=txt (bitsP (ps.take i)++(dig q.1 q.2).take (j+1)):=by
      rw [jL _ _ _ hj,<-List.append_assoc];exact cD _ [decide (q.1/2^(q.2-1-j)%2=1)]
     try dsimp only
     rw [e4];exact⟨_,rfl,rfl⟩
   ·rintro σ H3 ⟨v4,rfl,rfl⟩;rw [Int.toNat_natCast,List.take_of_length_le (l:=dig q.1 q.2) (by rw [dig_length];exact Nat.le_refl _)];have e5:bitsP (ps.take (i+1))=bitsP (ps.take i)++dig q.1 q.2:=by
     rw [cY hq,bU,c4];show _++(_++[])=_;rw [List.append_nil]
    rw [e5];exact⟨_,_,_,rfl,rfl⟩
  ·rintro σ H2 ⟨v2,v3,v4,rfl,rfl⟩;rw [List.length_map,htl,List.take_length];exact g1 _ _ ⟨_,rfl,k⟩
def sC:Sp:=λ vs H Q _=>∃bs:List Bool,vs=[.str (txt bs)]/\bs.length≤4000/\∀(l:Addr) (R:List Nat) (H':Hp),H l=none->RowOf (num bs) bs.length R->H' l=some (.lst (R.map vN))->Same H H'->Q (.ref l) H'
theorem scRowOf:FnScope ["_law_digits_here","_law_found","_law_filled","_law_k","_law_number","_law_digit"] ["_law_digits_here"] (defScope gn):=⟨rfl,rfl,rfl,by decide+kernel,rfl,by decide+kernel,by decide+kernel⟩
theorem jG {f:Addr}{fd:FuncData}(F:Fn K mg "_law_row_of" gn ["_law_digits_here"] f fd)(X:Txt K mg):FnOk P w K mg base CX0 1 f fd ["_law_digits_here"] sC:=by
 refine F.F.ok scRowOf (λ vs H Q E h=>?_) (λ cdv A outer st H vs Q E hr h=>?_)
 ·obtain⟨bs,rfl,_⟩:=h;rfl
 ·obtain⟨bs,rfl,hz,k⟩:=h;refine⟨_,ac (aj (i:=1) scRowOf.nd rfl (Or.inl rfl) (aV ad))
   (ac (aj (i:=2) scRowOf.nd rfl (Or.inl rfl) (ai cH (pv 0) (ai lP bY (ai aQ (ai aY ae (ai aQ (aq bQ (by rfl) X.len PySem.boot_len (aa (pv 0) ad)) ae)) ae))))
   (ac (aS PassesOwn.never rfl (iQ rfl X.range (aa ae (aa (aq bQ (by rfl) X.len PySem.boot_len (aa (pv 2) ad)) (aa ae ad)))) (aF (i:=3) scRowOf.nd rfl (Or.inl rfl))
    (ac (aj (i:=4) scRowOf.nd rfl (Or.inl rfl) ae)
    (ac (aS PassesOwn.never rfl (uU (cT pX (pv 2) (cN (pv 3)) (cN (ai aA (pv 3) ae)))) (aF (i:=5) scRowOf.nd rfl (Or.inl rfl))
     (ag (aj (i:=4) scRowOf.nd rfl (Or.inl rfl) (ai aA (ai cy ae (pv 4)) (bj oR (by rfl) X.int PyProof.Rows.boot_int (aa (dJ bh (pv 5) bY (ax _)) ad))))))
    (ag (aD (b7 PySem.F.plainAttrs_list PySem.F.slot_list_append PySem.F.type_list_append aO (pv 1) (aa (pv 4) ad)))))))
   (ag (az (pv 1))))),?_⟩
  obtain⟨pad,hp7,hpm,hpad⟩:∃pad:Nat,pad≤7/\bs.length+pad=8*((bs.length+7)/8)/\((8:Int)-((bs.length:Nat):Int)%8)%8=(pad:Int):=⟨7-(bs.length+7)%8,by lia,by lia,by lia⟩;generalize hm:(bs.length+7)/8=m at*;refine seq_g λ R2 g2=>⟨Nat.zero_le _,λ l hl=>g2 _ _ ?_⟩
  clear g2;refine seq_g λ R1 g1=>?_
  refine⟨_,rfl,_,rfl,txt bs,rfl,bS (by rw [aI];lia),_,_,rfl,rfl,(by show(0:Int)<8;decide),_,_,rfl,rfl,_,_,rfl,rfl,(by show(0:Int)<8;decide),?_⟩
  try dsimp only
  rw [aI,hpad,uZ];refine⟨_,_,rfl,rfl,vi pad hp7,_,_,rfl,rfl,?_,?_⟩
  ·rw [m6 pad hp7,aI,aI,List.length_replicate];exact bS (by lia)
  try dsimp only
  rw [m6 pad hp7,cD];refine g1 _ _ ?_;clear g1;have hfl:(bs++List.replicate pad false).length=8*m:=by rw [List.length_append,List.length_replicate];exact hpm
  have hfn:num (bs++List.replicate pad false)=num bs*2^pad:=by rw [b9,ic,List.length_replicate,Nat.add_zero]
  generalize bs++List.replicate pad false=fs at*;refine seq_g λ R3 g3=>?_
  have sm8:=vF m (by lia);refine⟨_,rfl,txt fs,rfl,bS (by rw [aI];lia),0,_,8,m,rfl,by decide,?_,?_,PyProof.noPylong_small (by decide),gj (D:=⟨_,_,λ _ _=>False,λ _ _=>False⟩) (lo:=0) (c:=8) (n:=m)
   (λ i σ H2=>∃(B:List Nat) (v3 v4 v5:Option V),σ=[some (.str (txt bs)),some (.ref l),some (.str (txt fs)),v3,v4,v5]/\B.length=i/\(∀b∈B,b<256)/\val B=num (fs.take (8*i))/\H2 l=some (.lst (B.map vN))/\Same H H2)
   ⟨[],none,none,none,rfl,rfl,(λ _ h=>nomatch h),by rw [Nat.mul_zero,List.take_zero];rfl,upd_same,ak hl⟩ ?_ ?_⟩
  ·rw [aI,hfl];exact sm8.1
  ·rw [aI,hfl];exact sm8.2
  ·clear g3;rintro i σ H2 hi ⟨B,v3,v4,v5,rfl,hBl,hBb,hBv,hl2,sm⟩;have ei:(0:Int)+(i:Int)*8=((8*i:Nat):Int):=by lia
   rw [ei];refine seq_g λ R4 g4=>g4 _ _ ?_
   clear g4;refine seq_g λ R5 g5=>?_
   have e8:((8*i:Nat):Int)+8=((8*i+8:Nat):Int):=by lia
   refine⟨_,rfl,_,rfl,_,rfl,_,rfl,_,_,rfl,rfl,_,rfl,txt fs,rfl,bS (by rw [aI];lia),?_⟩
   try dsimp only
   rw [e8,ii (by lia) (by lia),show 8*i+8-8*i=8 by lia];have hpl:((fs.drop (8*i)).take 8).length=8:=by rw [List.length_take,List.length_drop];lia
   have hpt:fs.take (8*(i+1))=fs.take (8*i)++(fs.drop (8*i)).take 8:=by rw [show 8*(i+1)=8*i+8 by lia,List.take_add]
   generalize (fs.drop (8*i)).take 8=ps at*;refine⟨_,rfl,sR (D:=⟨_,_,λ _ _=>False,λ _ _=>False⟩) (y:=txt ps) (λ j σ H3=>∃v5:Option V,σ=[some (.str (txt bs)),some (.ref l),some (.str (txt fs)),some (vN (8*i)),some (vN (num (ps.take j))),v5]/\H3=H2)
    ⟨v5,rfl,rfl⟩ ?_ ?_⟩
   ·rintro j ch σ H3 hj ⟨u5,rfl,rfl⟩;obtain⟨b,hb,ech⟩:=tw hj;rw [ech];refine⟨_,rfl,_,_,rfl,rfl,.inl ⟨by decide,by decide⟩,_,rfl,rfl,.inr ⟨_,rfl,?_⟩⟩;rw [vd b];refine⟨_,_,rfl,rfl,some (V.str (txt [b])),?_,rfl⟩;have e1:(2:Int)*((num (ps.take j):Nat):Int)+(if b=true then 1 else 0)=((num (ps.take (j+1)):Nat):Int):=by
     rw [List.take_add_one,hb];show _=((num (ps.take j++[b]):Nat):Int);rw [num_snoc];cases b<;>simp<;>lia
    try dsimp only
    rw [e1];rfl
   ·rintro σ H3 ⟨u5,rfl,rfl⟩;refine g5 _ _ ?_;clear g5;rw [qr,List.take_length];have hlt:=num_lt ps;rw [hpl] at hlt;refine⟨_,rfl,.inl ⟨rfl,_,SqL.of hl2⟩,_,rfl,l,_,_,rfl,rfl,hl2,?_,B++[num ps],_,_,_,rfl,by rw [List.length_append,hBl];rfl,λ x hx=>?_,?_,?_,λ c o e=>?_⟩
    ·rw [List.length_map];exact Nat.lt_of_lt_of_le (show B.length<100000 by lia) (bS (Nat.le_refl _))
    ·rcases List.mem_append.mp hx with z|z
     ·exact hBb x z
     ·rw [List.mem_singleton.mp z];exact hlt
    ·rw [val_snoc,hBv,hpt,b9,hpl]
    ·rw [upd_same,List.map_append];rfl
    ·rw [upd_ne (af e hl)];exact sm _ _ e
  ·rintro σ H2 ⟨B,v3,v4,v5,rfl,hBl,hBb,hBv,hl2,sm⟩;refine g3 _ _ ?_;refine⟨_,rfl,k l B H2 hl ⟨by rw [hBl,hm],hBb,?_⟩ hl2 sm⟩;rw [hBv,hBl,<-hfl,List.take_length,hfn,hfl];congr 2;lia
end
def szs (S:List Nat)(p m n:Nat):List Nat:=0::(List.range n).map λ i=>al S p (i+1) m
theorem jm (S:List Nat)(p m n:Nat):(szs S p m n).length=n+1:=by simp [szs]
theorem kF (S:List Nat)(p m n:Nat):szs S p m (n+1)=szs S p m n++[al S p (n+1) m]:=by
 unfold szs;rw [List.range_succ,List.map_append];rfl
theorem ql (S:List Nat)(p m:Nat):∀n,(szs S p m n)[(lc S p m n).1]?=some (lc S p m n).2/\(∀s∈szs S p m n,s≤(lc S p m n).2)/\∀i<(lc S p m n).1,(szs S p m n)[i]?≠some (lc S p m n).2
 |0=>⟨rfl,λ s h=>by rw [List.mem_singleton.mp (show s∈ [0] from h)];exact Nat.zero_le _,λ i h=>absurd h (Nat.not_lt_zero _)⟩
 |n+1=>by
  obtain⟨h1,h2,h3⟩:=ql S p m n;have hl:=jm S p m n;rw [kF];by_cases c:(lc S p m n).2<al S p (n+1) m
  ·have e:lc S p m (n+1)=(n+1,al S p (n+1) m):=by rw [lc,if_pos c]
   rw [e];refine⟨?_,λ s hs=>?_,λ i hi=>?_⟩
   ·show(szs S p m n++[al S p (n+1) m])[n+1]?=_;rw [<-hl,List.getElem?_concat_length]
   ·rcases List.mem_append.mp hs with hs|hs
    ·have:=h2 s hs;show s≤al S p (n+1) m;lia
    ·rw [List.mem_singleton.mp hs];exact Nat.le_refl _
   ·have hi':i<n+1:=hi;rw [List.getElem?_append_left (by lia)];intro z;have:=h2 _ (List.mem_of_getElem? z);exact absurd c (by show¬(lc S p m n).2<al S p (n+1) m;lia)
  ·have e:lc S p m (n+1)=lc S p m n:=by rw [lc,if_neg c]
   rw [e];have hlt:(lc S p m n).1<(szs S p m n).length:=(List.getElem?_eq_some_iff.mp h1).1;refine⟨by rw [List.getElem?_append_left hlt];exact h1,λ s hs=>?_,λ i hi=>?_⟩
   ·rcases List.mem_append.mp hs with hs|hs
    ·exact h2 s hs
    ·rw [List.mem_singleton.mp hs];lia
   ·rw [List.getElem?_append_left (by lia)];exact h3 i hi
section
variable {P : Program} {w : World} {K : PySem.W.Frag} {mg : Str -> Option Value} {base : Heap} {B D : Addr}
def pd:Sp:=λ vs H Q _=>∃(lt lw:Addr) (T W:List Nat),vs=[.ref lt,.ref lw]/\H lt=some (.lst (T.map vN))/\H lw=some (.lst (W.map vN))/\W.length≤192/\T.length≤64/\∀(l:Addr) (Pp:List Pc) (H':Hp),Same H H'->PL H' l Pp->Walk (W++T) W.length Pp (W++T).length->Q (.ref l) H'
abbrev p6:List Str:=["_law_text","_law_before","_law_signs_here","_law_place","_law_found","_law_most","_law_sizes","_law_back","_law_best"]
theorem scLPieces:FnScope p6 ["_law_text","_law_before"] (defScope eZ):=⟨rfl,rfl,rfl,by decide+kernel,rfl,by decide+kernel,by decide+kernel⟩
theorem lW {f fA:Addr}{fd fdA:FuncData}(F:Fn K mg "_law_pieces" eZ ["_law_text","_law_before"] f fd)(LA:Fn K mg "_law_alike" eV ["_law_signs_here","_law_place","_law_back","_law_most"] fA fdA)(T:Txt K mg):FnOk P w K mg base CX0 31 f fd ["_law_text","_law_before"] pd:=by
 have GA:=oz (P:=P) (w:=w) (base:=base) LA;refine F.F.ok scLPieces (λ vs H Q E h=>?_) (λ cdv A outer st H vs Q E hr h=>?_)
 ·obtain⟨lt,lw,T,W,rfl,_⟩:=h;rfl
 ·obtain⟨lt,lw,Tx,W,rfl,ht0,hw0,hW,hT,k⟩:=h;have hn:=hr.hd (by decide);have hr1:Room 1 _:=hr.mono (by decide);refine⟨_,ac (aj (i:=2) scLPieces.nd rfl (Or.inl rfl) (ai fz (pv 1) (pv 0)))
   (ac (aj (i:=3) scLPieces.nd rfl (Or.inl rfl) (aq ao (by rfl) T.len PySem.boot_len (aa (pv 1) ad)))
   (ac (aj (i:=4) scLPieces.nd rfl (Or.inl rfl) (aV ad))
   (ac (bF PassesOwn.never (ar df (pv 3) (aq ao (by rfl) T.len PySem.boot_len (aa (pv 2) ad)) (ax _))
    (ac (aj (i:=5) scLPieces.nd rfl (Or.inl rfl) (aq (cC hn) (by rfl) T.min PyProof.Rows.boot_min (aa ae (aa (ai aY (aq ao (by rfl) T.len PySem.boot_len (aa (pv 2) ad)) (pv 3)) ad))))
    (ac (aj (i:=6) scLPieces.nd rfl (Or.inl rfl) (aV (aa ae ad)))
    (ac (aS PassesOwn.never rfl (dC (by rfl) T.range (aa ae (aa (ai aA (aq (cC hn) (by rfl) T.min PyProof.Rows.boot_min (aa ae (aa (pv 3) ad))) ae) ad))) (aF (i:=7) scLPieces.nd rfl (Or.inl rfl))
     (ag (aD (b7 PySem.F.plainAttrs_list PySem.F.slot_list_append PySem.F.type_list_append aO (pv 6) (aa (am GA hr1 (by rfl) LA.m LA.F.kp LA.b .nil ap (aa (pv 2) (aa (pv 3) (aa (pv 7) (aa (pv 5) ad))))) ad)))))
    (ac (aj (i:=8) scLPieces.nd rfl (Or.inl rfl) (aq (iJ hn) (by rfl) T.max PyProof.Rows.boot_max (aa (pv 6) ad)))
    (ag (aM (ar df (pv 8) ae (ax _))
     (ac (aD (b7 PySem.F.plainAttrs_list PySem.F.slot_list_append PySem.F.type_list_append aO (pv 4) (aa (bB (aa bY (aa (aL aN (pv 2) (pv 3) (λ _ _=>rfl)) ad))) ad)))
      (ag (aj (i:=3) scLPieces.nd rfl (Or.inl rfl) (ai aA (pv 3) ae))))
     (ac (aD (b7 PySem.F.plainAttrs_list PySem.F.slot_list_append PySem.F.type_list_append aO (pv 4) (aa (bB (aa bY (aa (b7 PySem.F.plainAttrs_list PySem.F.slot_list_index PySem.F.type_list_index rC (pv 6) (aa (pv 8) ad)) (aa (pv 8) ad)))) ad)))
      (ag (aj (i:=3) scLPieces.nd rfl (Or.inl rfl) (ai aA (pv 3) (pv 8))))))))))))
   (ag (az (pv 4)))))),?_⟩
  refine seq_g λ R1 g1=>?_
  refine⟨_,rfl,_,rfl,lw,lt,_,_,rfl,rfl,hw0,ht0,dj (by rw [List.length_map,List.length_map];lia),λ l3 n3=>g1 _ _ ?_⟩;clear g1
  try dsimp only
  rw [<-List.map_append];have s3:=ak (o:=.lst ((W++Tx).map vN)) n3;have hS3:(upd H l3 (.lst ((W++Tx).map vN))) l3=some (.lst ((W++Tx).map vN)):=upd_same;generalize hS:W++Tx=S at*;have hSl:S.length=W.length+Tx.length:=by rw [<-hS,List.length_append]
  generalize upd H l3 (.lst (S.map vN))=H3 at*;refine seq_g λ R1 g1=>?_
  refine⟨_,rfl,lw,_,rfl,.inl (SqL.of (s3 _ _ hw0)),g1 _ _ ?_⟩;clear g1
  try dsimp only
  rw [List.length_map];refine seq_g λ R1 g1=>?_
  refine⟨by decide,λ l5 n5=>g1 _ _ ?_⟩;clear g1;have s5:=ak (o:=.lst []) n5;have n5':H l5=none:=none_of s3 n5;have hS5:=s5 _ _ hS3;have n35:l3≠l5:=af hS3 n5;have s05:=s3.trans s5;refine seq_g λ R1 g1=>?_
  refine⟨λ n σ H2=>∃(q:Nat) (Pp:List Pc) (ts:List Addr) (v5 v6 v7 v8:Option V),n=S.length-q/\σ=[some (.ref lt),some (.ref lw),some (.ref l3),some (vN q),some (.ref l5),v5,v6,v7,v8]/\q≤S.length/\Walk S W.length Pp q/\H2 l3=some (.lst (S.map vN))/\H2 l5=some (.lst (ts.map V.ref))/\PT' H2 ts Pp/\Same H H2,
   ⟨S.length-W.length,W.length,[],[],none,none,none,none,rfl,rfl,by lia,rfl,hS5,upd_same,⟨rfl,λ i b y h=>by simp at h⟩,s05⟩,?_⟩
  rintro n σ H2 ⟨q,Pp,ts,v5,v6,v7,v8,rfl,rfl,hq,hw,h3,h5,hts,sm⟩;refine⟨_,rfl,_,rfl,l3,_,rfl,.inl (SqL.of h3),_,_,rfl,rfl,_,rfl,aJ (λ hc=>?_) (λ hc=>?_)⟩
  ·have hq2:q<S.length:=by have:=of_decide_eq_true hc;rw [List.length_map] at this;lia
   clear g1;refine⟨λ σ' H'=>∃(q':Nat) (Pp:List Pc) (ts:List Addr) (v5 v6 v7 v8:Option V),q<q'/\σ'=[some (.ref lt),some (.ref lw),some (.ref l3),some (vN q'),some (.ref l5),v5,v6,v7,v8]/\q'≤S.length/\Walk S W.length Pp q'/\H' l3=some (.lst (S.map vN))/\H' l5=some (.lst (ts.map V.ref))/\PT' H' ts Pp/\Same H H',
    λ σ' H' ⟨q',Pp,ts,v5,v6,v7,v8,hlt,z1,z2,z⟩=>⟨S.length-q',by lia,q',Pp,ts,v5,v6,v7,v8,rfl,z1,z2,z⟩,?_⟩
   have hlen:Pp.length≤S.length:=by have:=bW hw;lia
   have hpz:=fF hq2;have hws:=ci hw hq2;have htl:=hts.1;have hm1:1≤most S q/\q+most S q≤S.length:=by unfold most;lia
   refine seq_g λ R2 g2=>?_
   have em:(if(((S.map vN).length:Nat):Int)-((q:Nat):Int)<18 then(((S.map vN).length:Nat):Int)-((q:Nat):Int) else 18)=((most S q:Nat):Int):=by
    unfold most;rw [List.length_map]
    split<;>lia
   refine⟨_,rfl,l3,_,rfl,.inl (SqL.of h3),_,rfl,_,_,rfl,rfl,_,_,rfl,g2 _ _ ?_⟩;clear g2
   try dsimp only
   rw [em];refine seq_g λ R2 g2=>?_
   refine⟨(by show 1≤sizeLine;decide),λ l6 n6=>g2 _ _ ?_⟩;clear g2;have s6:=ak (o:=.lst [V.int 0]) n6;have h66:(upd H2 l6 (.lst [V.int 0])) l6=some (.lst ((szs S q (most S q) 0).map vN)):=upd_same;have n36:l3≠l6:=af h3 n6;have h36:=s6 _ _ h3;generalize upd H2 l6 (.lst [V.int 0])=H6 at*;refine seq_g λ R2 g2=>?_
   have ef:(if((q:Nat):Int)<255 then((q:Nat):Int) else 255)=((far q:Nat):Int):=by
    unfold far
    split<;>lia
   refine⟨_,rfl,_,_,rfl,?_⟩
   try dsimp only
   rw [ef];have hfar:far q≤255/\far q≤q:=by unfold far;lia
   refine⟨_,_,rfl,rfl,1,((far q:Nat):Int)+1,rfl,⟨by lia,by lia,by lia,by lia⟩,?_⟩;have en:(((far q:Nat):Int)+1-1).toNat=far q:=by lia
   try dsimp only
   rw [en];refine bc (D:=⟨_,_,λ _ _=>False,λ _ _=>False⟩) (lo:=1) (n:=far q) (λ j σ H7=>∃v7:Option V,σ=[some (.ref lt),some (.ref lw),some (.ref l3),some (vN q),some (.ref l5),some (vN (most S q)),some (.ref l6),v7,v8]/\H7 l6=some (.lst ((szs S q (most S q) j).map vN))/\∀c o,c≠l6->H6 c=some o->H7 c=some o)
    ⟨v7,rfl,h66,λ _ _ _ e=>e⟩ ?_ ?_
   ·clear g2;rintro j σ H7 hj ⟨v7,rfl,h76,kp⟩;have eb:(1:Int)+((j:Nat):Int)=((j+1:Nat):Int):=by lia
    try dsimp only
    rw [eb];have h73:=kp _ _ n36 h36;refine⟨_,rfl,.inl ⟨rfl,_,SqL.of h76⟩,_,rfl,_,rfl,_,rfl,_,rfl,l3,S,q,j+1,most S q,rfl,h73,by lia,hm1.2,?_⟩;refine⟨l6,_,_,rfl,rfl,h76,aU (by rw [List.length_map,jm];lia),_,rfl,?_,λ c o n e=>?_⟩
    ·rw [upd_same,kF,List.map_append];rfl
    ·rw [upd_ne n];exact kp _ _ n e
   ·rintro σ H7 ⟨v7,rfl,h76,kp⟩;refine g2 _ _ ?_;clear g2;obtain⟨z1,z2,z3⟩:=ql S q (most S q) (far q);have eL:lc S q (most S q) (far q)=lcAt S q:=rfl;rw [eL] at z1 z2 z3;have s27:∀c o,H2 c=some o->H7 c=some o:=λ c o e=>kp _ _ (af e n6) (s6 _ _ e)
    have h73:=s27 _ _ h3;have h75:=s27 _ _ h5;have hts7:=hts.keep λ a xs e=>s27 _ _ e
    have sm7:Same H H7:=λ c o e=>s27 _ _ (sm _ _ e)
    have hlL:=jm S q (most S q) (far q);refine seq_g λ R2 g2=>?_
    refine⟨_,rfl,l6,(szs S q (most S q) (far q)).map (λ b=>((b:Nat):Int)),rfl,by rw [<-bV];exact SqL.of h76,by rw [List.length_map];lia,λ v hv hall=>g2 _ _ ?_⟩;clear g2;have ev:v=(((lcAt S q).2:Nat):Int):=by
     obtain⟨b,hb,rfl⟩:=List.mem_map.mp hv;have q1:=z2 b hb;have q2:=hall (((lcAt S q).2:Nat):Int) (List.mem_map.mpr ⟨_,List.mem_of_getElem? z1,rfl⟩);lia
    subst ev;refine⟨_,rfl,_,_,rfl,rfl,_,rfl,aJ (λ h=>?_) (λ h=>?_)⟩
    ·have h':¬3≤(lcAt S q).2:=by have:=of_decide_eq_true h;lia
     have ep:pcAt S q=.sg S[q]:=by unfold pcAt;rw [if_neg h'];simp [List.getD,hq2]
     rw [ep] at hws hpz;refine seq_g λ R2 g2=>?_
     refine⟨_,rfl,.inl ⟨rfl,_,SqL.of h75⟩,_,rfl,_,rfl,l3,_,_,_,rfl,rfl,SqL.of h73,aw (bC hq2),(by show 2≤sizeLine;decide),λ t nt=>?_⟩;have st:=ak (o:=.tup [V.str (Str.ofString "sign"),vN S[q]]) nt;have htt:(upd H7 t (.tup [V.str (Str.ofString "sign"),vN S[q]])) t=some (.tup (itm (.sg S[q]))):=upd_same;have h85:=st _ _ h75;have h83:=st _ _ h73;generalize upd H7 t (.tup [V.str (Str.ofString "sign"),vN S[q]])=H8 at*;refine⟨l5,_,_,rfl,rfl,h85,aU (by rw [List.length_map];lia),g2 _ _ ?_⟩;clear g2;have kT:∀c xs,H8 c=some (.tup xs)->(upd H8 l5 (.lst (ts.map V.ref++[V.ref t]))) c=some (.tup xs):=λ c xs e=>by
      rw [upd_ne (λ z=>by rw [z,h85] at e;cases e)];exact e
     have e1:((q:Nat):Int)+1=((q+1:Nat):Int):=by lia
     refine⟨_,rfl,_,_,rfl,rfl,q+1,Pp++[.sg S[q]],ts++[t],some (vN (most S q)),some (.ref l6),v7,some (vN (lcAt S q).2),by lia,?_,by lia,hws,?_,by rw [upd_same,List.map_append];rfl,?_,λ c o e=>?_⟩
     ·try dsimp only
      rw [e1];rfl
     ·rw [upd_ne n35];exact h83
     ·exact((hts7.keep λ a xs e=>st _ _ e).keep kT).snoc (kT _ _ htt)
     ·rw [upd_ne (af e n5')];exact st _ _ (sm7 _ _ e)
    ·have h':3≤(lcAt S q).2:=by
      have h2:¬(decide ((((lcAt S q).2:Nat):Int)<3)=true):=h;have:¬((((lcAt S q).2:Nat):Int)<3):=λ z=>h2 (decide_eq_true z)
      lia
     have ep:pcAt S q=.cp (lcAt S q).1 (lcAt S q).2:=by unfold pcAt;rw [if_pos h']
     rw [ep] at hws hpz;have hz2:q+(lcAt S q).2≤S.length:=hpz.2;refine seq_g λ R2 g2=>?_
     refine⟨_,rfl,.inl ⟨rfl,_,SqL.of h75⟩,_,rfl,.inl ⟨rfl,_,SqL.of h76⟩,_,rfl,l6,(szs S q (most S q) (far q)).map (λ b=>((b:Nat):Int)),(((lcAt S q).2:Nat):Int),(lcAt S q).1,rfl,rfl,by rw [<-bV];exact h76,by rw [List.getElem?_map,z1];rfl,λ i hi z=>?_,_,rfl,(by show 3≤sizeLine;decide),λ t nt=>?_⟩
     ·rw [List.getElem?_map] at z;cases e:(szs S q (most S q) (far q))[i]? with
      |none=>rw [e] at z;cases z
      |some y=>
       rw [e] at z;have:((y:Nat):Int)=(((lcAt S q).2:Nat):Int):=Option.some.inj z;exact z3 i hi (by rw [e,show y=(lcAt S q).2 by lia])
     have st:=ak (o:=.tup [V.str (Str.ofString "copy"),vN (lcAt S q).1,vN (lcAt S q).2]) nt;have htt:(upd H7 t (.tup [V.str (Str.ofString "copy"),vN (lcAt S q).1,vN (lcAt S q).2])) t=some (.tup (itm (.cp (lcAt S q).1 (lcAt S q).2))):=upd_same;have h85:=st _ _ h75;have h83:=st _ _ h73;generalize upd H7 t (.tup [V.str (Str.ofString "copy"),vN (lcAt S q).1,vN (lcAt S q).2])=H8 at*;refine⟨l5,_,_,rfl,rfl,h85,aU (by rw [List.length_map];lia),g2 _ _ ?_⟩;clear g2;have kT:∀c xs,H8 c=some (.tup xs)->(upd H8 l5 (.lst (ts.map V.ref++[V.ref t]))) c=some (.tup xs):=λ c xs e=>by
      rw [upd_ne (λ z=>by rw [z,h85] at e;cases e)];exact e
     have e1:((q:Nat):Int)+(((lcAt S q).2:Nat):Int)=((q+(lcAt S q).2:Nat):Int):=by lia
     refine⟨_,rfl,_,rfl,_,_,rfl,rfl,q+(lcAt S q).2,Pp++[.cp (lcAt S q).1 (lcAt S q).2],ts++[t],some (vN (most S q)),some (.ref l6),v7,some (vN (lcAt S q).2),by lia,?_,hz2,hws,?_,by rw [upd_same,List.map_append];rfl,?_,λ c o e=>?_⟩
     ·try dsimp only
      rw [e1];rfl
     ·rw [upd_ne n35];exact h83
     ·exact((hts7.keep λ a xs e=>st _ _ e).keep kT).snoc (kT _ _ htt)
     ·rw [upd_ne (af e n5')];exact st _ _ (sm7 _ _ e)
  ·have hq2:q=S.length:=by
    have h2:¬(decide (((q:Nat):Int)<(((S.map vN).length:Nat):Int))=true):=hc;have:¬(((q:Nat):Int)<(((S.map vN).length:Nat):Int)):=λ z=>h2 (decide_eq_true z)
    rw [List.length_map] at this;lia
   subst hq2;exact g1 _ _ ⟨_,rfl,k l5 Pp H2 sm ⟨ts,h5,hts⟩ hw⟩
end
def DkAt (H:Hp)(d:Addr)(L:List Nat)(j p n:Nat):Prop:=∃kvs:List (Key×V),H d=some (.dK kvs)/\kvs.length≤n/\∀q s,L[q]?=some s->1≤s->(s≤j\/(s=j+1/\q<p))->∃t,bz kvs (Sum.inl ((q:Nat):Int))=some (.ref t)/\H t=some (.tup [vN (C9.cdAt L q s),vN s])
theorem DkAt.keep {H H':Hp}{d:Addr}{L:List Nat}{j p n:Nat}(h:DkAt H d L j p n)(hd:∀kvs,H d=some (.dK kvs)->H' d=some (.dK kvs))(k:∀t ys,H t=some (.tup ys)->H' t=some (.tup ys)):DkAt H' d L j p n:=by
 obtain⟨kvs,h1,h2,h3⟩:=h;refine⟨kvs,hd _ h1,h2,λ q s a b c=>?_⟩;obtain⟨t,e1,e2⟩:=h3 q s a b c;exact⟨t,e1,k _ _ e2⟩
section
variable {P : Program} {w : World} {K : PySem.W.Frag} {mg : Str -> Option Value} {base : Heap} {B D C : Addr}
abbrev sL:List Str:=["_law_piece"]
theorem rn:FnScope sL ["_law_piece"] (defScope dY):=⟨rfl,rfl,rfl,by decide+kernel,rfl,by decide+kernel,by decide+kernel⟩
theorem fr {f:Addr}{fd:FuncData}(F:Fn K mg "_law_thing" dY ["_law_piece"] f fd):FnOk P w K mg base CX0 1 f fd ["_law_piece"] fm:=by
 refine F.F.ok rn (λ vs H Q E h=>?_) (λ cdv A outer s H vs Q E hr h=>?_)
 ·obtain⟨t,x,rfl,_⟩:=h;rfl
 ·obtain⟨t,x,rfl,ht,k⟩:=h;refine⟨_,ag (az (eC (ar bh (aL a9 (pv 0) ae (λ _ _=>rfl)) bY (ax _)) (aL a9 (pv 0) ae (λ _ _=>rfl)) (ai aA ae (aL a9 (pv 0) ae (λ _ _=>rfl))))),?_⟩;cases x with
  |sg s=>
   refine⟨_,rfl,t,_,_,_,rfl,rfl,SqT.of ht,aw (j:=0) rfl,rfl,_,rfl,aJ (λ _=>?_) (λ h=>absurd (decide_eq_true rfl) h)⟩;exact⟨_,rfl,t,_,_,_,rfl,rfl,SqT.of ht,aw (j:=1) rfl,k⟩
  |cp b z=>
   refine⟨_,rfl,t,_,_,_,rfl,rfl,SqT.of ht,aw (j:=0) rfl,rfl,_,rfl,aJ (λ h=>absurd (of_decide_eq_true h) oj) (λ _=>?_)⟩;refine⟨_,rfl,t,_,_,_,rfl,rfl,SqT.of ht,aw (j:=2) rfl,_,_,rfl,rfl,?_⟩;have e:(253:Int)+((z:Nat):Int)=((253+z:Nat):Int):=by lia
   try dsimp only
   rw [e];exact k
def p4:Sp:=λ vs H Q _=>∃(a:Addr) (L:List Nat),vs=[.ref a]/\H a=some (.lst (L.map vN))/\L.length=272/\(∀b∈L,b≤6)/\∀(d:Addr) (H':Hp),H d=none->Same H H'->DkAt H' d L 6 0 2000->Q (.ref d) H'
abbrev sA:List Str:=["_law_lengths","_law_found","_law_code","_law_length","_law_thing_here"]
theorem scLCodes:FnScope sA ["_law_lengths"] (defScope eF):=⟨rfl,rfl,rfl,by decide+kernel,rfl,by decide+kernel,by decide+kernel⟩
theorem oW {f:Addr}{fd:FuncData}(F:Fn K mg "_law_codes" eF ["_law_lengths"] f fd)(T:Txt K mg):FnOk P w K mg base CX0 1 f fd ["_law_lengths"] p4:=by
 refine F.F.ok scLCodes (λ vs H Q E h=>?_) (λ cdv A outer st H vs Q E hr h=>?_)
 ·obtain⟨a,L,rfl,_⟩:=h;rfl
 ·obtain⟨a,L,rfl,ha,hL,h6,k⟩:=h;refine⟨_,ac (aj (i:=1) scLCodes.nd rfl (Or.inl rfl) qk)
   (ac (aj (i:=2) scLCodes.nd rfl (Or.inl rfl) ae)
   (ac (aS PassesOwn.never rfl (dC (by rfl) T.range (aa ae (aa ae ad))) (aF (i:=3) scLCodes.nd rfl (Or.inl rfl)) (ac (aS PassesOwn.never rfl (bw (by rfl) T.range (aa ae ad)) (aF (i:=4) scLCodes.nd rfl (Or.inl rfl)) (ag (aM (ar bh (aL aN (pv 0) (pv 4) (λ _ _=>rfl)) (pv 3) (ax _)) (ac (jv (K19.C.u1 hr) (pv 1) (pv 4) (bB (aa (pv 2) (aa (pv 3) ad))) rfl)
   (ag (aj (i:=2) scLCodes.nd rfl (Or.inl rfl) (ai aA (pv 2) ae)))) aB)))
   (ag (aj (i:=2) scLCodes.nd rfl (Or.inl rfl) (ai cy ae (pv 2))))))
   (ag (az (pv 1))))),?_⟩
  refine seq_g λ R1 g1=>?_
  intro d nd;refine g1 _ _ ?_;clear g1;have s1:=ak (o:=.dK []) nd;have hd1:(upd H d (.dK [])) d=some (.dK []):=upd_same;have nda:a≠d:=af ha nd;generalize upd H d (.dK [])=H1 at*;refine seq_g λ R1 g1=>g1 _ _ ?_
  clear g1;refine seq_g λ R1 g1=>?_
  refine⟨1,7,rfl,⟨by decide,by decide,by decide,by decide⟩,bc (D:=⟨_,_,λ _ _=>False,λ _ _=>False⟩) (lo:=1) (n:=(7-1:Int).toNat) (λ j σ H2=>∃v3 v4:Option V,σ=[some (.ref a),some (.ref d),some (vN (C9.cdAt L 0 (j+1))),v3,v4]/\DkAt H2 d L j 0 (272*j)/\H2 a=some (.lst (L.map vN))/\Same H H2)
   ⟨none,none,rfl,⟨[],hd1,Nat.le_refl _,λ q s _ h1 h2=>by lia⟩,s1 _ _ ha,s1⟩ ?_ ?_⟩
  ·clear g1;rintro j σ H2 hj ⟨v3,v4,rfl,hdk,ha2,s2⟩;have hj6:j<6:=hj;have e1:(1:Int)+((j:Nat):Int)=((j+1:Nat):Int):=by lia
   try dsimp only
   rw [e1];refine seq_g λ R2 g2=>?_
   refine⟨272,rfl,by decide,by decide,bc (D:=⟨_,_,λ _ _=>False,λ _ _=>False⟩) (lo:=0) (n:=(272:Int).toNat) (λ p σ H3=>∃v4:Option V,σ=[some (.ref a),some (.ref d),some (vN (C9.cdAt L p (j+1))),some (vN (j+1)),v4]/\DkAt H3 d L j p (272*j+p)/\H3 a=some (.lst (L.map vN))/\Same H H3)
    ⟨v4,rfl,hdk,ha2,s2⟩ ?_ ?_⟩
   ·clear g2;rintro p σ H3 hp ⟨v4,rfl,hdk3,ha3,s3⟩;have hp2:p<L.length:=by rw [hL];exact hp
    have e2:(0:Int)+((p:Nat):Int)=((p:Nat):Int):=by lia
    try dsimp only
    rw [e2];have hg:(L.map vN)[p]?=some (vN L[p]):=by rw [List.getElem?_map,List.getElem?_eq_getElem hp2];rfl
    have hLp:L[p]?=some L[p]:=List.getElem?_eq_getElem hp2;refine⟨_,rfl,_,rfl,a,_,_,_,rfl,rfl,SqL.of ha3,aw hg,_,rfl,rfl,_,rfl,aJ (λ h=>?_) (λ h=>?_)⟩
    ·have hh:L[p]?=some (j+1):=by
      have:=of_decide_eq_true h;injection this with this
      rw [hLp];congr 1;lia
     refine seq_g λ R3 g3=>?_
     refine⟨_,rfl,_,rfl,(by show 2≤sizeLine;decide),λ t nt=>?_⟩;have st:=ak (o:=.tup [vN (C9.cdAt L p (j+1)),vN (j+1)]) nt;have htt:(upd H3 t (.tup [vN (C9.cdAt L p (j+1)),vN (j+1)])) t=some (.tup [vN (C9.cdAt L p (j+1)),vN (j+1)]):=upd_same;obtain⟨kvs,hk1,hk2,hk3⟩:=hdk3;have hkd:=st _ _ hk1;have ha4:=st _ _ ha3;have s4:=s3.trans st;refine⟨_,rfl,_,rfl,d,_,rfl,DPut.k (k:=Sum.inl ((p:Nat):Int)) hkd (Nat.lt_of_le_of_lt hk2 (Nat.lt_of_lt_of_le (show 272*j+p<2000 by have:p<272:=hp;lia) (by decide))),g3 _ _ ?_⟩;clear g3;have e3:((C9.cdAt L p (j+1):Nat):Int)+1=((C9.cdAt L (p+1) (j+1):Nat):Int):=by rw [C9.code_hit hh];lia
     refine⟨_,rfl,_,_,rfl,rfl,some (vN p),?_,⟨_,upd_same,by have:=cu kvs (Sum.inl ((p:Nat):Int)) (V.ref t);lia,λ q s hq h1 h2=>?_⟩,?_,λ c o e=>?_⟩
     ·try dsimp only
      rw [e3];rfl
     ·rw [eB];have ktup:∀t' ys,H3 t'=some (.tup ys)->(upd (upd H3 t (.tup [vN (C9.cdAt L p (j+1)),vN (j+1)])) d (.dK (putK kvs (Sum.inl ((p:Nat):Int)) (V.ref t)))) t'=some (.tup ys):=λ t' ys e=>by
       rw [upd_ne (ne_of e hk1 (by intro z;cases z))];exact st _ _ e
      by_cases eq:q=p
      ·subst eq;have:s=j+1:=by rw [hq] at hh;exact Option.some.inj hh
       subst this;refine⟨t,by rw [if_pos rfl],?_⟩;rw [upd_ne (ne_of htt hkd (by intro z;cases z))];exact htt
      ·have ne:¬(Sum.inl ((q:Nat):Int):Key)=Sum.inl ((p:Nat):Int):=λ z=>eq (by injection z with z;lia)
       rw [if_neg ne];obtain⟨t',u1,u2⟩:=hk3 q s hq h1 (by lia);exact⟨t',u1,ktup _ _ u2⟩
     ·rw [upd_ne nda];exact ha4
     ·rw [upd_ne (af e nd)];exact s4 _ _ e
    ·have hh:L[p]?≠some (j+1):=λ z=>by
      rw [hLp] at z;exact h (decide_eq_true (by rw [Option.some.inj z]))
     refine⟨some (vN p),?_,?_,ha3,s3⟩
     ·rw [C9.code_pass hh];rfl
     ·obtain⟨kvs,hk1,hk2,hk3⟩:=hdk3;refine⟨kvs,hk1,by lia,λ q s hq h1 h2=>hk3 q s hq h1 ?_⟩;rcases h2 with h2|⟨h2,h3⟩
      ·exact .inl h2
      ·refine .inr ⟨h2,?_⟩;rcases Nat.lt_or_ge q p with z|z
       ·exact z
       ·have:q=p:=by lia
        subst this;subst h2;exact absurd hq hh
   ·rintro σ H3 ⟨v4,rfl,hdk3,ha3,s3⟩;refine g2 _ _ ?_;clear g2;have e272:(272:Int).toNat=L.length:=by rw [hL];rfl
    have e4:(2:Int)*((C9.cdAt L (272:Int).toNat (j+1):Nat):Int)=((C9.cdAt L 0 (j+1+1):Nat):Int):=by
     rw [e272,C9.code_end,K19.C.cd_zero];lia
    refine⟨_,rfl,_,_,rfl,rfl,.inl ⟨by decide,by decide⟩,?_⟩
    try dsimp only
    rw [e4];refine⟨_,_,rfl,?_,ha3,s3⟩;obtain⟨kvs,hk1,hk2,hk3⟩:=hdk3;refine⟨kvs,hk1,by have:(272:Int).toNat=272:=rfl;lia,λ q s hq h1 h2=>hk3 q s hq h1 ?_⟩;have hql:q<L.length:=(List.getElem?_eq_some_iff.mp hq).1;have:(272:Int).toNat=272:=rfl;lia
  ·rintro σ H2 ⟨v3,v4,rfl,hdk,ha2,s2⟩;refine g1 _ _ ⟨_,rfl,k d H2 nd s2 ?_⟩;obtain⟨kvs,hk1,hk2,hk3⟩:=hdk;exact⟨kvs,hk1,Nat.le_trans hk2 (by decide),hk3⟩
def tO:Sp:=λ vs H Q _=>∃(l a:Addr) (Pp:List Pc) (L W:List Nat),vs=[.ref l,.ref a]/\PL H l Pp/\Pp.length≤100/\H a=some (.lst (L.map vN))/\TOk L Pp/\GR W Pp/\∀(l':Addr) (ts:List Addr) (H':Hp),Same H H'->H' l'=some (.lst (ts.map V.ref))->Prs H' ts (hP L Pp)->Q (.ref l') H'
abbrev vb:List Str:=["_law_pieces_here","_law_lengths","_law_codes_here","_law_parts_here","_law_piece"]
theorem scParts:FnScope vb ["_law_pieces_here","_law_lengths"] (defScope jf):=⟨rfl,rfl,rfl,by decide+kernel,rfl,by decide+kernel,by decide+kernel⟩
theorem jJ {f fC fT:Addr}{fd fdC fdT:FuncData}(F:Fn K mg "_law_parts" jf ["_law_pieces_here","_law_lengths"] f fd)(Lc:Fn K mg "_law_codes" eF ["_law_lengths"] fC fdC)(Lt:Fn K mg "_law_thing" dY ["_law_piece"] fT fdT)(T:Txt K mg):FnOk P w K mg base CX0 2 f fd ["_law_pieces_here","_law_lengths"] tO:=by
 have GC:=oW (P:=P) (w:=w) (base:=base) Lc T;have GT:=fr (P:=P) (w:=w) (mg:=mg) (base:=base) Lt;refine F.F.ok scParts (λ vs H Q E h=>?_) (λ cdv A outer st H vs Q E hr h=>?_)
 ·obtain⟨l,a,Pp,L,W,rfl,_⟩:=h;rfl
 ·obtain⟨l,a,Pp,L,W,rfl,⟨ts0,hl,hts⟩,hPl,ha,tok,gr,k⟩:=h;refine⟨_,ac (aj (i:=2) scParts.nd rfl (Or.inl rfl) (am GC hr (by rfl) Lc.m Lc.F.kp Lc.b .nil ap (aa (pv 1) ad)))
   (ac (aj (i:=3) scParts.nd rfl (Or.inl rfl) (aV ad))
   (ac (aS PassesOwn.never rfl (bf (pv 0)) (aF (i:=4) scParts.nd rfl (Or.inl rfl)) (ac (aD (b7 PySem.F.plainAttrs_list PySem.F.slot_list_append PySem.F.type_list_append aO (pv 3) (aa (nF (K19.C.u1 hr) (pv 2) (am GT hr (by rfl) Lt.m Lt.F.kp Lt.b .nil ap (aa (pv 4) ad)) (λ _ _=>rfl)) ad)))
   (ag (aM (ar bh (aL a9 (pv 4) ae (λ _ _=>rfl)) bY (ax _)) (ag (aD (b7 PySem.F.plainAttrs_list PySem.F.slot_list_append PySem.F.type_list_append aO (pv 3) (aa (bB (aa (aL a9 (pv 4) ae (λ _ _=>rfl)) (aa ae ad))) ad)))) aB))))
   (ag (az (pv 3))))),?_⟩
  refine seq_g λ R1 g1=>?_
  refine⟨_,rfl,a,L,rfl,ha,tok.len,tok.six,λ d H1 nd s1 hdk=>g1 _ _ ?_⟩;clear g1;refine seq_g λ R1 g1=>?_
  refine⟨by decide,λ lp nlp=>g1 _ _ ?_⟩;clear g1;have s2:=ak (o:=.lst []) nlp;have h2p:(upd H1 lp (.lst [])) lp=some (.lst (([]:List Addr).map V.ref)):=upd_same;have nlp0:H lp=none:=none_of s1 nlp;have nlpd:d≠lp:=by obtain⟨kvs,hk,_⟩:=hdk;exact af hk nlp
  have hdk2:=hdk.keep (λ _ e=>s2 _ _ e) (λ _ _ e=>s2 _ _ e);have s02:=s1.trans s2;have nll:l≠lp:=af hl nlp0;generalize upd H1 lp (.lst [])=H2 at*;refine seq_g λ R1 g1=>?_
  refine⟨_,rfl,l,rfl,⟨_,SqL.of (s02 _ _ hl)⟩,bE (D:=⟨_,_,λ _ _=>False,λ _ _=>False⟩) (K:=K) (a:=l) (xs:=ts0.map V.ref) (λ i σ H3=>∃(v4:Option V) (ts:List Addr),σ=[some (.ref l),some (.ref a),some (.ref d),some (.ref lp),v4]/\H3 lp=some (.lst (ts.map V.ref))/\Prs H3 ts (hP L (Pp.take i))/\DkAt H3 d L 6 0 2000/\Same H H3/\ts.length≤2*i)
   ⟨none,[],rfl,h2p,.nil,hdk2,s02,Nat.le_refl _⟩ (λ i σ H3 _ ⟨_,_,_,_,_,_,sm,_⟩=>SqL.of (sm _ _ hl)) ?_ ?_⟩
  ·clear g1;rintro i y σ H3 hi ⟨v4,ts,rfl,h3p,hprs,hdk3,sm,htl⟩;obtain⟨t,ht,rfl⟩:=dA hi;have hil:i<Pp.length:=by rw [<-hts.1];exact(List.getElem?_eq_some_iff.mp ht).1
   have hPi:Pp[i]?=some Pp[i]:=List.getElem?_eq_getElem hil;have htt:=sm _ _ (hts.2 i t _ ht hPi);have hga:=gr.at hPi;have hmem:Pp[i]∈Pp:=List.getElem_mem hil;obtain⟨e1,e2,e3⟩:=tok.at hmem hga;rw [cY hPi,cV,jz];generalize Pp[i]=xx at*;obtain⟨kvs,hk1,hk2,hk3⟩:=id hdk3;obtain⟨tc,u1,u2⟩:=hk3 _ _ e1 e2 (.inl e3);have hget:DGet H3 d (vN (th xx)) (some (.ref tc)):=by
    have:=DGet.k (k:=Sum.inl ((th xx:Nat):Int)) hk1;rw [u1] at this;exact this
   refine seq_g λ R2 g2=>?_
   refine⟨_,rfl,.inl ⟨rfl,_,SqL.of h3p⟩,_,rfl,_,rfl,t,xx,rfl,htt,d,_,rfl,hget,lp,_,_,rfl,rfl,h3p,aU (by rw [List.length_map];lia),g2 _ _ ?_⟩;clear g2;have kT:∀c xs,H3 c=some (.tup xs)->(upd H3 lp (.lst (ts.map V.ref++[V.ref tc]))) c=some (.tup xs):=λ c xs e=>by
    rw [upd_ne (ne_of e h3p (by intro z;cases z))];exact e
   have h4p:(upd H3 lp (.lst (ts.map V.ref++[V.ref tc]))) lp=some (.lst ((ts++[tc]).map V.ref)):=by rw [upd_same,List.map_append];rfl
   have hprs4:Prs (upd H3 lp (.lst (ts.map V.ref++[V.ref tc]))) (ts++[tc]) (hP L (Pp.take i)++[(C9.cdAt L (th xx) (L.getD (th xx) 0),L.getD (th xx) 0)]):=(hprs.keep kT).app (.cons (kT _ _ u2) .nil);have hdk4:=hdk3.keep (H':=upd H3 lp (.lst (ts.map V.ref++[V.ref tc]))) (λ _ e=>by rw [upd_ne nlpd];exact e) kT;have sm4:Same H (upd H3 lp (.lst (ts.map V.ref++[V.ref tc]))):=λ c o e=>by rw [upd_ne (af e nlp0)];exact sm _ _ e
   have htt4:=kT _ _ htt;generalize upd H3 lp (.lst (ts.map V.ref++[V.ref tc]))=H4 at*;cases xx with
   |sg s=>
    refine⟨_,rfl,t,_,_,_,rfl,rfl,SqT.of htt4,aw (j:=0) rfl,rfl,_,rfl,aJ (λ h=>absurd (of_decide_eq_true h) (λ z=>oj z.symm)) (λ _=>?_)⟩;exact⟨_,ts++[tc],rfl,h4p,hprs4,hdk4,sm4,by rw [List.length_append];show ts.length+1≤_;lia⟩
   |cp b z=>
    refine⟨_,rfl,t,_,_,_,rfl,rfl,SqT.of htt4,aw (j:=0) rfl,rfl,_,rfl,aJ (λ _=>?_) (λ h=>absurd (decide_eq_true rfl) h)⟩;refine⟨_,rfl,.inl ⟨rfl,_,SqL.of h4p⟩,_,rfl,t,_,_,_,rfl,rfl,SqT.of htt4,aw (j:=1) rfl,(by show 2≤sizeLine;decide),λ t2 nt2=>?_⟩;have st:=ak (o:=.tup [vN b,V.int 8]) nt2;have ht2:(upd H4 t2 (.tup [vN b,V.int 8])) t2=some (.tup [vN b,vN 8]):=upd_same;have h5p:=st _ _ h4p;have hprs5:=hprs4.mono st;have hdk5:=hdk4.keep (λ _ e=>st _ _ e) (λ _ _ e=>st _ _ e);have sm5:=sm4.trans st;generalize upd H4 t2 (.tup [vN b,V.int 8])=H5 at*;have kT5:∀c xs,H5 c=some (.tup xs)->(upd H5 lp (.lst ((ts++[tc]).map V.ref++[V.ref t2]))) c=some (.tup xs):=λ c xs e=>by
     rw [upd_ne (ne_of e h5p (by intro z;cases z))];exact e
    refine⟨lp,_,_,rfl,rfl,h5p,aU (by rw [List.length_map,List.length_append];show ts.length+1≤2000;lia),_,ts++[tc]++[t2],rfl,by rw [upd_same,List.map_append (l₁:=ts++[tc])];rfl,?_,hdk5.keep (λ _ e=>by rw [upd_ne nlpd];exact e) kT5,λ c o e=>by rw [upd_ne (af e nlp0)];exact sm5 _ _ e,by rw [List.length_append,List.length_append];show ts.length+1+1≤_;lia⟩;have:=(hprs5.keep kT5).app (us:=[t2]) (qs:=[(b,8)]) (.cons (kT5 _ _ ht2) .nil);rw [List.append_assoc (hP L (Pp.take i))] at this;exact this
  ·rintro σ H3 ⟨v4,ts,rfl,h3p,hprs,_,sm,_⟩;rw [List.length_map,hts.1,List.take_length] at hprs;exact g1 _ _ ⟨_,rfl,k lp ts H3 sm h3p hprs⟩
end
end K19
set_option maxHeartbeats 1000000
namespace K19
open PySem L2 QQ W17 W16 BP
def by8 (R:List Nat):List (Nat×Nat):=R.map λ b=>(b,8)
theorem gK:∀R:List Nat,tots (by8 R)=8*R.length
 | []=>rfl
 |b::R=>by
  show tots ((b,8)::by8 R)=8*(R.length+1);rw [bv,gK R];show 8+8*R.length=_;lia
theorem rM {R:List Nat}(h:∀b∈R,b<256):Good (by8 R):=λ q hq=>by
 obtain⟨b,hb,rfl⟩:=List.mem_map.mp hq;exact h b hb
theorem k6:∀(R:List Nat) (N:Nat),nums (by8 R) N=N*256^R.length+val R
 | [],N=>by show N=_;simp [sP]
 |b::R,N=>by
  show nums (by8 R) (N*2^8+b)=_;rw [k6 R,eM,List.length_cons,show(2:Nat)^8=256 from rfl,Nat.add_mul,Nat.mul_assoc,<-Nat.pow_succ',Nat.add_assoc]
theorem rS {ps:List (Nat×Nat)}{R:List Nat}(g:Good ps)(h:RowOf (nums ps 0) (tots ps) R):(bitsP (by8 R)).take (tots ps)=bitsP ps:=by
 have hl:8*R.length=tots ps+(8*R.length-tots ps):=by have:=h.len;lia
 have e:bitsP (by8 R)=bitsP ps++List.replicate (8*R.length-tots ps) false:=by
  refine C10.num_inj ?_ ?_
  ·rw [List.length_append,ay,ay,List.length_replicate,gK];exact hl
  ·rw [b9,ic,List.length_replicate,cU (rM h.byt),k6,cU g,Nat.zero_mul,Nat.zero_add,h.num,Nat.add_zero]
 rw [e,<-ay ps,List.take_left]
theorem nz {L:List Nat}{q v:Nat}(h:q<L.length):C9.krf 6 (L.set q v)+(if 0<L.getD q 0 then 2^(6-L.getD q 0) else 0)=C9.krf 6 L+(if 0<v then 2^(6-v) else 0):=by
 have e1:L=L.take q++[L.getD q 0]++L.drop (q+1):=by
  rw [List.getD_eq_getElem?_getD,List.getElem?_eq_getElem h];show L=L.take q++[L[q]]++L.drop (q+1);rw [List.append_assoc,List.singleton_append,List.getElem_cons_drop,List.take_append_drop]
 have e2:L.set q v=L.take q++[v]++L.drop (q+1):=by
  rw [List.set_eq_take_append_cons_drop,if_pos h,List.append_assoc];rfl
 have k1:∀x,C9.krf 6 [x]=if 0<x then 2^(6-x) else 0:=λ x=>by
  have:=C9.krf_snoc 6 [] x;rw [List.nil_append,C9.krf_nil,Nat.zero_add] at this;exact this
 rw [e2]
 conv=>rhs;rw [e1]
 rw [C9.krf_app,C9.krf_app,C9.krf_app,C9.krf_app,k1,k1];lia
theorem j6 {L:List Nat}{q v x:Nat}(h:q<L.length):(L.set q v).getD x 0=if x=q then v else L.getD x 0:=by
 rw [List.getD_eq_getElem?_getD,List.getD_eq_getElem?_getD,List.getElem?_set];by_cases e:x=q
 ·subst e;rw [if_pos rfl,if_pos rfl,if_pos h];rfl
 ·rw [if_neg (λ z=>e z.symm),if_neg e]
structure Tab (L:List Nat)(Q:List Nat):Prop where
 len:L.length=272
 six:∀b∈L,b≤6
 has:∀q∈Q,1≤L.getD q 0
theorem Tab.set {L Q:List Nat}(h:Tab L Q){q v:Nat}(hq:q<272)(h1:1≤v)(h6:v≤6):Tab (L.set q v) Q:=by
 have hl:q<L.length:=by rw [h.len];exact hq
 refine⟨by rw [List.length_set];exact h.len,λ b hb=>?_,λ x hx=>?_⟩
 ·rcases List.mem_or_eq_of_mem_set hb with z|z
  ·exact h.six b z
  ·rw [z];exact h6
 ·rw [j6 hl]
  split
  ·exact h1
  ·exact h.has x hx
theorem Tab.add {L Q:List Nat}(h:Tab L Q){q v:Nat}(hq:q<272)(h1:1≤v)(h6:v≤6):Tab (L.set q v) (Q++[q]):=by
 have hl:q<L.length:=by rw [h.len];exact hq
 refine⟨(h.set hq h1 h6).len,(h.set hq h1 h6).six,λ x hx=>?_⟩;rcases List.mem_append.mp hx with z|z
 ·exact(h.set hq h1 h6).has x z
 ·rw [List.mem_singleton.mp z,j6 hl,if_pos rfl];exact h1
theorem Tab.tok {L Q:List Nat}{Pp:List Pc}(h:Tab L Q)(hk:C9.krf 6 L≤64)(hQ:∀x∈Pp,th x∈Q)(hq:∀q∈Q,q<272)(h1:1≤Pp.length):TOk L Pp:=by
 have has:∀x∈Pp,1≤L.getD (th x) 0:=λ x hx=>h.has _ (hQ x hx)
 refine⟨⟨by rw [h.len];decide,by rw [h.len];decide,λ l hl=>Nat.le_trans (h.six l hl) (by decide),?_,?_⟩,h.len,h.six,has⟩
 ·match Pp,h1,has,hQ with
  |x::Pp,_,has,hQ=>
   have h2:=has x (by simp);have hl:th x<L.length:=by rw [h.len];exact hq _ (hQ x (by simp))
   rw [List.getD_eq_getElem?_getD,List.getElem?_eq_getElem hl] at h2;exact⟨L[th x],List.getElem_mem hl,h2⟩
 ·rw [C9.krf_up (m:=6) (by decide) _ h.six];have:2^(12-6)*C9.krf 6 L≤2^(12-6)*64:=Nat.mul_le_mul_left _ hk;exact this
theorem sZ:Tab (List.replicate 272 0) []:=⟨by simp,λ b hb=>by rw [(List.mem_replicate.mp hb).2];decide,λ q hq=>by cases hq⟩
theorem rk:C9.krf 6 (List.replicate 272 0)=0:=by
 unfold C9.krf;rw [List.filter_eq_nil_iff.mpr (λ b hb=>by rw [(List.mem_replicate.mp hb).2];decide)];rfl
def ones3 (L:List Nat):List W13.Itm:=L.map W13.Itm.one
theorem kb:∀(L:List Nat) (a:Nat),W13.decL a (ones3 L)=L
 | [],_=>rfl
 |x::L,a=>by show x::W13.decL x (ones3 L)=_;rw [kb L x]
theorem p0 {L:List Nat}(h:∀b∈L,b≤6):∀x∈ones3 L,W13.StOk x:=λ x hx=>by
 obtain⟨b,hb,rfl⟩:=List.mem_map.mp hx;exact h b hb
theorem oP (L:List Nat):W13.puts (ones3 L)=L.map λ b=>(b,3):=by
 induction L with
 |nil=>rfl
 |cons x L ih=>show W13.Itm.puts (.one x)++W13.puts (ones3 L)=_;rw [ih];rfl
end K19
set_option maxHeartbeats 1000000
namespace K19
open PySem L2 QQ W17 W16 BP
seal PE PA PS PSs PT PW PG PI
theorem kJ {bs:List Bool}{n:Nat}(h:n≤bs.length):Txt.slice (txt bs) none (some (n:Int))=txt (bs.take n):=by
 have e:Txt.slice (txt bs) none (some (n:Int))=Txt.slice (txt bs) (some ((0:Nat):Int)) (some (n:Int)):=by
  unfold Txt.slice;rfl
 rw [e,ii (Nat.zero_le _) h,List.drop_zero,Nat.sub_zero]
section
variable {P : Program} {w : World} {K : PySem.W.Frag} {mg : Str -> Option Value} {base : Heap} {B D C : Addr}
theorem xP:(["_law_byte"]:List Str).Nodup:=by decide+kernel
theorem xz:(["_law_length"]:List Str).Nodup:=by decide+kernel
def wy:TE:=tj (dt (dM 0) (dt (tC (.int 8)) i4))
def wU:TE:=tj (dt (dM 0) (dt (tC (.int 3)) i4))
def wZ:Sp:=λ vs H Q _=>∃(l:Addr) (Pp:List Pc) (W:List Nat),vs=[.ref l]/\PL H l Pp/\GR W Pp/\1≤Pp.length/\Pp.length≤64/\∀(L:List Nat) (It:List W13.Itm) (b:Nat) (H':Hp),ShL (Pp.map th) L->W13.Walk L 0 0 It 272 b->Same H H'->Q (.str (txt (bitsP (W13.puts It++hP L Pp)))) H'
abbrev xJ:List Str:=["_law_pieces_here","_law_counts","_law_piece","_law_lengths","_law_bits","_law_table"]
theorem scDue:FnScope xJ ["_law_pieces_here"] (defScope tJ):=⟨rfl,rfl,rfl,by decide+kernel,rfl,by decide+kernel,by decide+kernel⟩
structure Own (K:PySem.W.Frag)(mg:Str->Option Value)(B D C:Addr):Prop where
 S:Shw K mg B D C
 digits:∃f fd,Fn K mg "_law_digits" fZ ["_law_parts_here"] f fd
 thing:∃f fd,Fn K mg "_law_thing" dY ["_law_piece"] f fd
 codes:∃f fd,Fn K mg "_law_codes" eF ["_law_lengths"] f fd
 parts:∃f fd,Fn K mg "_law_parts" jf ["_law_pieces_here","_law_lengths"] f fd
theorem vJ {f:Addr}{fd:FuncData}(F:Fn K mg "_law_due" tJ ["_law_pieces_here"] f fd)(Y:Own K mg B D C):FnOk P w K mg base CX0 34 f fd ["_law_pieces_here"] wZ:=by
 obtain⟨S0,⟨_,_,Di⟩,⟨_,_,Th⟩,⟨_,_,Lc⟩,⟨_,_,Pt⟩⟩:=Y;obtain⟨T,⟨_,_,Wh⟩,⟨_,_,AW⟩,⟨_,_,Tn⟩,⟨_,_,Ne⟩,⟨_,_,We⟩,⟨_,_,Pa⟩,⟨_,_,Li⟩,⟨_,_,Le⟩⟩:=S0.Sh;have GL:=S.ok_lengths (P:=P) (w:=w) (base:=base) Le Ne Tn AW Wh Li Pa We T;obtain⟨t6,B6⟩:=Le.d;have GD:=iK (P:=P) (w:=w) (base:=base) Di T;have GT:=fr (P:=P) (w:=w) (mg:=mg) (base:=base) Th;have GP:=jJ (P:=P) (w:=w) (base:=base) Pt Lc Th T;have Z:=S0.Zb;obtain⟨_,_,Nt⟩:=S0.needtab;obtain⟨_,_,Ag⟩:=S0.again;obtain⟨_,_,Ptt⟩:=S0.puttab;have GPt:=Tb.ok_puttable (P:=P) (w:=w) (base:=base) Ptt Nt Ag Z;obtain⟨_,_,FI,bI,MI⟩:=Z.init;obtain⟨_,_,Ma⟩:=Z.many;obtain⟨_,_,Ou⟩:=Z.row;have TB:=Z.T;have GI:=gU (P:=P) (w:=w) (base:=base) FI TB;have GM:=ju (P:=P) (w:=w) (base:=base) Ma.F TB T;have GO:=iC (P:=P) (w:=w) (base:=base) Ou.F TB T;refine F.F.ok scDue (λ vs H Q E h=>?_) (λ cdv A outer st H vs Q E hr h=>?_)
 ·obtain⟨l,Pp,W,rfl,_⟩:=h;rfl
 ·obtain⟨l,Pp,W,rfl,⟨ts,hl,hts⟩,gr,hP1,hP64,k⟩:=h;have hr1:Room 1 _:=hr.mono (by decide);have hr2:Room 2 _:=hr.mono (by decide);have hr32:Room 32 _:=hr.mono (by decide);have hq:∀q∈Pp.map th,q<272:=λ q hq=>by
   obtain⟨x,hx,rfl⟩:=List.mem_map.mp hq;obtain⟨_,gx⟩:=gr.all x hx;exact iO gx
  refine⟨_,ac (aj (i:=1) scDue.nd rfl (Or.inl rfl) (ai fE (aV (aa ae ad)) ae))
   (ac (aS PassesOwn.never rfl (bf (pv 0)) (aF (i:=2) scDue.nd rfl (Or.inl rfl)) (ag (dX (ai aA (aL aN (pv 1) (am GT hr1 (by rfl) Th.m Th.F.kp Th.b .nil ap (aa (pv 2) ad)) (λ _ _=>rfl)) ae) (fw (pv 1) (am GT hr1 (by rfl) Th.m Th.F.kp Th.b .nil ap (aa (pv 2) ad)) cW))))
   (ac (aj (i:=3) scDue.nd rfl (Or.inl rfl) (am GL hr (by rfl) Le.m Le.kp B6 (.cons (a:=V.int 6) ⟨_,rfl⟩ .nil) ap (aa (pv 1) ad)))
   (ac (aj (i:=4) scDue.nd rfl (Or.inl rfl) (gm MI GI hr2 (by rfl) Z.m bI .nil ap))
   (ac (aD (am GPt hr32 (by rfl) Ptt.m Ptt.F.kp Ptt.b .nil ap (aa (pv 4) (aa (pv 3) ad))))
   (ac (aj (i:=5) scDue.nd rfl (Or.inl rfl) (cT pX (am GD hr1 (by rfl) Di.m Di.F.kp Di.b .nil ap (aa (jg (N:=["_law_byte"]) (g:=bZ 0) (te:=wy) rfl rfl (by decide+kernel) (by decide+kernel) (by decide+kernel) (bf (bi (pv 4) TB.cl Ou.m GO hr1 Ou.b .nil ap)) (λ fp s H=>aF (i:=0) xP rfl (Or.inl rfl)) (λ fp s H=>bB (aa (pv 0) (aa ae ad)))) ad)) gh (cN (bi (pv 4) TB.cl Ma.m GM hr1 Ma.b .nil ap))))
   (ag (az (ai cH (pv 5) (am GD hr1 (by rfl) Di.m Di.F.kp Di.b .nil ap (aa (am GP hr2 (by rfl) Pt.m Pt.F.kp Pt.b .nil ap (aa (pv 0) (aa (pv 3) ad))) ad)))))))))),?_⟩
  refine seq_g λ R1 g1=>?_
  refine⟨(by show 1≤sizeLine;decide),λ l4 n4=>?_⟩;have s4:=ak (o:=.lst [V.int 0]) n4;have h44:(upd H l4 (.lst [V.int 0])) l4=some (.lst [vN 0]):=upd_same;generalize upd H l4 (.lst [V.int 0])=H4 at*;refine⟨l4,_,_,rfl,rfl,h44,by decide,by decide,(by show 1*272≤sizeLine;decide),λ l5 n5=>g1 _ _ ?_⟩;clear g1;have s5:=ak (o:=.lst ((List.replicate 272 [vN 0]).flatten)) n5;have h55:(upd H4 l5 (.lst ((List.replicate (272:Int).toNat [vN 0]).flatten))) l5=some (.lst ((cn ((Pp.map th).take 0)).map vN)):=by
   rw [upd_same];exact congrArg (λ z=>some (HO.lst z)) rc
  have n05:H l5=none:=none_of s4 n5;have s05:Same H (upd H4 l5 (.lst ((List.replicate (272:Int).toNat [vN 0]).flatten))):=s4.trans s5;generalize upd H4 l5 (.lst ((List.replicate (272:Int).toNat [vN 0]).flatten))=H5 at*;clear s5 s4 h44;have hal:l≠l5:=af hl n05;refine seq_g λ R1 g1=>?_
  refine⟨_,rfl,l,rfl,⟨_,SqL.of (s05 _ _ hl)⟩,bE (D:=⟨_,_,λ _ _=>False,λ _ _=>False⟩) (K:=K) (a:=l) (xs:=ts.map V.ref) (λ i σ H7=>∃v:Option V,σ=[some (.ref l),some (.ref l5),v,none,none,none]/\H7 l5=some (.lst ((cn ((Pp.map th).take i)).map vN))/\∀c o,c≠l5->H5 c=some o->H7 c=some o)
   ⟨none,rfl,h55,λ _ _ _ e=>e⟩ (λ i σ H7 _ ⟨_,_,_,kp⟩=>SqL.of (kp _ _ hal (s05 _ _ hl))) ?_ ?_⟩
  ·clear g1;rintro i y σ H7 hi ⟨v,rfl,h7,kp⟩;obtain⟨t,ht,rfl⟩:=dA hi;have hil:i<Pp.length:=by rw [<-hts.1];exact(List.getElem?_eq_some_iff.mp ht).1
   have hPi:Pp[i]?=some Pp[i]:=List.getElem?_eq_getElem hil;have htt:=hts.2 i t _ ht hPi;have hqi:(Pp.map th)[i]?=some (th Pp[i]):=by rw [List.getElem?_map,hPi];rfl
   have hqn:=hq _ (List.mem_of_getElem? hqi);have h7t:=kp _ _ (af htt n05) (s05 _ _ htt);have hg:((cn ((Pp.map th).take i)).map vN)[th Pp[i]]?=some (vN (((Pp.map th).take i).count (th Pp[i]))):=by
    unfold cn;rw [List.getElem?_map,List.getElem?_map,List.getElem?_range hqn];rfl
   have hset:=p8 hqi hqn;generalize Pp[i]=xx at*;have e2:((((Pp.map th).take i).count (th xx):Nat):Int)+1=((((Pp.map th).take i).count (th xx)+1:Nat):Int):=by lia
   refine⟨_,rfl,_,rfl,t,xx,rfl,h7t,l5,_,_,_,rfl,rfl,SqL.of h7,aw hg,_,_,rfl,rfl,?_⟩
   try dsimp only
   rw [e2];refine⟨_,rfl,_,rfl,t,xx,rfl,h7t,l5,_,_,th xx,rfl,rfl,h7,S.ixN_nat (by rw [List.length_map,bO];exact hqn),_,rfl,?_,λ c o n e=>?_⟩
   ·rw [upd_same,hset]
   ·rw [upd_ne n];exact kp _ _ n e
  rintro σ H7 ⟨v,rfl,h7,kp⟩;rw [List.length_map,hts.1] at h7;have e64:(Pp.map th).take Pp.length=Pp.map th:=by
   have:=List.take_length (l:=Pp.map th)
   rwa [List.length_map] at this
  rw [e64] at h7;refine g1 _ _ ?_;clear g1 e64;have s07:Same H H7:=λ c o e=>kp _ _ (af e n05) (s05 _ _ e)
  obtain⟨q1,q2,q3,q4,q5,q6,q7,q8,q9,q10⟩:=uR hq (by rw [List.length_map];exact hP1) (by rw [List.length_map];exact hP64);refine seq_g λ R1 g1=>?_
  refine⟨_,rfl,l5,cn (Pp.map th),6,rfl,h7,q1,q2,q3,q4,q5,q6,q7,q8,q9,q10,λ l8 ln H8 nl8 s78 hl8 hb hln=>g1 _ _ ?_⟩;clear g1 q1 q2 q3 q4 q5 q6 q7 q8 q9 q10;have s08:=s07.trans s78;have hsh:ShL (Pp.map th) ((List.range 272).map ln):=⟨ln,hln,rfl,hb⟩;replace hl8:H8 l8=some (.lst (((List.range 272).map ln).map vN)):=by rw [hl8,bO,List.map_map];rfl
  have tok:=hsh.tok gr hP1;generalize (List.range 272).map ln=L at*;clear hb hln h7 kp h55 s05 nl8;refine seq_g λ R1 g1=>?_
  intro p dp np ndp nep;have hp0:(upd (upd H8 dp (.own p)) p (.ins B dp [])) p=some (.ins B dp []):=upd_same;have s0:Same H8 (upd (upd H8 dp (.own p)) p (.ins B dp [])):=λ c o e=>by
   rw [upd_ne (af e np),upd_ne (af e ndp)];exact e
  refine⟨p,dp,rfl,hp0,λ d H9 nd hB kp=>⟨rfl,g1 _ _ ?_⟩⟩;clear g1;have nd0:H8 d=none:=none_of s0 nd;have s89:Same H8 H9:=λ c o e=>kp _ _ (s0 _ _ e) (af e np)
  clear s0 hp0 kp;have h9l:=s89 _ _ hl8;refine seq_g λ R1 g1=>?_
  refine⟨_,rfl,_,rfl,p,d,l8,0,0,L,rfl,hB,by decide,h9l,tok.len,tok.six,af hl8 nd0,λ It b H10 hit hB10 kp10=>g1 _ _ ?_⟩;clear g1;rw [Nat.zero_add] at hB10;have s810:Same H8 H10:=λ c o e=>kp10 _ _ (s89 _ _ e) (af e np) (af e nd0)
  have hto:=dE 0 (W13.walk_ok tok.six hit);rw [jh tok.len hit,tok.len] at hto;have hgI:Good (W13.puts It):=W13.puts_good (W13.walk_ok tok.six hit);obtain⟨dx10,r10,k10,hp10⟩:=hB10.ob;refine seq_g λ R1 g1=>?_
  refine⟨_,rfl,p,dx10,_,rfl,hp10,dP _ _ _ (by decide+kernel) (by decide+kernel) (by decide+kernel),p,d,_,_,rfl,hB10,by lia,λ lr R H11 nlr hlr row s11=>?_⟩;have hRl:=row.len;refine⟨lr,rfl,⟨_,SqL.of hlr⟩,λ l12 n12=>?_⟩;refine jx (g:=bZ 0) (te:=wy) (K:=K) (a:=lr) (l:=l12) (xs:=R.map vN) (n:=1) (λ i ys H5=>∃ts:List Addr,ys=ts.map V.ref/\H5 l12=some (.lst ys)/\Same H11 H5/\Prs H5 ts (by8 (R.take i)))
   ⟨[],rfl,upd_same,ak n12,.nil⟩ (λ i ys H5 _ ⟨_,_,_,sm,_⟩=>SqL.of (sm _ _ hlr)) ?_ ?_ ?_ ?_
  ·clear g1;rintro i y ys σ H12 hy ⟨ts,rfl,hl12,sm,hprs⟩ hσ;obtain⟨b,hb,rfl⟩:=cm hy;have hil:i<R.length:=(List.getElem?_eq_some_iff.mp hb).1;obtain⟨u0,rfl⟩:∃u0,σ=[u0]:=match σ,hσ with| [u0],_=>⟨u0,rfl⟩
   have htl:=hprs.len;rw [show(by8 (R.take i)).length=(R.take i).length from List.length_map _,List.length_take] at htl;refine⟨_,rfl,(by show 2≤sizeLine;decide),λ q nq=>?_⟩;have sq:=ak (o:=.tup [vN b,V.int 8]) nq;have hqq:(upd H12 q (.tup [vN b,V.int 8])) q=some (.tup [vN b,vN 8]):=upd_same;have hl6:=sq _ _ hl12;generalize upd H12 q (.tup [vN b,V.int 8])=H13 at*;have kT:∀c xs,H13 c=some (.tup xs)->(upd H13 l12 (.lst (ts.map V.ref++[V.ref q]))) c=some (.tup xs):=λ c xs e=>by
    rw [upd_ne (ne_of e hl6 (by intro z;cases z))];exact e
   refine⟨hl6,aU (by rw [List.length_map];lia),rfl,ts++[q],by rw [List.map_append];rfl,upd_same,λ c o e=>?_,?_⟩
   ·rw [upd_ne (af e n12)];exact sq _ _ (sm _ _ e)
   ·rw [cY hb,show by8 (R.take i++[b])=by8 (R.take i)++[(b,8)] by simp [by8]];exact((hprs.mono sq).keep kT).app (.cons (kT _ _ hqq) .nil)
  rotate_left
  ·exact λ x σ H A B h z=>h _ _ z
  ·exact λ σ H A B h ⟨v,e1,n1,z⟩=>⟨v,e1,n1,λ p np=>h _ _ (z p np)⟩
  rintro ys H12 ⟨ts2,rfl,hl12,s12,hprs⟩;rw [List.length_map,List.take_length] at hprs;have ht8:=gK R;refine⟨l12,ts2,by8 R,rfl,hl12,hprs,λ q hq=>?_,by lia,?_⟩
  ·obtain⟨b,_,rfl⟩:=List.mem_map.mp hq;show 8≤24;decide
  have s012:Same H10 H12:=s11.trans s12;have hB12:=hB10.keep λ c o e _=>s012 _ _ e
  obtain⟨dx12,r12,k12,hp12⟩:=hB12.ob;refine⟨_,rfl,p,dx12,_,rfl,hp12,dP _ _ _ (by decide+kernel) (by decide+kernel) (by decide+kernel),p,d,_,_,rfl,hB12,_,rfl,_,rfl,bS (by rw [aI,ay,ht8];lia),?_⟩;rw [kJ (by rw [ay,ht8];lia),rS hgI row];refine g1 _ _ ?_;clear g1;have s0f:=(s08.trans s810).trans s012;refine⟨_,rfl,_,rfl,_,rfl,l,l8,Pp,L,W,rfl,⟨ts,s0f _ _ hl,hts.keep λ a xs e=>s0f _ _ e⟩,by lia,s012 _ _ (s810 _ _ hl8),tok,gr,λ lq ts3 H13 s13 hlq hprs3=>?_⟩;have hth:=dB tok.six Pp;refine⟨lq,ts3,hP L Pp,rfl,hlq,hprs3,nU tok,by lia,_,_,rfl,rfl,?_,?_⟩
  ·rw [aI,aI,ay,ay];exact bS (by lia)
  ·try dsimp only
   rw [cD,<-bU];exact k L It b H13 hsh hit (s0f.trans s13)
def qe:Sp:=λ vs H Q _=>∃(l:Addr) (c:Int) (Pp:List Pc) (W:List Nat),vs=[.ref l,.int c]/\PL H l Pp/\GR W Pp/\1≤Pp.length/\Pp.length≤64/\∀(L:List Nat) (H':Hp),TOk L Pp->Same H H'->Q (.str (txt (bitsP (W13.puts (ones3 L)++hP L Pp)))) H'
abbrev se:List Str:=["_law_pieces_here","_law_cell","_law_things","_law_piece","_law_lengths","_law_k"]
theorem scOwnDue:FnScope se ["_law_pieces_here","_law_cell"] (defScope fX):=⟨rfl,rfl,rfl,by decide+kernel,rfl,by decide+kernel,by decide+kernel⟩
theorem xb (q:Nat)(Q:List Nat):inV (vN q) (Q.map vN)=decide (q∈Q):=by
 unfold inV
 induction Q with
 |nil=>simp
 |cons a Q ih=>
  rw [List.map_cons,List.any_cons,ih];show((((a:Nat):Int)==((q:Nat):Int))||decide (q∈Q))=decide (q∈a::Q);by_cases e:q=a
  ·subst e;simp
  ·have:¬((a:Nat):Int)=((q:Nat):Int):=λ z=>e (by lia)
   simp [e,this]
theorem t5 (Q:List Nat):(Q.map vN).all flatV=true:=by
 rw [List.all_eq_true];intro x hx;obtain⟨b,_,rfl⟩:=List.mem_map.mp hx;rfl
theorem xw:(List.replicate 272 [vN 0]).flatten=(List.replicate 272 0).map vN:=by
 generalize 272=n
 induction n with
 |zero=>rfl
 |succ n ih=>rw [List.replicate_succ,List.flatten_cons,ih,List.replicate_succ];rfl
theorem pM (L:List Nat)(q v:Nat):(L.map vN).set q (vN v)=(L.set q v).map vN:=by rw [List.map_set]
end
theorem rg:∀L:List Nat,tots (L.map λ b=>(b,3))=3*L.length
 | []=>rfl
 |a::L=>by rw [List.map_cons,bv,rg L,List.length_cons];show 3+3*L.length=_;lia
section
variable {P : Program} {w : World} {K : PySem.W.Frag} {mg : Str -> Option Value} {base : Heap} {B D C : Addr}
theorem pA {f:Addr}{fd:FuncData}(F:Fn K mg "_law_own_due" fX ["_law_pieces_here","_law_cell"] f fd)(Y:Own K mg B D C):FnOk P w K mg base CX0 31 f fd ["_law_pieces_here","_law_cell"] qe:=by
 obtain⟨S0,⟨_,_,Di⟩,⟨_,_,Th⟩,⟨_,_,Lc⟩,⟨_,_,Pt⟩⟩:=Y;have T:=S0.Sh.X;have GD:=iK (P:=P) (w:=w) (base:=base) Di T;have GT:=fr (P:=P) (w:=w) (mg:=mg) (base:=base) Th;have GP:=jJ (P:=P) (w:=w) (base:=base) Pt Lc Th T;refine F.F.ok scOwnDue (λ vs H Q E h=>?_) (λ cdv A outer st H vs Q E hr h=>?_)
 ·obtain⟨l,c,Pp,W,rfl,_⟩:=h;rfl
 ·obtain⟨l,c,Pp,W,rfl,⟨ts,hl,hts⟩,gr,hP1,hP64,k⟩:=h;have hn:=hr.hd (by decide);have hr1:Room 1 _:=hr.mono (by decide);have hr2:Room 2 _:=hr.mono (by decide);refine⟨_,ac (aj (i:=2) scOwnDue.nd rfl (Or.inl rfl) (aV ad))
   (ac (aS PassesOwn.never rfl (bf (pv 0)) (aF (i:=3) scOwnDue.nd rfl (Or.inl rfl)) (ag (aM (ar jc (am GT hr1 (by rfl) Th.m Th.F.kp Th.b .nil ap (aa (pv 3) ad)) (pv 2) (by rfl)) (ag (aD (b7 PySem.F.plainAttrs_list PySem.F.slot_list_append PySem.F.type_list_append aO (pv 2) (aa (am GT hr1 (by rfl) Th.m Th.F.kp Th.b .nil ap (aa (pv 3) ad)) ad)))) aB)))
   (ac (aj (i:=4) scOwnDue.nd rfl (Or.inl rfl) (ai fE (aV (aa ae ad)) ae))
   (ac (aS PassesOwn.never rfl (bw (by rfl) T.range (aa (aq ao (by rfl) T.len PySem.boot_len (aa (pv 2) ad)) ad)) (aF (i:=5) scOwnDue.nd rfl (Or.inl rfl)) (ag (dX ae (fw (pv 4) (aL aN (pv 2) (pv 5) (λ _ _=>rfl)) cW))))
   (ac (aM (PW.pt (c5 (ar df (aq ao (by rfl) T.len PySem.boot_len (aa (pv 2) ad)) ae (ax _)) (cZ (ar bh (ai aQ (pv 1) ae) ae (ax _))))) (ag (aS PassesOwn.never rfl (bw (by rfl) T.range (aa (aq ao (by rfl) T.len PySem.boot_len (aa (pv 2) ad)) ad)) (aF (i:=5) scOwnDue.nd rfl (Or.inl rfl)) (ag (dX (aq (cC hn) (by rfl) T.min PyProof.Rows.boot_min (aa ae (aa (ai aA (pv 5) ae) ad))) (fw (pv 4) (aL aN (pv 2) (ai aQ (ai aA (pv 5) (ai a8 (pv 1) ae)) (aq ao (by rfl) T.len PySem.boot_len (aa (pv 2) ad))) (λ _ _=>rfl)) cW))))) aB)
   (ag (az (am GD hr1 (by rfl) Di.m Di.F.kp Di.b .nil ap (aa (ai fz (jg (N:=["_law_length"]) (g:=bZ 0) (te:=wU) rfl rfl (by decide+kernel) (by decide+kernel) (by decide+kernel) (bf (pv 4)) (λ fp s H=>aF (i:=0) xz rfl (Or.inl rfl)) (λ fp s H=>bB (aa (pv 0) (aa ae ad)))) (am GP hr2 (by rfl) Pt.m Pt.F.kp Pt.b .nil ap (aa (pv 0) (aa (pv 4) ad)))) ad)))))))),?_⟩
  have hq272:∀x∈Pp,th x<272:=λ x hx=>by
   obtain⟨_,gx⟩:=gr.all x hx;exact iO gx
  refine seq_g λ R1 g1=>?_
  refine⟨by decide,λ lt nlt=>g1 _ _ ?_⟩;clear g1;have s1:=ak (o:=.lst []) nlt;have h1t:(upd H lt (.lst [])) lt=some (.lst (([]:List Nat).map vN)):=upd_same;have nll:l≠lt:=af hl nlt;generalize upd H lt (.lst [])=H1 at*;refine seq_g λ R1 g1=>?_
  refine⟨_,rfl,l,rfl,⟨_,SqL.of (s1 _ _ hl)⟩,bE (D:=⟨_,_,λ _ _=>False,λ _ _=>False⟩) (K:=K) (a:=l) (xs:=ts.map V.ref) (λ i σ H2=>∃(v:Option V) (Q:List Nat),σ=[some (.ref l),some (.int c),some (.ref lt),v,none,none]/\H2 lt=some (.lst (Q.map vN))/\(∀x∈Pp.take i,th x∈Q)/\(∀q∈Q,q<272)/\Q.length≤i/\∀c o,c≠lt->H1 c=some o->H2 c=some o)
   ⟨none,[],rfl,h1t,λ x hx=>by simp at hx,λ q hq=>(by cases hq),Nat.le_refl _,λ _ _ _ e=>e⟩ (λ i σ H2 _ ⟨_,_,_,_,_,_,_,kp⟩=>SqL.of (kp _ _ nll (s1 _ _ hl))) ?_ ?_⟩
  ·clear g1;rintro i y σ H2 hi ⟨v,Q,rfl,h2t,hin,hq,hQl,kp⟩;obtain⟨t,ht,rfl⟩:=dA hi;have hil:i<Pp.length:=by rw [<-hts.1];exact(List.getElem?_eq_some_iff.mp ht).1
   have hPi:Pp[i]?=some Pp[i]:=List.getElem?_eq_getElem hil;have htt:=hts.2 i t _ ht hPi;have hx272:=hq272 Pp[i] (List.getElem_mem hil);have h2p:=kp _ _ (af htt nlt) (s1 _ _ htt);have htk:=cY hPi;generalize Pp[i]=xx at*;refine⟨_,rfl,t,xx,rfl,h2p,_,rfl,lt,_,rfl,.inl (SqL.of h2t),rfl,t5 _,_,rfl,aJ (λ h=>?_) (λ h=>?_)⟩
   ·refine⟨_,rfl,.inl ⟨rfl,_,SqL.of h2t⟩,_,rfl,t,xx,rfl,h2p,lt,_,_,rfl,rfl,h2t,aU (by rw [List.length_map];lia),_,Q++[th xx],rfl,by rw [upd_same,List.map_append];rfl,λ x hx=>?_,λ q hq'=>?_,by rw [List.length_append];show Q.length+1≤i+1;lia,λ c o n e=>?_⟩
    ·rw [htk] at hx;rcases List.mem_append.mp hx with z|z
     ·exact List.mem_append_left _ (hin x z)
     ·rw [List.mem_singleton.mp z];simp
    ·rcases List.mem_append.mp hq' with z|z
     ·exact hq q z
     ·rw [List.mem_singleton.mp z];exact hx272
    ·rw [upd_ne n];exact kp _ _ n e
   ·have hm:th xx∈Q:=by
     have h':¬((!inV (vN (th xx)) (Q.map vN))=true):=h;rw [xb] at h';simpa using h'
    refine⟨_,Q,rfl,h2t,λ x hx=>?_,hq,by lia,kp⟩;rw [htk] at hx;rcases List.mem_append.mp hx with z|z
    ·exact hin x z
    ·rw [List.mem_singleton.mp z];exact hm
  rintro σ H2 ⟨v,Q,rfl,h2t,hin,hq,hQl,kp⟩;rw [List.length_map,hts.1] at hQl;rw [List.length_map,hts.1,List.take_length] at hin;refine g1 _ _ ?_;clear g1;have s02:Same H H2:=λ c o e=>kp _ _ (af e nlt) (s1 _ _ e)
  clear kp h1t s1;have hQ1:1≤Q.length:=by
   obtain⟨x,hx⟩:=List.exists_mem_of_length_pos hP1;exact List.length_pos_iff.mpr (List.ne_nil_of_mem (hin x hx))
  have hgQ:∀j,j<Q.length->∃q,Q[j]?=some q/\(Q.map vN)[j]?=some (vN q)/\q<272/\q∈Q:=λ j hj=>by
   have e:=List.getElem?_eq_getElem hj;exact⟨Q[j],e,by rw [List.getElem?_map,e];rfl,hq _ (List.getElem_mem hj),List.getElem_mem hj⟩
  refine seq_g λ R1 g1=>?_
  refine⟨(by show 1≤sizeLine;decide),λ l4 n4=>?_⟩;have s4:=ak (o:=.lst [V.int 0]) n4;have h44:(upd H2 l4 (.lst [V.int 0])) l4=some (.lst [vN 0]):=upd_same;generalize upd H2 l4 (.lst [V.int 0])=H4 at*;refine⟨l4,_,_,rfl,rfl,h44,by decide,by decide,(by show 1*272≤sizeLine;decide),λ l5 n5=>g1 _ _ ?_⟩;clear g1;have s5:=ak (o:=.lst ((List.replicate 272 [vN 0]).flatten)) n5;have h55:(upd H4 l5 (.lst ((List.replicate (272:Int).toNat [vN 0]).flatten))) l5=some (.lst ((List.replicate 272 0).map vN)):=by
   rw [upd_same];exact congrArg (λ z=>some (HO.lst z)) xw
  have n25:H2 l5=none:=none_of s4 n5;have s25:Same H2 (upd H4 l5 (.lst ((List.replicate (272:Int).toNat [vN 0]).flatten))):=s4.trans s5;generalize upd H4 l5 (.lst ((List.replicate (272:Int).toNat [vN 0]).flatten))=H5 at*;clear s5 s4 h44;have h5t:=s25 _ _ h2t;have ntl:lt≠l5:=af h2t n25;have n05:H l5=none:=none_of s02 n25;have s05:=s02.trans s25;have elen:(((Q.map vN).length:Nat):Int).toNat=Q.length:=by rw [List.length_map,Int.toNat_natCast]
  refine seq_g λ R1 g1=>?_
  refine⟨_,rfl,lt,_,rfl,.inl (SqL.of h5t),_,rfl,by rw [List.length_map];lia,by rw [List.length_map];lia,bc (D:=⟨_,_,λ _ _=>False,λ _ _=>False⟩) (lo:=0) (n:=(((Q.map vN).length:Nat):Int).toNat) (λ j σ H6=>∃(v:Option V) (v5:Option V) (L:List Nat),σ=[some (.ref l),some (.int c),some (.ref lt),v,some (.ref l5),v5]/\H6 l5=some (.lst (L.map vN))/\Tab L (Q.take j)/\C9.krf 6 L≤j/\H6 lt=some (.lst (Q.map vN))/\∀c o,c≠l5->H5 c=some o->H6 c=some o)
   ⟨_,none,List.replicate 272 0,rfl,h55,sZ,by rw [rk];exact Nat.le_refl _,h5t,λ _ _ _ e=>e⟩ ?_ ?_⟩
  ·clear g1;rintro j σ H6 hj ⟨v,v5,L,rfl,h6l,tab,hk,h6t,kp⟩;rw [elen] at hj;obtain⟨q,e1,e2,e3,e4⟩:=hgQ j hj;have ej:(0:Int)+((j:Nat):Int)=((j:Nat):Int):=by lia
   try dsimp only
   rw [ej];have hql:q<L.length:=by rw [tab.len];exact e3
   refine⟨_,rfl,_,rfl,_,rfl,lt,_,_,_,rfl,rfl,SqL.of h6t,aw e2,l5,_,_,q,rfl,rfl,h6l,S.ixN_nat (by rw [List.length_map];exact hql),_,_,L.set q 6,rfl,?_,?_,?_,?_,λ c o n e=>?_⟩
   ·rw [upd_same];exact congrArg (λ z=>some (HO.lst z)) (pM L q 6)
   ·rw [cY e1];exact tab.add e3 (by decide) (by decide)
   ·have:=nz (v:=6) hql;have h6:(if 0<6 then 2^(6-6) else 0)=1:=rfl;lia
   ·rw [upd_ne ntl];exact h6t
   ·rw [upd_ne n];exact kp _ _ n e
  rintro σ H6 ⟨v3,v5,L,rfl,h6l,tab,hk,h6t,kp⟩;rw [elen] at hk tab;rw [List.take_length] at tab;refine g1 _ _ ?_;clear g1;have s06:Same H H6:=λ c o e=>kp _ _ (af e n05) (s05 _ _ e)
  clear kp h55 h5t;refine seq_g λ R1 g1=>?_
  have J:∀(v5:Option V) (L:List Nat) (H7:Hp),TOk L Pp->H7 l5=some (.lst (L.map vN))->Same H H7->R1 [some (.ref l),some (.int c),some (.ref lt),v3,some (.ref l5),v5] H7:=by
   intro v5 L H7 tok h7 s07;refine g1 _ _ ?_;clear g1;refine⟨_,rfl,l5,rfl,⟨_,SqL.of h7⟩,λ l8 n8=>?_⟩;refine jx (g:=bZ 0) (te:=wU) (K:=K) (a:=l5) (l:=l8) (xs:=L.map vN) (n:=1) (λ i ys H8=>∃ts:List Addr,ys=ts.map V.ref/\H8 l8=some (.lst ys)/\Same H7 H8/\Prs H8 ts ((L.take i).map λ b=>(b,3)))
    ⟨[],rfl,upd_same,ak n8,.nil⟩ (λ i ys H8 _ ⟨_,_,_,sm,_⟩=>SqL.of (sm _ _ h7)) ?_ ?_ ?_ ?_
   ·rintro i y ys σ H12 hy ⟨ts,rfl,hl12,sm,hprs⟩ hσ;obtain⟨b,hb,rfl⟩:=cm hy;have hil:i<L.length:=(List.getElem?_eq_some_iff.mp hb).1;have:=tok.len;obtain⟨u0,rfl⟩:∃u0,σ=[u0]:=match σ,hσ with| [u0],_=>⟨u0,rfl⟩
    have htl:=hprs.len;rw [List.length_map,List.length_take] at htl;refine⟨_,rfl,(by show 2≤sizeLine;decide),λ q nq=>?_⟩;have sq:=ak (o:=.tup [vN b,V.int 3]) nq;have hqq:(upd H12 q (.tup [vN b,V.int 3])) q=some (.tup [vN b,vN 3]):=upd_same;have hl6:=sq _ _ hl12;generalize upd H12 q (.tup [vN b,V.int 3])=H13 at*;have kT:∀c xs,H13 c=some (.tup xs)->(upd H13 l8 (.lst (ts.map V.ref++[V.ref q]))) c=some (.tup xs):=λ c xs e=>by
     rw [upd_ne (ne_of e hl6 (by intro z;cases z))];exact e
    refine⟨hl6,aU (by rw [List.length_map];lia),rfl,ts++[q],by rw [List.map_append];rfl,upd_same,λ c o e=>?_,?_⟩
    ·rw [upd_ne (af e n8)];exact sq _ _ (sm _ _ e)
    ·rw [cY hb,List.map_append];exact((hprs.mono sq).keep kT).app (.cons (kT _ _ hqq) .nil)
   rotate_left
   ·exact λ x σ H A B h z=>h _ _ z
   ·exact λ σ H A B h ⟨v,e1,n1,z⟩=>⟨v,e1,n1,λ p np=>h _ _ (z p np)⟩
   rintro ys H8 ⟨ts2,rfl,hl8,s8,hprs⟩;rw [List.length_map,List.take_length] at hprs;have s08:=s07.trans s8;refine⟨_,rfl,_,rfl,l,l5,Pp,L,W,rfl,⟨ts,s08 _ _ hl,hts.keep λ a xs e=>s08 _ _ e⟩,by lia,s8 _ _ h7,tok,gr,λ lq ts3 H9 s9 hlq hprs3=>?_⟩;have hth:=dB tok.six Pp;have hl2:=hprs.len;rw [List.length_map,tok.len] at hl2;have hl3:=hprs3.len;have hl4:=pH L Pp;refine⟨l8,lq,_,_,rfl,rfl,s9 _ _ hl8,hlq,dj (by rw [List.length_map,List.length_map];lia),λ la na=>?_⟩
   try dsimp only
   rw [<-List.map_append];have sa:=ak (o:=.lst ((ts2++ts3).map V.ref)) na;have et3:=rg L;refine⟨la,ts2++ts3,(L.map λ b=>(b,3))++hP L Pp,rfl,upd_same,((hprs.mono s9).app hprs3).mono sa,λ q hq=>?_,by rw [aC,et3,tok.len];lia,?_⟩
   ·rcases List.mem_append.mp hq with z|z
    ·obtain⟨b,_,rfl⟩:=List.mem_map.mp z;show 3≤24;decide
    ·exact nU tok q z
   ·rw [<-oP];exact k L _ tok ((s08.trans s9).trans sa)
  clear g1;have h0:TOk L Pp:=tab.tok (by lia) hin hq hP1;refine⟨_,rfl,lt,_,rfl,.inl (SqL.of h6t),_,_,rfl,rfl,_,rfl,aJ (λ h7=>?_) (λ _=>J _ L H6 h0 h6l s06)⟩;have hQ7:Q.length<7:=by have:=of_decide_eq_true h7;rw [List.length_map] at this;lia
  refine⟨_,rfl,_,_,rfl,rfl,(by show(0:Int)<2;decide),rfl,_,rfl,aJ (λ _=>?_) (λ _=>J _ L H6 h0 h6l s06)⟩;refine⟨_,rfl,lt,_,rfl,.inl (SqL.of h6t),_,rfl,by rw [List.length_map];lia,by rw [List.length_map];lia,bc (D:=⟨_,_,λ _ _=>False,λ _ _=>False⟩) (lo:=0) (n:=(((Q.map vN).length:Nat):Int).toNat) (λ j σ H7=>∃(v5:Option V) (L:List Nat),σ=[some (.ref l),some (.int c),some (.ref lt),v3,some (.ref l5),v5]/\H7 l5=some (.lst (L.map vN))/\Tab L Q/\C9.krf 6 L+j+2^(6-j)≤Q.length+64/\H7 lt=some (.lst (Q.map vN))/\∀c o,c≠l5->H6 c=some o->H7 c=some o)
   ⟨v5,L,rfl,h6l,tab,by show C9.krf 6 L+0+64≤_;lia,h6t,λ _ _ _ e=>e⟩ ?_ ?_⟩
  ·rintro j σ H7 hj ⟨v5,L,rfl,h7l,tab,hk,h7t,kp⟩;rw [elen] at hj;have hj6:j<6:=by lia
   obtain⟨m,hm,em⟩:∃m:Nat,m<Q.length/\((0:Int)+((j:Nat):Int)+c/2)%(((Q.map vN).length:Nat):Int)=((m:Nat):Int):=by
    rw [List.length_map];have h1:(0:Int)<((Q.length:Nat):Int):=by lia
    have h2:=Int.emod_nonneg ((0:Int)+((j:Nat):Int)+c/2) (Int.ne_of_gt h1);have h3:=Int.emod_lt_of_pos ((0:Int)+((j:Nat):Int)+c/2) h1;exact⟨(((0:Int)+((j:Nat):Int)+c/2)%((Q.length:Nat):Int)).toNat,by lia,by lia⟩
   obtain⟨q,e1,e2,e3,e4⟩:=hgQ m hm;have hql:q<L.length:=by rw [tab.len];exact e3
   have emin:(if(0:Int)+((j:Nat):Int)+1<6 then(0:Int)+((j:Nat):Int)+1 else 6)=((j+1:Nat):Int):=by split<;>lia
   refine⟨_,rfl,_,_,rfl,rfl,_,_,rfl,?_⟩
   try dsimp only
   rw [emin];refine⟨_,rfl,_,rfl,_,rfl,_,rfl,_,_,rfl,rfl,⟨by decide,by decide⟩,_,_,rfl,rfl,_,rfl,lt,_,rfl,.inl (SqL.of h7t),_,_,rfl,rfl,by rw [List.length_map];lia,?_⟩
   try dsimp only
   rw [em];refine⟨lt,_,_,_,rfl,rfl,SqL.of h7t,aw e2,l5,_,_,q,rfl,rfl,h7l,S.ixN_nat (by rw [List.length_map];exact hql),_,L.set q (j+1),rfl,?_,tab.set e3 (by lia) (by lia),?_,?_,λ c o n e=>?_⟩
   ·rw [upd_same];exact congrArg (λ z=>some (HO.lst z)) (pM L q (j+1))
   ·have h1:=nz (v:=j+1) hql;have h2:=tab.has q e4;rw [if_pos (show 0<L.getD q 0 from h2),if_pos (show 0<j+1 by lia)] at h1;have h3:=pow_pos2 (6-L.getD q 0);have h4:2^(6-j)=2*2^(6-(j+1)):=by rw [show 6-j=(6-(j+1))+1 by lia,Nat.pow_succ];lia
    lia
   ·rw [upd_ne ntl];exact h7t
   ·rw [upd_ne n];exact kp _ _ n e
  ·rintro σ H7 ⟨v5,L,rfl,h7l,tab,hk,h7t,kp⟩;rw [elen] at hk;refine J _ L H7 (tab.tok ?_ hin hq hP1) h7l λ c o e=>kp _ _ (af e n05) (s06 _ _ e)
   have:=pow_pos2 (6-Q.length);lia
end
theorem uw:(Str.ofString "01":Str)=txt (bitsP [(1,2)]):=by decide+kernel
theorem qb (n s:Nat)(ps:List (Nat×Nat)):nums ((n,s)::ps) 0=nums ps n:=by
 show nums ps (0*2^s+n)=_;rw [Nat.zero_mul,Nat.zero_add]
theorem on {ps:List (Nat×Nat)}(h:Good ps):Good ((1,2)::ps):=λ q hq=>by
 rcases List.mem_cons.mp hq with rfl|hq
 ·decide
 ·exact h q hq
theorem nC {Q L L':List Nat}{It It':List W13.Itm}{b b':Nat}(hl:L.length=272)(h:ShL Q L)(hi:W13.Walk L 0 0 It 272 b)(h':ShL Q L')(hi':W13.Walk L' 0 0 It' 272 b'):L'=L/\It'=It:=by
 have e:=h'.uniq h;subst e;rw [<-hl] at hi hi';exact⟨rfl,mM hi' hi⟩
structure WayOk (P:Program)(w:World)(K:PySem.W.Frag)(mg:Str->Option Value)(base:Heap)(B D C:Addr):Prop where
 cl:Cls K C
 num:∃f fd,Meth K C "number" f/\Binds K fd ["self"] []/\FnOk P w K mg base CX0 1 f fd ["self"] ko
 tell:∃f fd,Meth K C "tell" f/\Binds K fd ["self","bits","text","before"] []/\FnOk P w K mg base CX0 35 f fd ["self","bits","text","before"] (lF B)
 read:∃f fd,Meth K C "read" f/\Binds K fd ["self","reader","count","before"] []/\FnOk P w K mg base CX0 37 f fd ["self","reader","count","before"] (kn D)
 cost:∃f fd,Meth K C "cost" f/\Binds K fd ["self","text","before"] []/\FnOk P w K mg base CX0 36 f fd ["self","text","before"] (mW C)
section
variable {P : Program} {w : World} {K : PySem.W.Frag} {mg : Str -> Option Value} {base : Heap} {B D C : Addr}
def u7 (C:Addr):Sp:=λ vs H Q _=>∃(o dx a:Addr) (x:V) (W T:List Nat) (Pp:List Pc) (It:List W13.Itm) (L:List Nat),vs=[.ref o,.ref a,x,.str (txt (bitsP (W13.puts It++hP L Pp)))]/\H o=some (.ins C dx [])/\H a=some (.lst (T.map vN))/\WinV H x W/\W.length≤192/\(∀x∈It,W13.StOk x)/\W13.decL 0 It=L/\TOk L Pp/\GR W Pp/\runP W Pp=W++T/\T.length≤64/\∀H',Same H H'->Q (.bl true) H'
abbrev xm:List Str:=["_law_way","_law_text","_law_before","_law_due_here","_law_reader","_law_handed","_law_found"]
theorem scRead:FnScope xm ["_law_way","_law_text","_law_before","_law_due_here"] (defScope mY):=⟨rfl,rfl,rfl,by decide+kernel,rfl,by decide+kernel,by decide+kernel⟩
theorem uC {f fR:Addr}{fd fdR:FuncData}(F:Fn K mg "_law_read" mY ["_law_way","_law_text","_law_before","_law_due_here"] f fd)(Rw:Fn K mg "_law_row_of" gn ["_law_digits_here"] fR fdR)(Z:Rdr K mg D)(W0:WayOk P w K mg base B D C):
  FnOk P w K mg base CX0 38 f fd ["_law_way","_law_text","_law_before","_law_due_here"] (u7 C):=by
 have X:=Z.R.X;obtain⟨_,_,Nr⟩:=Z.needrow;obtain⟨_,_,Wh⟩:=Z.R.whole;obtain⟨_,_,S⟩:=Z.needsize;obtain⟨_,_,O⟩:=Z.ones;obtain⟨_,_,Ba⟩:=Z.bitsat;obtain⟨_,_,Tk⟩:=Z.take;obtain⟨_,_,L⟩:=Z.left;obtain⟨_,_,Pl⟩:=Z.place;obtain⟨_,_,FI,bI,MI⟩:=Z.init;have TR:=Z.T;have GI:=qh (P:=P) (w:=w) (base:=base) FI Nr Z.R TR;have GT:=f8 (P:=P) (w:=w) (base:=base) Tk.F S Wh Ba O L TR X;have GPl:=gP (P:=P) (w:=w) (base:=base) Pl.F TR;have GR':=jG (P:=P) (w:=w) (base:=base) Rw X;obtain⟨_,_,m0,b0,G0⟩:=W0.read;refine F.F.ok scRead (λ vs H Q E h=>?_) (λ cdv A outer st H vs Q E hr h=>?_)
 ·obtain⟨o,dx,a,x,W,T,Pp,It,L,rfl,_⟩:=h;rfl
 ·obtain⟨o,dx,a,x,W,T,Pp,It,L,rfl,ho,ha,hx,hWl,hIt,hdec,tok,gr,hrun,h64,k⟩:=h;have hr1:Room 1 _:=hr.mono (by decide);have hr3:Room 3 _:=hr.mono (by decide);have hr6:Room 6 _:=hr.mono (by decide);have hu:=hr.units;refine⟨_,ac (aj (i:=4) scRead.nd rfl (Or.inl rfl) (nQ MI GI hr6 (by rfl) Z.m bI .nil ap (aa (ai fz (am GR' hr1 (by rfl) Rw.m Rw.F.kp Rw.b .nil ap (aa (ai cH bY (pv 3)) ad)) (aV (aa ae ad))) ad)))
   (ac (aD (a6 (pv 4) TR.cl Tk.m GT hr3 Tk.b .nil ap (aa ae ad)))
   (ac (aj (i:=5) scRead.nd rfl (Or.inl rfl) (eC (ar iW (pv 2) dU (ax _)) (pv 2) (bj aZ (by rfl) X.list PyProof.Rows.boot_list (aa (pv 2) ad))))
   (ac (aj (i:=6) scRead.nd rfl (Or.inl rfl) (a6 (pv 0) W0.cl m0 G0 hr b0 .nil ap (aa (pv 4) (aa (aq ao (by rfl) X.len PySem.boot_len (aa (pv 1) ad)) (aa (pv 5) ad)))))
   (ag (az (fk (aq eO (by rfl) X.isi PyProof.Rows.boot_isinstance (aa (pv 6) (aa (f6 (v:=.ty "list") (by rfl) X.list PyProof.Rows.boot_list rfl) ad))) (fk (dJ (lN hu) (pv 6) (pv 1) (ax _)) (fk (dJ bh (bi (pv 4) TR.cl Pl.m GPl hr1 Pl.b .nil ap) (ai aA ae (aq bQ (by rfl) X.len PySem.boot_len (aa (pv 3) ad))) (ax _)) (iZ (PE.either (dJ bh (pv 5) (pv 2) (ax _)) (dJ (lN hu) (pv 5) (pv 2) (ax _)))))))))))),?_⟩
  have hlen:=gr.len;rw [hrun,List.length_append] at hlen;have htp:=dB tok.six Pp;have hti:=dE 0 hIt;rw [hdec,tok.len] at hti;have hgp:Good (W13.puts It++hP L Pp):=λ q hq=>by
   rcases List.mem_append.mp hq with z|z
   ·exact W13.puts_good hIt q z
   ·exact mF tok gr q z
  have htot:tots (W13.puts It++hP L Pp)≤1712:=by rw [aC];lia
  generalize hps:W13.puts It++hP L Pp=ps at*;have hgo:=on hgp;have htt:tots ((1,2)::ps)=2+tots ps:=bv _ _;refine seq_g λ R1 g1=>?_
  refine⟨_,rfl,_,_,rfl,rfl,?_,?_⟩
  ·rw [uw,aI,aI,ay,ay];exact bS (by show 2+tots ps≤100000;lia)
  try dsimp only
  rw [uw,cD,<-bU];refine⟨_,rfl,by rw [ay];show tots ((1,2)::ps)≤4000;lia,λ l2 R H2 n2 row h22 s2=>?_⟩;replace row:RowOf (num (bitsP ((1,2)::ps))) (bitsP ((1,2)::ps)).length R:=row;rw [cU hgo,ay] at row;have hRl:=row.len;have hrd:=RdOf.mk' row hgo (z:=51) (by decide);have hrb:=hrd.byt;refine⟨(by show 1≤sizeLine;decide),λ l3 n3=>?_⟩;have s3:=ak (o:=.lst [V.int 51]) n3;have h33:(upd H2 l3 (.lst [V.int 51])) l3=some (.lst ([51].map vN)):=upd_same;have h32:=s3 _ _ h22;have s03:=s2.trans s3;generalize upd H2 l3 (.lst [V.int 51])=H3 at*;refine⟨l2,l3,_,_,rfl,rfl,h32,h33,dj (by rw [List.length_map];show R.length+1≤2000;lia),λ l4 n4=>?_⟩;rw [<-List.map_append];have s4:=ak (o:=.lst ((R++[51]).map vN)) n4;have h44:(upd H3 l4 (.lst ((R++[51]).map vN))) l4=some (.lst ((R++[51]).map vN)):=upd_same;have s04:=s03.trans s4;generalize upd H3 l4 (.lst ((R++[51]).map vN))=H4 at*;have eps:(1,2)::ps++[(0,8*R.length-tots ((1,2)::ps)),(51,8)]=[(1,2)]++ps++[(0,8*R.length-tots ((1,2)::ps)),(51,8)]:=rfl;rw [eps] at hrd;generalize [(0,8*R.length-tots ((1,2)::ps)),(51,8)]=post at*;generalize R++[51]=R' at*;intro r dr nr ndr ner;have hr0:(upd (upd H4 dr (.own r)) r (.ins D dr [])) r=some (.ins D dr []):=upd_same;have s5:Same H4 (upd (upd H4 dr (.own r)) r (.ins D dr [])):=λ c o e=>by
   rw [upd_ne (af e nr),upd_ne (af e ndr)];exact e
  refine⟨r,dr,l4,R',rfl,hr0,s5 _ _ h44,hrb,λ d H5 nd hR5 kp5=>⟨rfl,g1 _ _ ?_⟩⟩;clear g1;have s45:Same H4 H5:=λ c o e=>kp5 _ _ (s5 _ _ e) (af e nr)
  have s05:=s04.trans s45;have nr0:H r=none:=none_of s04 nr;clear kp5 s5 hr0 h44 h33 h32 s4 s3;refine seq_g λ R1 g1=>?_
  obtain⟨⟨dx5,hr5'⟩,_,_,_⟩:=id hR5;obtain⟨q1,q2⟩:=hrd.at (a:=[]) (n:=1) (s:=2) (c:=ps++post) (by simp);have q1':0+2≤8*R'.length:=q1;refine⟨_,rfl,r,dx5,_,rfl,hr5',eu _ _ (by decide+kernel) (by decide+kernel),r,d,R',0,2,rfl,hR5,by decide,q1',λ H6 hR6 kp6=>g1 _ _ ?_⟩;clear g1;have s06:Same H H6:=λ c o e=>kp6 _ _ (s05 _ _ e) (af e nr0)
  have hR6':ReadAt D H6 r d R' (tots [(1,2)]):=hR6;have hx6:=hx.same s06;refine seq_g λ R1 g1=>?_
  have J:∀(y:V) (H7:Hp),Same H6 H7->WinV H7 y W->((y=.non/\x=.non)\/∃p q,y=.ref p/\x=.ref q/\H7 p=some (.lst (W.map vN))/\H7 q=some (.lst (W.map vN)))->R1 [some (.ref o),some (.ref a),some x,some (.str (txt (bitsP ps))),some (.ref r),some y,none] H7:=by
   intro y H7 s7 hy hyx;refine g1 _ _ ?_;clear g1;have s07:=s06.trans s7;have hR7:=hR6'.keep λ c o e _=>s7 _ _ e
   have elen:(((T.map vN).length:Nat):Int)=((T.length:Nat):Int):=by rw [List.length_map]
   refine seq_g λ R2 g2=>?_
   refine⟨_,rfl,o,dx,_,rfl,s07 _ _ ho,rfl,_,rfl,_,rfl,a,_,rfl,.inl (SqL.of (s07 _ _ ha)),?_⟩;rw [elen];refine⟨_,rfl,o,r,d,y,R',[(1,2)],post,W,T,Pp,It,L,rfl,hy,hR7,by rw [hps];exact hrd,hIt,hdec,tok,gr,hrun,h64,hWl,λ l H8 nl hl hR8 kp8=>g2 _ _ ?_⟩;clear g2;rw [hps] at hR8;have s08:Same H H8:=λ c o e=>kp8 _ _ (s07 _ _ e) (af e nr0)
   obtain⟨⟨dx8,hr8⟩,_,_,_⟩:=id hR8;refine⟨_,rfl,_,_,_,_,rfl,.lst hl,r0 K,_,rfl,pz ?_⟩;refine⟨_,rfl,_,rfl,l,a,T.map (λ b=>((b:Nat):Int)),T.map (λ b=>((b:Nat):Int)),rfl,rfl,by rw [<-bV];exact SqL.of hl,by rw [<-bV];exact SqL.of (s08 _ _ ha),_,rfl,aJ (λ _=>?_) (λ h=>absurd (decide_eq_true rfl) h)⟩;have e1:(2:Int)+(((txt (bitsP ps)).length:Nat):Int)=((tots ([(1,2)]++ps):Nat):Int):=by
    rw [aI,ay];show _=((tots ((1,2)::ps):Nat):Int);rw [htt];lia
   refine⟨_,rfl,r,dx8,_,rfl,hr8,eu _ _ (by decide+kernel) (by decide+kernel),r,d,R',_,rfl,hR8,_,rfl,_,rfl,bS (by rw [aI,ay];lia),_,_,rfl,rfl,rfl,_,rfl,aJ (λ _=>?_) (λ h=>?_)⟩
   ·rcases hyx with⟨rfl,rfl⟩|⟨p,q,rfl,rfl,hp,hq⟩
    ·refine .inl ⟨_,rfl,_,rfl,rfl,?_⟩;rw [decide_eq_true rfl];exact k _ s08
    ·have np:p≠r:=λ z=>by subst z;obtain⟨⟨dx,h⟩,_,_,_⟩:=hR7;rw [h] at hp;cases hp
     have nq:q≠r:=λ z=>by subst z;obtain⟨⟨dx,h⟩,_,_,_⟩:=hR7;rw [h] at hq;cases hq
     refine .inr ⟨_,rfl,_,rfl,p,q,W.map (λ b=>((b:Nat):Int)),W.map (λ b=>((b:Nat):Int)),rfl,rfl,by rw [<-bV];exact SqL.of (kp8 _ _ hp np),by rw [<-bV];exact SqL.of (kp8 _ _ hq nq),?_⟩;rw [decide_eq_true rfl];exact k _ s08
   ·exact absurd (decide_eq_true (congrArg V.int e1.symm)) h
  clear g1;rcases hx6 with⟨rfl,hW0⟩|⟨b,rfl,hb⟩
  ·exact⟨_,rfl,rfl,_,rfl,aJ (λ _=>⟨_,rfl,J .non H6 (Same.refl _) (.inl ⟨rfl,hW0⟩) (.inl ⟨rfl,rfl⟩)⟩) (λ h=>absurd (decide_eq_true rfl) h)⟩
  ·refine⟨_,rfl,rfl,_,rfl,aJ (λ h=>absurd (of_decide_eq_true h) (by intro z;cases z)) (λ _=>⟨_,rfl,b,_,rfl,.inl (SqL.of hb),λ p np=>?_⟩)⟩;have sp:=ak (o:=.lst (W.map vN)) np;exact J (.ref p) _ sp (.inr ⟨p,rfl,upd_same⟩) (.inr ⟨p,b,rfl,rfl,upd_same,sp _ _ hb⟩)
end
structure WC (K:PySem.W.Frag)(mg:Str->Option Value)(C:Addr):Prop where
 cl:Cls K C
 mkb:MkB K C
 m:mg "ShareWay"=some (.ref C)
 ha:PySem.W.findIn K (.ref C) "__class__"=some (some (.builtin "object.__class__"))
 hm:PySem.W.mroIn K C (.type "object")=some true
 cost:∃f fd,Me K C "cost" "Way.cost" mN ["self","text","before"] f fd
 num:∃f fd,Me K C "number" "ShareWay.number" fK ["self"] f fd
 tell:∃f fd,Me K C "tell" "ShareWay.tell" mG ["self","bits","text","before"] f fd
 read:∃f fd,Me K C "read" "ShareWay.read" gc ["self","reader","count","before"] f fd
structure All (K:PySem.W.Frag)(mg:Str->Option Value)(B D G C CW:Addr):Prop where
 O:Own K mg B D G
 W:WC K mg C
 way:mg "Way"=some (.ref CW)
 i0:PySem.W.kitOne K (.ref C) (.ref CW)=some true
 hn:PySem.W.specialIn K (.builtin "object.__class__") "__get__"=some (some (.builtin "getset_descriptor.__get__"))
 htk:PySem.W.takesIn K (.builtin "object.__class__")=some true
 cell:∃f fd,Fn K mg "_law_cell_at" eg ["_law_script","_law_k"] f fd
 drawn:∃f fd,Fn K mg "_law_drawn" fh ["_law_seed","_law_k"] f fd
 signs:∃f fd,Fn K mg "_law_signs" gF ["_law_cell","_law_size","_law_ahead"] f fd
 textby:∃f fd,Fn K mg "_law_text_by" gb ["_law_script","_law_first"] f fd
 rowof:∃f fd,Fn K mg "_law_row_of" gn ["_law_digits_here"] f fd
 alike:∃f fd,Fn K mg "_law_alike" eV ["_law_signs_here","_law_place","_law_back","_law_most"] f fd
 lpieces:∃f fd,Fn K mg "_law_pieces" eZ ["_law_text","_law_before"] f fd
 due:∃f fd,Fn K mg "_law_due" tJ ["_law_pieces_here"] f fd
 owndue:∃f fd,Fn K mg "_law_own_due" fX ["_law_pieces_here","_law_cell"] f fd
 read:∃f fd,Fn K mg "_law_read" mY ["_law_way","_law_text","_law_before","_law_due_here"] f fd
theorem kW {H:Hp}{a b:Addr}{o:HO}(h:H a=some o)(n:H b=none):b≠a:=λ z=>by rw [z,h] at n;cases n
section
variable {P : Program} {w : World} {K : PySem.W.Frag} {mg : Str -> Option Value} {base : Heap} {B D G C CW : Addr}
theorem vA (R0:WC K mg C)(S0:Shw K mg B D G):WayOk P w K mg base B D C:=by
 obtain⟨_,_,N⟩:=R0.num;obtain⟨_,_,T⟩:=R0.tell;obtain⟨_,_,R⟩:=R0.read;obtain⟨_,_,Co⟩:=R0.cost;have GT:=tp (P:=P) (w:=w) (base:=base) T.F S0;exact⟨R0.cl,⟨_,_,N.m,N.b,oF N.F⟩,⟨_,_,T.m,T.b,GT⟩,⟨_,_,R.m,R.b,oI R.F S0⟩,⟨_,_,Co.m,Co.b,si Co.F S0.Zb R0.cl T.m T.b GT⟩⟩
def m8 (K:PySem.W.Frag):Sp:=λ vs H Q _=>∃(a:Addr) (ns:List Int),vs=[.ref a]/\SqL K H a (ns.map V.int)/\ns.length≤63/\∀H',Q (.bl true) H'
abbrev xy:List Str:=["_law_script","_law_text","_law_before","_law_way","_law_pieces_here","_law_due_here","_law_window","_law_handed","_law_bits"]
theorem scLaw:FnScope xy ["_law_script"] (defScope sLaw):=⟨rfl,rfl,rfl,by decide+kernel,rfl,by decide+kernel,by decide+kernel⟩
theorem vf {f:Addr}{fd:FuncData}(F:Fun K "law" "law" sLaw f fd)(A0:All K mg B D G C CW):FnOk P w K mg base CX0 40 f fd ["_law_script"] (m8 K):=by
 obtain⟨Ow,WC0,hWay,i0,hcn,htk,⟨_,_,Ce⟩,⟨_,_,Dr⟩,⟨_,_,Si⟩,⟨_,_,Tb⟩,⟨_,_,Rw⟩,⟨_,_,LA⟩,⟨_,_,Lp⟩,⟨_,_,Du⟩,⟨_,_,Od⟩,⟨_,_,Re⟩⟩:=A0;have Zb:=Ow.S.Zb;have Zr:=Ow.S.Cd.Z;have X:=Zb.R.X;have W0:=vA (P:=P) (w:=w) (base:=base) WC0 Ow.S;have GC:=mS (P:=P) (w:=w) (base:=base) Ce X;have GB:=oU (P:=P) (w:=w) (base:=base) Tb Ce Si Dr X;have GW:=jG (P:=P) (w:=w) (base:=base) Rw X;have GL:=lW (P:=P) (w:=w) (base:=base) Lp LA X;have GD:=vJ (P:=P) (w:=w) (base:=base) Du Ow;have GO:=pA (P:=P) (w:=w) (base:=base) Od Ow;have GR':=uC (P:=P) (w:=w) (base:=base) Re Rw Zr W0;obtain⟨_,_,n0,bn0,GN0⟩:=W0.num;obtain⟨_,_,t0,bt0,GT0⟩:=W0.tell;obtain⟨_,_,c0,bc0,GC0⟩:=W0.cost;obtain⟨_,_,FI,bI,MI⟩:=Zb.init;obtain⟨_,_,Ma⟩:=Zb.many;obtain⟨_,_,Ou⟩:=Zb.row;obtain⟨_,_,Wh⟩:=Zb.R.whole;obtain⟨_,_,Sz⟩:=Zb.needsize;obtain⟨_,_,O⟩:=Zb.ones;obtain⟨_,_,Pu⟩:=Zb.put;obtain⟨_,_,M⟩:=Zb.move;have TB:=Zb.T;have GI:=gU (P:=P) (w:=w) (base:=base) FI TB;have GM:=ju (P:=P) (w:=w) (base:=base) Ma.F TB X;have GOu:=iC (P:=P) (w:=w) (base:=base) Ou.F TB X;have GP:=lV (P:=P) (w:=w) (base:=base) Pu.F Sz Wh O M TB X;refine F.ok scLaw (λ vs H Q E h=>?_) (λ cdv A outer st H vs Q E hr h=>?_)
 ·obtain⟨a,ns,rfl,_⟩:=h;rfl
 ·obtain⟨a,ns,rfl,hS,hlen,k⟩:=h;have hr1:Room 1 _:=hr.mono (by decide);have hr2:Room 2 _:=hr.mono (by decide);have hr3:Room 3 _:=hr.mono (by decide);have hr31:Room 31 _:=hr.mono (by decide);have hr32:Room 32 _:=hr.mono (by decide);have hr34:Room 34 _:=hr.mono (by decide);have hr35:Room 35 _:=hr.mono (by decide);have hr36:Room 36 _:=hr.mono (by decide);have hr38:Room 38 _:=hr.mono (by decide);have hu:=hr.units;refine⟨_,ac (dX (am GB hr32 (by rfl) Tb.m Tb.F.kp Tb.b .nil ap (aa (pv 0) (aa ae ad))) (gY rfl (bH (aF (i:=1) scLaw.nd rfl (Or.inl rfl)) (bH (aF (i:=2) scLaw.nd rfl (Or.inl rfl)) ee))))
   (ac (aj (i:=3) scLaw.nd rfl (Or.inl rfl) (rz WC0.mkb (by rfl) WC0.m))
   (ac (aM (PW.pt (il (cj (cf (aq ou (by rfl) X.isi PyProof.Rows.boot_isinstance (aa (pv 3) (aa (aK (v:=.ref CW) (by rfl) hWay rfl) ad))))) (fo (ar og (bi (pv 3) W0.cl n0 GN0 hr1 bn0 .nil ap) ae (ax _))))) (ag (az dQ)) aB)
   (ac (aj (i:=4) scLaw.nd rfl (Or.inl rfl) (am GL hr31 (by rfl) Lp.m Lp.F.kp Lp.b .nil ap (aa (pv 1) (aa (pv 2) ad))))
   (ac (aj (i:=5) scLaw.nd rfl (Or.inl rfl) (am GD hr34 (by rfl) Du.m Du.F.kp Du.b .nil ap (aa (pv 4) ad)))
   (ac (aj (i:=6) scLaw.nd rfl (Or.inl rfl) (pv 2))
   (ac (aM (PW.pt (c5 (ar (lN hu) (pv 2) (aV ad) (ax _)) (cZ (ar bh (ai aQ (am GC hr1 (by rfl) Ce.m Ce.F.kp Ce.b .nil ap (aa (pv 0) (aa ae ad))) ae) ae (ax _))))) (ag (aj (i:=6) scLaw.nd rfl (Or.inl rfl) dU)) aB)
   (ac (aj (i:=7) scLaw.nd rfl (Or.inl rfl) (aV (aa (bj aZ (by rfl) X.list PyProof.Rows.boot_list (aa (pv 1) ad)) (aa (eC (ar iW (pv 6) dU (ax _)) (pv 6) (bj aZ (by rfl) X.list PyProof.Rows.boot_list (aa (pv 6) ad))) ad))))
   (ac (aj (i:=8) scLaw.nd rfl (Or.inl rfl) (gm MI GI hr2 (by rfl) Zb.m bI .nil ap))
   (ac (aD (a6 (pv 8) TB.cl Pu.m GP hr3 Pu.b .nil ap (aa ae (aa ae ad))))
   (ac (aM (PW.pt (il (ar tG (a6 (pv 3) W0.cl t0 GT0 hr35 bt0 .nil ap (aa (pv 8) (aa (aL aN (pv 7) ae (λ _ _=>rfl)) (aa (aL aN (pv 7) ae (λ _ _=>rfl)) ad)))) dU (ax _)) (fo (ar (tN hu) (pv 7) (aV (aa (pv 1) (aa (pv 6) ad))) (ax _))))) (ag (az dQ)) aB)
   (ac (aD (vZ PySem.F.plainAttrs_list PySem.F.slot_list_clear PySem.F.type_list_clear pU (aL aN (pv 7) ae (λ _ _=>rfl))))
   (ac (aM (PW.pt (il (ar og (bi (pv 8) TB.cl Ma.m GM hr1 Ma.b .nil ap) (ai aA ae (aq bQ (by rfl) X.len PySem.boot_len (aa (pv 5) ad))) (ax _)) (fo (ar (p9 hu) (bi (pv 8) TB.cl Ou.m GOu hr1 Ou.b .nil ap) (am GW hr1 (by rfl) Rw.m Rw.F.kp Rw.b .nil ap (aa (ai cH bY (pv 5)) ad)) (ax _))))) (ag (az dQ)) aB)
   (ac (aM (ar og (a6 (pv 3) W0.cl c0 GC0 hr36 bc0 .nil ap (aa (bj aZ (by rfl) X.list PyProof.Rows.boot_list (aa (pv 1) ad)) (aa (pv 6) ad))) (aq bQ (by rfl) X.len PySem.boot_len (aa (pv 5) ad)) (ax _)) (ag (az dQ)) aB)
   (ac (aM (cj (cf (am GR' hr38 (by rfl) Re.m Re.F.kp Re.b .nil ap (aa (pv 3) (aa (pv 1) (aa (pv 6) (aa (pv 5) ad))))))) (ag (az dQ)) aB)
   (ag (az (am GR' hr38 (by rfl) Re.m Re.F.kp Re.b .nil ap (aa (pv 3) (aa (pv 1) (aa (pv 6) (aa (am GO hr31 (by rfl) Od.m Od.F.kp Od.b .nil ap (aa (pv 4) (aa (ai a8 (am GC hr1 (by rfl) Ce.m Ce.F.kp Ce.b .nil ap (aa (pv 0) (aa ae ad))) ae) ad))) ad))))))))))))))))))))),?_⟩
  refine seq_g λ R1 g1=>?_
  refine⟨_,rfl,a,ns,1,rfl,hS,λ tt lt lb T W H1 s1 ht0 hlt hlb h1 h64 hWl hTb hWb=>⟨tt,_,rfl,SqT.of ht0,rfl,_,_,rfl,_,_,rfl,rfl,g1 _ _ ?_⟩⟩;clear g1 ht0;refine seq_g λ R1 g1=>?_
  intro o dx no ndx ne0;refine g1 _ _ ?_;clear g1;have s2:Same H1 (upd (upd H1 dx (.own o)) o (.ins C dx [])):=λ c o' e=>by
   rw [upd_ne (af e no),upd_ne (af e ndx)];exact e
  have h2o:(upd (upd H1 dx (.own o)) o (.ins C dx [])) o=some (.ins C dx []):=upd_same;generalize upd (upd H1 dx (.own o)) o (.ins C dx [])=H2 at*;refine seq_g λ R1 g1=>?_
  refine⟨_,rfl,_,CW,_,_,rfl,.ins h2o WC0.cl WC0.ha hcn htk WC0.hm,i0,_,rfl,bL ?_⟩;refine⟨_,rfl,o,dx,_,rfl,h2o,rfl,o,rfl,rfl,_,rfl,aJ (λ h=>by simp at h) (λ _=>g1 _ _ ?_)⟩;clear g1;refine seq_g λ R1 g1=>?_
  refine⟨_,rfl,_,rfl,lt,lb,T,W,rfl,s2 _ _ hlt,s2 _ _ hlb,hWl,h64,λ lp Pp H3 s3 hPL hwk=>g1 _ _ ?_⟩;clear g1;obtain⟨gr,hrun,hPl⟩:=ip hWb hTb hwk;have hP1:1≤Pp.length:=m9 hwk (by rw [List.length_append];lia);refine seq_g λ R1 g1=>?_
  refine⟨_,rfl,lp,Pp,W,rfl,hPL,gr,hP1,by lia,λ L It b H4 hsh hit s4=>g1 _ _ ?_⟩;clear g1;have tok:=hsh.tok gr hP1;have hIt:=W13.walk_ok tok.six hit;have hdec:=jh tok.len hit;have s14:=(s2.trans s3).trans s4;have h4o:=s4 _ _ (s3 _ _ h2o);have h4lt:=s14 _ _ hlt;have h4lb:=s14 _ _ hlb;have hPL4:=hPL.same s4;have s04:=s1.trans s14;clear s14 s2 s3 s4 hPL hlt hlb h2o s1;have htp:=dB tok.six Pp;have hti:=dE 0 hIt;rw [hdec,tok.len] at hti;have hgp:Good (W13.puts It++hP L Pp):=λ q hq=>by
   rcases List.mem_append.mp hq with z|z
   ·exact W13.puts_good hIt q z
   ·exact mF tok gr q z
  have htot:tots (W13.puts It++hP L Pp)≤1712:=by rw [aC];lia
  have hgo:=on hgp;have htt:tots ((1,2)::(W13.puts It++hP L Pp))=2+tots (W13.puts It++hP L Pp):=bv _ _;generalize hps:W13.puts It++hP L Pp=ps at*;refine seq_g λ R1 g1=>?_
  refine⟨_,rfl,g1 _ _ ?_⟩;clear g1;refine seq_g λ R1 g1=>?_
  have J:∀(x:V) (H5:Hp),Same H4 H5->((x=.non/\W=[])\/x=.ref lb)->R1 [some (.ref a),some (.ref lt),some (.ref lb),some (.ref o),some (.ref lp),some (.str (txt (bitsP ps))),some x,none,none] H5:=by
   intro x H6 s6 hx;refine g1 _ _ ?_;clear g1;have wv:∀{H':Hp},Same H4 H'->WinV H' x W:=λ s=>by
    rcases hx with⟨rfl,hW⟩|rfl
    ·exact .inl ⟨rfl,hW⟩
    ·exact .inr ⟨lb,rfl,s _ _ h4lb⟩
   have h6lt:=s6 _ _ h4lt;refine seq_g λ R3 g3=>?_
   refine⟨_,rfl,lt,_,rfl,.inl (SqL.of h6lt),λ a1 na1=>?_⟩;have sa:=ak (o:=.lst (T.map vN)) na1;have h7a:(upd H6 a1 (.lst (T.map vN))) a1=some (.lst (T.map vN)):=upd_same;have na4:H4 a1=none:=none_of s6 na1;have s7:=s6.trans sa;generalize upd H6 a1 (.lst (T.map vN))=H7 at*;have J2:∀(y:V) (H8:Hp),Same H7 H8->WinV H8 y W->((y=.non/\x=.non)\/∃p,y=.ref p/\x=.ref lb/\H8 p=some (.lst (W.map vN)))->(2≤sizeLine/\∀p,H8 p=none->R3 [some (.ref a),some (.ref lt),some (.ref lb),some (.ref o),some (.ref lp),some (.str (txt (bitsP ps))),some x,some (.ref p),none] (upd H8 p (.lst [V.ref a1,y]))):=by
    intro y H8 s78 hy hyx;refine⟨by decide,λ lh nh=>g3 _ _ ?_⟩;clear g3;have sh:=ak (o:=.lst [V.ref a1,y]) nh;have h9h:(upd H8 lh (.lst [V.ref a1,y])) lh=some (.lst [V.ref a1,y]):=upd_same;have h9a:=sh _ _ (s78 _ _ h7a);have hy9:=hy.same sh;have hyx9:(y=.non/\x=.non)\/∃p,y=.ref p/\x=.ref lb/\(upd H8 lh (.lst [V.ref a1,y])) p=some (.lst (W.map vN)):=by
     rcases hyx with h|⟨p,h1,h2,h3⟩
     ·exact .inl h
     ·exact .inr ⟨p,h1,h2,sh _ _ h3⟩
    have s9:=(s7.trans s78).trans sh;have nha:a1≠lh:=af (s78 _ _ h7a) nh;generalize upd H8 lh (.lst [V.ref a1,y])=H9 at*;refine seq_g λ R4 g4=>?_
    intro p dp np ndp nep;have hp0:(upd (upd H9 dp (.own p)) p (.ins B dp [])) p=some (.ins B dp []):=upd_same;have s0:Same H9 (upd (upd H9 dp (.own p)) p (.ins B dp [])):=λ c o e=>by
     rw [upd_ne (af e np),upd_ne (af e ndp)];exact e
    refine⟨p,dp,rfl,hp0,λ d H10 nd hB kp=>⟨rfl,g4 _ _ ?_⟩⟩;clear g4;have nd0:H9 d=none:=none_of s0 nd;have s910:Same H9 H10:=λ c o e=>kp _ _ (s0 _ _ e) (af e np)
    clear s0 hp0 kp;refine seq_g λ R4 g4=>?_
    obtain⟨dx1,r1,k1,hp1⟩:=hB.ob;refine⟨_,rfl,p,dx1,_,rfl,hp1,dP _ _ _ (by decide+kernel) (by decide+kernel) (by decide+kernel),p,d,0,0,1,2,rfl,hB,by decide,by decide,by decide,λ H11 hB11 kp11=>g4 _ _ ?_⟩;clear g4;rw [Nat.zero_mul,Nat.zero_add,Nat.zero_add] at hB11;have s911:Same H9 H11:=λ c o e=>kp11 _ _ (s910 _ _ e) (af e np) (af e nd0)
    have s411:=s9.trans s911;have h11h:=s911 _ _ h9h;refine seq_g λ R4 g4=>?_
    refine⟨_,rfl,o,dx,_,rfl,s411 _ _ h4o,rfl,_,rfl,_,rfl,lh,_,_,_,rfl,rfl,SqL.of h11h,aw (j:=0) rfl,_,rfl,lh,_,_,_,rfl,rfl,SqL.of h11h,aw (j:=1) rfl,o,p,d,a1,y,T,W,Pp,1,2,rfl,hB11,by decide,s911 _ _ h9a,hTb,h1,h64,hy9.same s911,hWb,hWl,hwk,λ L' It' b' H13 hsh' hit' hB13 kp12=>?_⟩;obtain⟨eL,eI⟩:=nC tok.len hsh hit hsh' hit';subst eL eI;rw [hps] at hB13;clear hsh' hit';have s913:Same H9 H13:=λ c o e=>kp12 _ _ (s911 _ _ e) (af e np) (af e nd0)
    have s413:=s9.trans s913;have h13h:=s913 _ _ h9h;have h13a:=s913 _ _ h9a;refine⟨rfl,_,rfl,aJ (λ h=>by simp at h) (λ _=>?_)⟩;refine⟨_,rfl,_,rfl,_,rfl,(by show 2≤sizeLine;decide),λ lq nq=>?_⟩;have sq:=ak (o:=.lst [V.ref lt,x]) nq;have h14q:(upd H13 lq (.lst [V.ref lt,x])) lq=some (.lst [V.ref lt,x]):=upd_same;have h14h:=sq _ _ h13h;have h14a:=sq _ _ h13a;have hB14:=hB13.keep λ c o e _=>sq _ _ e
    have s914:=s913.trans sq;have s414:=s413.trans sq;generalize upd H13 lq (.lst [V.ref lt,x])=H14 at*;refine⟨lh,lq,rfl,rfl,⟨[V.ref a1,y],[V.ref lt,x],SqL.of h14h,SqL.of h14q,rfl,λ i' p' q' hp' hq'=>?_⟩,_,rfl,bL (g4 _ _ ?_)⟩
    ·match i',hp',hq' with
     |0,hp',hq'=>
      cases hp';cases hq';exact .inr ⟨a1,lt,T.map (λ b=>((b:Nat):Int)),rfl,rfl,by rw [<-bV];exact SqL.of h14a,by rw [<-bV];exact SqL.of (s414 _ _ h4lt)⟩
     |1,hp',hq'=>
      cases hp';cases hq';rcases hyx9 with h|⟨p2,h1,h2,h3⟩
      ·exact .inl h
      ·exact .inr ⟨p2,lb,W.map (λ b=>((b:Nat):Int)),h1,h2,by rw [<-bV];exact SqL.of (s914 _ _ h3),by rw [<-bV];exact SqL.of (s414 _ _ h4lb)⟩
     |i'+2,hp',_=>simp at hp'
    clear g4;refine seq_g λ R4 g4=>?_
    refine⟨_,rfl,lh,_,_,_,rfl,rfl,SqL.of h14h,aw (j:=0) rfl,.inl ⟨rfl,_,SqL.of h14a⟩,a1,_,rfl,rfl,h14a,g4 _ _ ?_⟩;clear g4;have s415:Same H4 (upd H14 a1 (.lst [])):=λ c o e=>by rw [upd_ne (af e na4)];exact s414 _ _ e
    have npa:p≠a1:=kW h9a np;have nda:d≠a1:=kW h9a nd0;have hB15:BitsAt B (upd H14 a1 (.lst [])) p d (nums ps 1) (2+tots ps):=hB14.keep λ c o e hc=>by
     rw [upd_ne (by rcases hc with rfl|rfl;exact npa;exact nda)];exact e
    generalize upd H14 a1 (.lst [])=H15 at*;refine seq_g λ R4 g4=>?_
    obtain⟨dx5,r5,k5,hp5⟩:=hB15.ob;have e1:(2:Int)+(((txt (bitsP ps)).length:Nat):Int)=((2+tots ps:Nat):Int):=by rw [aI,ay];lia
    refine⟨_,rfl,p,dx5,_,rfl,hp5,dP _ _ _ (by decide+kernel) (by decide+kernel) (by decide+kernel),p,d,_,_,rfl,hB15,_,rfl,_,rfl,bS (by rw [aI,ay];lia),_,_,rfl,rfl,rfl,_,rfl,aJ (λ h=>?_) (λ _=>?_)⟩
    ·have h':(!decide (vN (2+tots ps)=V.int ((2:Int)+(((txt (bitsP ps)).length:Nat):Int))))=true:=h;rw [decide_eq_true (congrArg V.int e1.symm)] at h';cases h'
    refine⟨_,rfl,p,dx5,_,rfl,hp5,dP _ _ _ (by decide+kernel) (by decide+kernel) (by decide+kernel),p,d,_,_,rfl,hB15,by lia,λ lr R H16 nlr hlr row s16=>?_⟩;refine⟨_,rfl,_,_,rfl,rfl,?_,?_⟩
    ·rw [uw,aI,aI,ay,ay];exact bS (by show 2+tots ps≤100000;lia)
    try dsimp only
    rw [uw,cD,<-bU];refine⟨_,rfl,by rw [ay];show tots ((1,2)::ps)≤4000;lia,λ l2 R2 H17 n2 row2 h22 s17=>?_⟩;have eR:R=R2:=by
     replace row2:RowOf (num (bitsP ((1,2)::ps))) (bitsP ((1,2)::ps)).length R2:=row2;rw [cU hgo,ay,qb,htt] at row2;exact row.uniq row2
    subst eR;refine⟨lr,l2,R.map (λ b=>((b:Nat):Int)),R.map (λ b=>((b:Nat):Int)),rfl,rfl,by rw [<-bV];exact SqL.of (s17 _ _ hlr),by rw [<-bV];exact SqL.of h22,_,rfl,aJ (λ h=>by simp at h) (λ _=>g4 _ _ ?_)⟩;clear g4;have s417:=(s415.trans s16).trans s17;refine seq_g λ R4 g4=>?_
    refine⟨_,rfl,o,dx,_,rfl,s417 _ _ h4o,rfl,_,rfl,lt,_,rfl,.inl (SqL.of (s417 _ _ h4lt)),λ a2 na2=>?_⟩;have sa2:=ak (o:=.lst (T.map vN)) na2;have ha2:(upd H17 a2 (.lst (T.map vN))) a2=some (.lst (T.map vN)):=upd_same;have s418:=s417.trans sa2;generalize upd H17 a2 (.lst (T.map vN))=H18 at*;refine⟨_,rfl,o,dx,a2,x,T,W,Pp,rfl,s418 _ _ h4o,ha2,hTb,h1,h64,wv s418,hWb,hWl,hwk,λ L' It' b' H19 hsh' hit' s19=>?_⟩;obtain⟨eL,eI⟩:=nC tok.len hsh hit hsh' hit';subst eL eI;clear hsh' hit';rw [hps];refine⟨_,rfl,_,rfl,bS (by rw [aI,ay];lia),rfl,_,rfl,aJ (λ h=>?_) (λ _=>g4 _ _ ?_)⟩
    ·have h':(!decide (vN (tots ps)=V.int (((txt (bitsP ps)).length:Nat):Int)))=true:=h;rw [decide_eq_true (show vN (tots ps)=V.int (((txt (bitsP ps)).length:Nat):Int) by rw [aI,ay])] at h';cases h'
    clear g4;have s419:=s418.trans s19;refine seq_g λ R4 g4=>?_
    refine⟨_,rfl,_,rfl,_,rfl,_,rfl,o,dx,lt,x,W,T,Pp,It',L',by rw [hps];rfl,s419 _ _ h4o,s419 _ _ h4lt,wv s419,hWl,hIt,hdec,tok,gr,hrun,h64,λ H20 s20=>⟨_,rfl,bL (g4 _ _ ?_)⟩⟩;clear g4;have s420:=s419.trans s20;refine⟨_,rfl,_,rfl,_,rfl,_,rfl,_,rfl,a,ns,0,rfl,(s04.trans s420).seq hS,_,_,rfl,rfl,⟨by decide,by decide⟩,lp,_,Pp,W,rfl,hPL4.same s420,gr,hP1,by lia,λ L2 H21 tok2 s21=>?_⟩;have s421:=s420.trans s21;exact⟨o,dx,lt,x,W,T,Pp,ones3 L2,L2,rfl,s421 _ _ h4o,s421 _ _ h4lt,wv s421,hWl,p0 tok2.six,kb L2 0,tok2,gr,hrun,h64,λ H22 _=>k _⟩
   clear g3;rcases hx with⟨hx0,hW0⟩|hx0
   ·refine⟨_,rfl,rfl,_,rfl,aJ (λ _=>⟨_,rfl,J2 x H7 (Same.refl _) (.inl ⟨hx0,hW0⟩) (.inl ⟨hx0,hx0⟩)⟩) (λ h=>absurd (decide_eq_true hx0) h)⟩
   ·subst hx0;refine⟨_,rfl,rfl,_,rfl,aJ (λ h=>absurd (of_decide_eq_true h) (by intro z;cases z)) (λ _=>⟨_,rfl,lb,_,rfl,.inl (SqL.of (s7 _ _ h4lb)),λ b1 nb1=>?_⟩)⟩;exact J2 (.ref b1) _ (ak nb1) (.inr ⟨b1,rfl,upd_same⟩) (.inr ⟨b1,rfl,rfl,upd_same⟩)
  clear g1;refine⟨_,rfl,by decide,λ q nq=>?_⟩;have sq:=ak (o:=.lst []) nq;have hqq:(upd H4 q (.lst [])) q=some (.lst (([]:List Int).map V.int)):=upd_same;generalize upd H4 q (.lst [])=H5 at*;refine⟨lb,q,W.map (λ b=>((b:Nat):Int)),[],rfl,rfl,by rw [<-bV];exact SqL.of (sq _ _ h4lb),SqL.of hqq,_,rfl,aJ (λ hW=>?_) (λ _=>bL (J (.ref lb) _ sq (.inr rfl)))⟩;have hW0:W=[]:=List.map_eq_nil_iff.mp (of_decide_eq_true hW);refine⟨_,rfl,a,ns,0,rfl,(s04.trans sq).seq hS,_,_,rfl,rfl,(by show(0:Int)<2;decide),rfl,_,rfl,aJ (λ _=>?_) (λ _=>J (.ref lb) _ sq (.inr rfl))⟩;exact J .non _ sq (.inl ⟨rfl,hW0⟩)
end
end K19
set_option maxHeartbeats 8000000
namespace K19
open PySem L2 QQ
section
variable {K : PySem.W.Frag} {mg : Str -> Option Value} {h : Heap}
abbrev Bn (x qu:Str)(st:Stmt)(ps:List Str):Prop:=∀(us:List Value),us.length=ps.length->∀(kV dc pm:Value) (an:Option Addr) (cd ct:Value),bindArgs (PySem.W.fnOf x qu (defArgs st) (defBody st) (defScope st) .none kV dc pm an cd ct) ⟨us,[]⟩=pure (ps.zip us)
def TD (K:PySem.W.Frag)(x:Str)(st:Stmt):Prop:=∃(f:Addr) (oc:Value) (od an:Option Addr) (sl:Array (Option Value)) (kV dc pm cd ct:Value),PySem.W.nsIn K mainGlobals x=some (some (.ref f))/\K.lookup f=some ⟨oc,od,.func (PySem.W.fnOf x x (defArgs st) (defBody st) (defScope st) .none kV dc pm an cd ct),sl⟩/\PySem.W.codeIn K cd x=true/\PySem.W.keepIn K (.ref f)=true
theorem TD.i {x:Str}{st:Stmt}{f:Addr}{oc:Value}{od an:Option Addr}{sl:Array (Option Value)}{kV dc pm cd ct:Value}(a:PySem.W.nsIn K mainGlobals x=some (some (.ref f)))(l:K.lookup f=some ⟨oc,od,.func (PySem.W.fnOf x x (defArgs st) (defBody st) (defScope st) .none kV dc pm an cd ct),sl⟩)(c:PySem.W.codeIn K cd x=true)(k:PySem.W.keepIn K (.ref f)=true):TD K x st:=⟨f,oc,od,an,sl,kV,dc,pm,cd,ct,a,l,c,k⟩
theorem TD.fu {x:Str}{st:Stmt}{ps:List Str}(d:TD K x st)(X:K.In h)(G:h.Ns mainGlobals mg)(b:Bn x x st ps):∃(f:Addr) (fd:FuncData),Fun K x x st f fd/\mg x=some (.ref f)/\Binds K fd ps []:=by
 obtain⟨f,oc,od,an,sl,kV,dc,pm,cd,ct,a,l,c,k⟩:=d;have F:=jk l c k;exact⟨_,_,F,PySem.W.mg_of X G a,.all λ us hl=>b us hl _ _ _ _ _ _⟩
theorem TD.fn {x:Str}{st:Stmt}{ps:List Str}(d:TD K x st)(X:K.In h)(G:h.Ns mainGlobals mg)(b:Bn x x st ps):∃f fd,Fn K mg x st ps f fd:=by
 obtain⟨f,fd,F,m,b⟩:=d.fu X G b;exact⟨f,fd,F,m,b⟩
def MD (K:PySem.W.Frag)(C:Addr)(x qu:Str)(st:Stmt):Prop:=∃(f:Addr) (oc:Value) (od an:Option Addr) (sl:Array (Option Value)) (kV dc pm cd ct:Value),PySem.W.findIn K (.ref C) x=some (some (.ref f))/\PySem.W.isFn K (.ref f)=true/\K.lookup f=some ⟨oc,od,.func (PySem.W.fnOf x qu (defArgs st) (defBody st) (defScope st) .none kV dc pm an cd ct),sl⟩/\PySem.W.codeIn K cd qu=true/\PySem.W.keepIn K (.ref f)=true
theorem MD.i {C:Addr}{x qu:Str}{st:Stmt}{f:Addr}{oc:Value}{od an:Option Addr}{sl:Array (Option Value)}{kV dc pm cd ct:Value}(a:PySem.W.findIn K (.ref C) x=some (some (.ref f)))(i:PySem.W.isFn K (.ref f)=true)(l:K.lookup f=some ⟨oc,od,.func (PySem.W.fnOf x qu (defArgs st) (defBody st) (defScope st) .none kV dc pm an cd ct),sl⟩)(c:PySem.W.codeIn K cd qu=true)(k:PySem.W.keepIn K (.ref f)=true):MD K C x qu st:=⟨f,oc,od,an,sl,kV,dc,pm,cd,ct,a,i,l,c,k⟩
theorem MD.me {C:Addr}{x qu:Str}{st:Stmt}{ps:List Str}(d:MD K C x qu st)(b:Bn x qu st ps):∃f fd,Me K C x qu st ps f fd:=by
 obtain⟨f,oc,od,an,sl,kV,dc,pm,cd,ct,a,i,l,c,k⟩:=d;exact⟨_,_,jk l c k,⟨a,i,k⟩,.all λ us hl=>b us hl _ _ _ _ _ _⟩
theorem MD.ini {C:Addr}{qu:Str}{st:Stmt}{ps:List Str}(d:MD K C "__init__" qu st)(mk:PySem.W.makesIn K C=true)(kc:PySem.W.keepIn K (.ref C)=true)(b:Bn "__init__" qu st ps):∃f fd,Fun K "__init__" qu st f fd/\Binds K fd ps []/\Mk K C f:=by
 obtain⟨f,oc,od,an,sl,kV,dc,pm,cd,ct,a,i,l,c,k⟩:=d;exact⟨_,_,jk l c k,.all λ us hl=>b us hl _ _ _ _ _ _,⟨mk,a,i,kc⟩⟩
theorem m1 {P:List Value->Prop}(h:∀a,P [a]):∀us:List Value,us.length=1->P us:=λ us hl=>match us,hl with| [a],_=>h a
theorem m0 {P:List Value->Prop}(h:P []):∀us:List Value,us.length=0->P us:=λ us hl=>match us,hl with| [],_=>h
theorem m2 {P:List Value->Prop}(h:∀a b,P [a,b]):∀us:List Value,us.length=2->P us:=λ us hl=>match us,hl with| [a,b],_=>h a b
theorem m3 {P:List Value->Prop}(h:∀a b c,P [a,b,c]):∀us:List Value,us.length=3->P us:=λ us hl=>match us,hl with| [a,b,c],_=>h a b c
theorem m4 {P:List Value->Prop}(h:∀a b c d,P [a,b,c,d]):∀us:List Value,us.length=4->P us:=λ us hl=>match us,hl with| [a,b,c,d],_=>h a b c d
end
theorem all_mk {l:PySem.W.OpenLaw}{w:World}{K:PySem.W.Frag}{h:Heap}{mg:Str->Option Value}{fa B D E C CW:Addr}(X:K.In h)(G:h.Ns mainGlobals mg)(hfa:mg "law"=some (.ref fa))
  {f1:Addr} {od1 an1:Option Addr} {sl1:Array (Option Value)} {oc1 kV1 dc1 pm1 cd1 ct1:Value}
  {t1000:Tok}
  {t1001:Tok}
  {t1002:Tok}
  {t1003:Tok}
  {t1004:Tok}
  {t1005:Tok}
  {t1006:Tok}
  {t1007:Tok}
  {t1008:Tok}
  {t1009:Tok}
  {t1010:Tok}
  {t1011:Tok}
  {t1012:Tok}
  {t1013:Tok}
  {t1014:Tok}
  {t1015:Tok}
  {f10:Addr} {od10 an10:Option Addr} {sl10:Array (Option Value)} {oc10 kV10 dc10 pm10 cd10 ct10:Value}
  {dT10:Addr} {ocT10:Value} {odT10:Option Addr} {nT10:Nat} {slT10:Array (Option Value)}
  {f29:Addr} {od29 an29:Option Addr} {sl29:Array (Option Value)} {oc29 kV29 dc29 pm29 cd29 ct29:Value}
  {dT29:Addr} {ocT29:Value} {odT29:Option Addr} {nT29:Nat} {slT29:Array (Option Value)} {tT29:Tok}
  (a1:PySem.W.nsIn K mainGlobals "law"=some (some (.ref f1)))
  (l1:K.lookup f1=some ⟨oc1,od1,.func (PySem.W.fnOf "law" "law" (defArgs sLaw) (defBody sLaw) (defScope sLaw) .none kV1 dc1 pm1 an1 cd1 ct1),sl1⟩)
  (c1:PySem.W.codeIn K cd1 "law"=true)
  (k1:PySem.W.keepIn K (.ref f1)=true)
  (z_isinstance:PySem.W.nsIn K mainGlobals "isinstance"=some none)
  (z_bool:PySem.W.nsIn K mainGlobals "bool"=some none)
  (z_int:PySem.W.nsIn K mainGlobals "int"=some none)
  (z_list:PySem.W.nsIn K mainGlobals "list"=some none)
  (z_len:PySem.W.nsIn K mainGlobals "len"=some none)
  (z_range:PySem.W.nsIn K mainGlobals "range"=some none)
  (z_max:PySem.W.nsIn K mainGlobals "max"=some none)
  (z_min:PySem.W.nsIn K mainGlobals "min"=some none)
  (gv0:PySem.W.nsIn K mainGlobals "GREATEST"=some (some (.int 255 t1000)))
  (gv1:PySem.W.nsIn K mainGlobals "MOST_SIZE"=some (some (.int 24 t1001)))
  (gv2:PySem.W.nsIn K mainGlobals "MOST_SIGNS"=some (some (.int 64 t1002)))
  (gv3:PySem.W.nsIn K mainGlobals "MOST_AHEAD"=some (some (.int 192 t1003)))
  (gv4:PySem.W.nsIn K mainGlobals "FARTHEST"=some (some (.int 255 t1004)))
  (gv5:PySem.W.nsIn K mainGlobals "LEAST_COPIED"=some (some (.int 3 t1005)))
  (gv6:PySem.W.nsIn K mainGlobals "MOST_COPIED"=some (some (.int 18 t1006)))
  (z_sum:PySem.W.nsIn K mainGlobals "sum"=some none)
  (z_enumerate:PySem.W.nsIn K mainGlobals "enumerate"=some none)
  (z_sorted:PySem.W.nsIn K mainGlobals "sorted"=some none)
  (gv7:PySem.W.nsIn K mainGlobals "MOST_BITS"=some (some (.int 6 t1007)))
  (gv8:PySem.W.nsIn K mainGlobals "MOST_LENGTH"=some (some (.int 12 t1008)))
  (gv9:PySem.W.nsIn K mainGlobals "MOST_THINGS"=some (some (.int 300 t1009)))
  (gv10:PySem.W.nsIn K mainGlobals "MOST_COUNT"=some (some (.int 1000000 t1010)))
  (gv11:PySem.W.nsIn K mainGlobals "MANY"=some (some (.int 272 t1011)))
  (gv12:PySem.W.nsIn K mainGlobals "AGAIN"=some (some (.int 7 t1012)))
  (gv13:PySem.W.nsIn K mainGlobals "LEAST_AGAIN"=some (some (.int 3 t1013)))
  (gv14:PySem.W.nsIn K mainGlobals "MOST_AGAIN"=some (some (.int 66 t1014)))
  (gv15:PySem.W.nsIn K mainGlobals "FIRST_COPY"=some (some (.int 256 t1015)))
  (d2:TD K "is_number" fY)
  (d3:TD K "is_whole" bK)
  (d4:TD K "are_whole" bA)
  (d5:TD K "is_row" iU)
  (d6:TD K "need_row" bX)
  (d7:TD K "need_window" cS)
  (d8:TD K "alike_from" gW)
  (d9:TD K "longest_copy" eT)
  (a10:PySem.W.nsIn K mainGlobals "pieces_of"=some (some (.ref f10)))
  (l10:K.lookup f10=some ⟨oc10,od10,.func (PySem.W.fnOf "pieces_of" "pieces_of" (defArgs sPiecesOf) (defBody sPiecesOf) (defScope sPiecesOf) (.ref dT10) kV10 dc10 pm10 an10 cd10 ct10),sl10⟩)
  (c10:PySem.W.codeIn K cd10 "pieces_of"=true)
  (k10:PySem.W.keepIn K (.ref f10)=true)
  (t10:K.lookup dT10=some ⟨ocT10,odT10,.seq #[.none] nT10,slT10⟩)
  (d11:TD K "add_copy" di)
  (d12:TD K "need_ahead" cF)
  (d13:TD K "need_signs" de)
  (d14:TD K "signs_ahead" eS)
  (d15:TD K "need_room" cR)
  (d16:TD K "lay_copy" fb)
  (pgB:PySem.W.plainGet K B Str.empty=true)
  (hdB:PySem.W.hasDictIn K B=true)
  (poB:PySem.W.plainOver K B=true)
  (saB:PySem.W.findIn K (.ref B) "__setattr__"=some (some (.builtin "object.__setattr__")))
  (nB_whole_bytes:PySem.W.findIn K (.ref B) "whole_bytes"=some none)
  (nB_rest:PySem.W.findIn K (.ref B) "rest"=some none)
  (nB_rest_size:PySem.W.findIn K (.ref B) "rest_size"=some none)
  (gB:PySem.W.nsIn K mainGlobals "BitRow"=some (some (.ref B)))
  (d17:TD K "need_size" bP)
  (d18:TD K "ones" dR)
  (d19:MD K B "__init__" "BitRow.__init__" jw)
  (mkB:PySem.W.makesIn K B=true)
  (kcB:PySem.W.keepIn K (.ref B)=true)
  (d20:MD K B "put" "BitRow.put" uk)
  (d21:MD K B "move_byte" "BitRow.move_byte" kR)
  (d22:MD K B "many" "BitRow.many" nA)
  (d23:MD K B "row" "BitRow.row" gg)
  (d24:TD K "are_of_things" c9)
  (d25:TD K "need_shares" kC)
  (d26:TD K "weight_of" dz)
  (d27:TD K "in_pairs" fj)
  (d28:TD K "lightest_bundles" gw)
  (a29:PySem.W.nsIn K mainGlobals "lengths_of"=some (some (.ref f29)))
  (l29:K.lookup f29=some ⟨oc29,od29,.func (PySem.W.fnOf "lengths_of" "lengths_of" (defArgs sLengths) (defBody sLengths) (defScope sLengths) (.ref dT29) kV29 dc29 pm29 an29 cd29 ct29),sl29⟩)
  (c29:PySem.W.codeIn K cd29 "lengths_of"=true)
  (k29:PySem.W.keepIn K (.ref f29)=true)
  (t29:K.lookup dT29=some ⟨ocT29,odT29,.seq #[.int 6 tT29] nT29,slT29⟩)
  (d30:TD K "room_taken" nj)
  (d31:TD K "need_lengths" du)
  (d32:TD K "codes_of" eN)
  (d33:MD K E "keep_beginnings" "CodeReader.keep_beginnings" mJ)
  (pgE:PySem.W.plainGet K E Str.empty=true)
  (hdE:PySem.W.hasDictIn K E=true)
  (poE:PySem.W.plainOver K E=true)
  (saE:PySem.W.findIn K (.ref E) "__setattr__"=some (some (.builtin "object.__setattr__")))
  (nE_things:PySem.W.findIn K (.ref E) "things"=some none)
  (nE_beginnings:PySem.W.findIn K (.ref E) "beginnings"=some none)
  (pgD:PySem.W.plainGet K D Str.empty=true)
  (hdD:PySem.W.hasDictIn K D=true)
  (poD:PySem.W.plainOver K D=true)
  (saD:PySem.W.findIn K (.ref D) "__setattr__"=some (some (.builtin "object.__setattr__")))
  (nD_held:PySem.W.findIn K (.ref D) "held"=some none)
  (nD_taken:PySem.W.findIn K (.ref D) "taken"=some none)
  (gD:PySem.W.nsIn K mainGlobals "BitReader"=some (some (.ref D)))
  (d34:TD K "bits_at" dH)
  (d35:MD K D "__init__" "BitReader.__init__" iT)
  (mkD:PySem.W.makesIn K D=true)
  (kcD:PySem.W.keepIn K (.ref D)=true)
  (d36:MD K D "take" "BitReader.take" jE)
  (d37:MD K D "left" "BitReader.left" im)
  (d38:MD K D "place" "BitReader.place" gy)
  (d39:MD K D "go" "BitReader.go" sGo)
  (gE:PySem.W.nsIn K mainGlobals "CodeReader"=some (some (.ref E)))
  (d40:MD K E "__init__" "CodeReader.__init__" i9)
  (mkE:PySem.W.makesIn K E=true)
  (kcE:PySem.W.keepIn K (.ref E)=true)
  (d41:MD K E "thing" "CodeReader.thing" i6)
  (d42:TD K "lengths_in_items" gN)
  (d43:TD K "take_table" db)
  (d44:TD K "thing_of" e7)
  (d45:TD K "shares_of" dD)
  (d46:TD K "need_table" cI)
  (d47:TD K "again_from" gu)
  (d48:TD K "put_table" dw)
  (d49:TD K "codes_in" eG)
  (d50:TD K "thing_in" eJ)
  (d51:TD K "_law_digits" fZ)
  (d52:TD K "_law_thing" dY)
  (d53:TD K "_law_codes" eF)
  (d54:TD K "_law_parts" jf)
  (pgC:PySem.W.plainGet K C Str.empty=true)
  (hdC:PySem.W.hasDictIn K C=true)
  (poC:PySem.W.plainOver K C=true)
  (saC:PySem.W.findIn K (.ref C) "__setattr__"=some (some (.builtin "object.__setattr__")))
  (mkC:PySem.W.makesIn K C=true)
  (kcC:PySem.W.keepIn K (.ref C)=true)
  (inC:PySem.W.findIn K (.ref C) "__init__"=some (some (.builtin "object.__init__")))
  (gC:PySem.W.nsIn K mainGlobals "ShareWay"=some (some (.ref C)))
  (r_PySem_W_findIn_K_ref_C___class___some_some_builtin_object___:PySem.W.findIn K (.ref C) "__class__"=some (some (.builtin "object.__class__")))
  (r_PySem_W_mroIn_K_C_type_object_some_true:PySem.W.mroIn K C (.type "object")=some true)
  (d55:MD K C "cost" "Way.cost" mN)
  (d56:MD K C "number" "ShareWay.number" fK)
  (d57:MD K C "tell" "ShareWay.tell" mG)
  (d58:MD K C "read" "ShareWay.read" gc)
  (gCW:PySem.W.nsIn K mainGlobals "Way"=some (some (.ref CW)))
  (r_PySem_W_kitOne_K_ref_C_ref_CW_some_true:PySem.W.kitOne K (.ref C) (.ref CW)=some true)
  (r_PySem_W_specialIn_K_builtin_object___class_____get___some_so:PySem.W.specialIn K (.builtin "object.__class__") "__get__"=some (some (.builtin "getset_descriptor.__get__")))
  (r_PySem_W_takesIn_K_builtin_object___class___some_true:PySem.W.takesIn K (.builtin "object.__class__")=some true)
  (d59:TD K "_law_cell_at" eg)
  (d60:TD K "_law_drawn" fh)
  (d61:TD K "_law_signs" gF)
  (d62:TD K "_law_text_by" gb)
  (d63:TD K "_law_row_of" gn)
  (d64:TD K "_law_alike" eV)
  (d65:TD K "_law_pieces" eZ)
  (d66:TD K "_law_due" tJ)
  (d67:TD K "_law_own_due" fX)
  (d68:TD K "_law_read" mY):
  ∃fd:FuncData,(∀(s:Shared) (v:Value),BindsTo s fd ⟨[v],[]⟩ [("_law_script",v)])/\∀base:Heap,K.In base->base.Ns mainGlobals mg->FnOk l.prog w K mg base CX0 40 fa fd ["_law_script"] (m8 K):=by
 have e:=hfa.symm.trans (PySem.W.mg_of X G a1);cases e;have F1:=jk (st:=sLaw) l1 c1 k1;have R0:K19.Txt K mg:=⟨PySem.W.mg_none_of X G z_isinstance,PySem.W.mg_none_of X G z_bool,PySem.W.mg_none_of X G z_int,PySem.W.mg_none_of X G z_list,PySem.W.mg_none_of X G z_len,PySem.W.mg_none_of X G z_range,PySem.W.mg_none_of X G z_max,PySem.W.mg_none_of X G z_min,⟨t1000,PySem.W.mg_of X G gv0⟩,⟨t1001,PySem.W.mg_of X G gv1⟩,⟨t1002,PySem.W.mg_of X G gv2⟩,⟨t1003,PySem.W.mg_of X G gv3⟩,⟨t1004,PySem.W.mg_of X G gv4⟩,⟨t1005,PySem.W.mg_of X G gv5⟩,⟨t1006,PySem.W.mg_of X G gv6⟩,PySem.W.mg_none_of X G z_sum,PySem.W.mg_none_of X G z_enumerate,PySem.W.mg_none_of X G z_sorted,⟨t1007,PySem.W.mg_of X G gv7⟩,⟨t1008,PySem.W.mg_of X G gv8⟩,⟨t1009,PySem.W.mg_of X G gv9⟩,⟨t1010,PySem.W.mg_of X G gv10⟩,⟨t1011,PySem.W.mg_of X G gv11⟩,⟨t1012,PySem.W.mg_of X G gv12⟩,⟨t1013,PySem.W.mg_of X G gv13⟩,⟨t1014,PySem.W.mg_of X G gv14⟩,⟨t1015,PySem.W.mg_of X G gv15⟩,d2.fu X G (m1 λ _ _ _ _ _ _ _=>rfl)⟩;have R1:K19.Rows K mg:=⟨R0,d3.fn X G (m3 λ _ _ _ _ _ _ _ _ _=>rfl),d4.fn X G (m3 λ _ _ _ _ _ _ _ _ _=>rfl),d5.fn X G (m1 λ _ _ _ _ _ _ _=>rfl)⟩;have R2:K19.Wins K mg:=⟨R1,d6.fn X G (m1 λ _ _ _ _ _ _ _=>rfl),d7.fn X G (m2 λ _ _ _ _ _ _ _ _=>rfl),d8.fn X G (m4 λ _ _ _ _ _ _ _ _ _ _=>rfl),d9.fn X G (m2 λ _ _ _ _ _ _ _ _=>rfl)⟩;have F10:FunD K "pieces_of" "pieces_of" sPiecesOf (.ref dT10) f10 _:=⟨⟨oc10,od10,kV10,dc10,pm10,an10,cd10,ct10,sl10,rfl,l10,c10⟩,k10⟩;have b10:Binds K (PySem.W.fnOf "pieces_of" "pieces_of" (defArgs sPiecesOf) (defBody sPiecesOf) (defScope sPiecesOf) (.ref dT10) kV10 dc10 pm10 an10 cd10 ct10) ["text","before"] []:=λ s us hX hl=>match us,hl with| [_,_],_=>PySem.W.binds_K hX rfl t10 rfl rfl rfl
 have d10:Binds K (PySem.W.fnOf "pieces_of" "pieces_of" (defArgs sPiecesOf) (defBody sPiecesOf) (defScope sPiecesOf) (.ref dT10) kV10 dc10 pm10 an10 cd10 ct10) ["text","before"] [.none]:=λ s us hX hl=>match us,(show us.length=1 by simpa using hl) with| [_],_=>PySem.W.binds_K hX rfl t10 rfl rfl rfl
 have R3:K19.Wys K mg:=⟨R2,⟨_,_,⟨_,F10⟩,PySem.W.mg_of X G a10,b10,d10⟩,d11.fn X G (m3 λ _ _ _ _ _ _ _ _ _=>rfl),d12.fn X G (m1 λ _ _ _ _ _ _ _=>rfl),d13.fn X G (m2 λ _ _ _ _ _ _ _ _=>rfl),d14.fn X G (m1 λ _ _ _ _ _ _ _=>rfl),d15.fn X G (m3 λ _ _ _ _ _ _ _ _ _=>rfl),d16.fn X G (m4 λ _ _ _ _ _ _ _ _ _ _=>rfl)⟩;have R4:K19.CB K mg B:=⟨⟨pgB,hdB,poB,saB⟩,nB_whole_bytes,nB_rest,nB_rest_size⟩;have R5:K19.Bts K mg B:=⟨R1,R4,PySem.W.mg_of X G gB,d17.fn X G (m1 λ _ _ _ _ _ _ _=>rfl),d18.fn X G (m1 λ _ _ _ _ _ _ _=>rfl),d19.ini mkB kcB (m1 λ _ _ _ _ _ _ _=>rfl),d20.me (m3 λ _ _ _ _ _ _ _ _ _=>rfl),d21.me (m1 λ _ _ _ _ _ _ _=>rfl),d22.me (m1 λ _ _ _ _ _ _ _=>rfl),d23.me (m1 λ _ _ _ _ _ _ _=>rfl)⟩;have F29:FunD K "lengths_of" "lengths_of" sLengths (.ref dT29) f29 _:=⟨⟨oc29,od29,kV29,dc29,pm29,an29,cd29,ct29,sl29,rfl,l29,c29⟩,k29⟩;have b29:Binds K (PySem.W.fnOf "lengths_of" "lengths_of" (defArgs sLengths) (defBody sLengths) (defScope sLengths) (.ref dT29) kV29 dc29 pm29 an29 cd29 ct29) ["counts","most"] []:=λ s us hX hl=>match us,hl with| [_,_],_=>PySem.W.binds_K hX rfl t29 rfl rfl rfl
 have d29:Binds K (PySem.W.fnOf "lengths_of" "lengths_of" (defArgs sLengths) (defBody sLengths) (defScope sLengths) (.ref dT29) kV29 dc29 pm29 an29 cd29 ct29) ["counts","most"] [.int 6 tT29]:=λ s us hX hl=>match us,(show us.length=1 by simpa using hl) with| [_],_=>PySem.W.binds_K hX rfl t29 rfl rfl rfl
 have R6:K19.Shs K mg:=⟨R0,d3.fn X G (m3 λ _ _ _ _ _ _ _ _ _=>rfl),d4.fn X G (m3 λ _ _ _ _ _ _ _ _ _=>rfl),d24.fn X G (m2 λ _ _ _ _ _ _ _ _=>rfl),d25.fn X G (m2 λ _ _ _ _ _ _ _ _=>rfl),d26.fn X G (m1 λ _ _ _ _ _ _ _=>rfl),d27.fn X G (m1 λ _ _ _ _ _ _ _=>rfl),d28.fn X G (m2 λ _ _ _ _ _ _ _ _=>rfl),⟨_,_,⟨_,F29⟩,PySem.W.mg_of X G a29,b29,⟨_,d29⟩⟩⟩;have R7:K19.C.Lns K mg:=⟨R0,d3.fn X G (m3 λ _ _ _ _ _ _ _ _ _=>rfl),d4.fn X G (m3 λ _ _ _ _ _ _ _ _ _=>rfl),d24.fn X G (m2 λ _ _ _ _ _ _ _ _=>rfl),d30.fn X G (m1 λ _ _ _ _ _ _ _=>rfl)⟩;have R8:K19.C.CRc K mg E:=⟨⟨pgE,hdE,poE,saE⟩,nE_things,nE_beginnings⟩;have R9:K19.C.Mks K mg E:=⟨R0,R7,d31.fn X G (m1 λ _ _ _ _ _ _ _=>rfl),d32.fn X G (m1 λ _ _ _ _ _ _ _=>rfl),d33.me (m3 λ _ _ _ _ _ _ _ _ _=>rfl),R8⟩;have R10:K19.CRd K mg D:=⟨⟨pgD,hdD,poD,saD⟩,nD_held,nD_taken⟩;have R11:K19.Rdr K mg D:=⟨R1,R10,PySem.W.mg_of X G gD,d6.fn X G (m1 λ _ _ _ _ _ _ _=>rfl),d17.fn X G (m1 λ _ _ _ _ _ _ _=>rfl),d18.fn X G (m1 λ _ _ _ _ _ _ _=>rfl),d34.fn X G (m3 λ _ _ _ _ _ _ _ _ _=>rfl),d35.ini mkD kcD (m2 λ _ _ _ _ _ _ _ _=>rfl),d36.me (m2 λ _ _ _ _ _ _ _ _=>rfl),d37.me (m1 λ _ _ _ _ _ _ _=>rfl),d38.me (m1 λ _ _ _ _ _ _ _=>rfl)⟩;have R12:K19.Cds K mg D E:=⟨R9,R11,d39.me (m2 λ _ _ _ _ _ _ _ _=>rfl),PySem.W.mg_of X G gE,d40.ini mkE kcE (m2 λ _ _ _ _ _ _ _ _=>rfl),d41.me (m2 λ _ _ _ _ _ _ _ _=>rfl),d42.fn X G (m1 λ _ _ _ _ _ _ _=>rfl),d43.fn X G (m1 λ _ _ _ _ _ _ _=>rfl)⟩;have R13:K19.Shw K mg B D E:=⟨R3,R5,R6,R12,d44.fn X G (m1 λ _ _ _ _ _ _ _=>rfl),d45.fn X G (m1 λ _ _ _ _ _ _ _=>rfl),d46.fn X G (m1 λ _ _ _ _ _ _ _=>rfl),d47.fn X G (m3 λ _ _ _ _ _ _ _ _ _=>rfl),d48.fn X G (m2 λ _ _ _ _ _ _ _ _=>rfl),d49.fn X G (m1 λ _ _ _ _ _ _ _=>rfl),d50.fn X G (m2 λ _ _ _ _ _ _ _ _=>rfl)⟩;have R14:K19.Own K mg B D E:=⟨R13,d51.fn X G (m1 λ _ _ _ _ _ _ _=>rfl),d52.fn X G (m1 λ _ _ _ _ _ _ _=>rfl),d53.fn X G (m1 λ _ _ _ _ _ _ _=>rfl),d54.fn X G (m2 λ _ _ _ _ _ _ _ _=>rfl)⟩;have R15:K19.WC K mg C:=⟨⟨pgC,hdC,poC,saC⟩,⟨mkC,inC,kcC⟩,PySem.W.mg_of X G gC,r_PySem_W_findIn_K_ref_C___class___some_some_builtin_object___,r_PySem_W_mroIn_K_C_type_object_some_true,d55.me (m3 λ _ _ _ _ _ _ _ _ _=>rfl),d56.me (m1 λ _ _ _ _ _ _ _=>rfl),d57.me (m4 λ _ _ _ _ _ _ _ _ _ _=>rfl),d58.me (m4 λ _ _ _ _ _ _ _ _ _ _=>rfl)⟩;have R16:K19.All K mg B D E C CW:=⟨R14,R15,PySem.W.mg_of X G gCW,r_PySem_W_kitOne_K_ref_C_ref_CW_some_true,r_PySem_W_specialIn_K_builtin_object___class_____get___some_so,r_PySem_W_takesIn_K_builtin_object___class___some_true,d59.fn X G (m2 λ _ _ _ _ _ _ _ _=>rfl),d60.fn X G (m2 λ _ _ _ _ _ _ _ _=>rfl),d61.fn X G (m3 λ _ _ _ _ _ _ _ _ _=>rfl),d62.fn X G (m2 λ _ _ _ _ _ _ _ _=>rfl),d63.fn X G (m1 λ _ _ _ _ _ _ _=>rfl),d64.fn X G (m4 λ _ _ _ _ _ _ _ _ _ _=>rfl),d65.fn X G (m2 λ _ _ _ _ _ _ _ _=>rfl),d66.fn X G (m1 λ _ _ _ _ _ _ _=>rfl),d67.fn X G (m2 λ _ _ _ _ _ _ _ _=>rfl),d68.fn X G (m4 λ _ _ _ _ _ _ _ _ _ _=>rfl)⟩;exact⟨PySem.W.fnOf "law" "law" (defArgs sLaw) (defBody sLaw) (defScope sLaw) .none kV1 dc1 pm1 an1 cd1 ct1,λ s v=>.of_eq rfl,λ base _ _=>vf F1 R16⟩
theorem walk {l:PySem.W.OpenLaw}{q:Program}{loose:List Str}{XP:(Str->Option Value)->Heap->Prop}{YP:World->Heap->Prop}{d:DefRec}{K:Params->PySem.W.Frag}(hn:l.most=some 63)(hdf:d.params.defaults=[])
  (hY:∀(w:World) (h:Heap),YP w h->(K w.params).In h)
  (F:∀(w:World) (mg:Str->Option Value) (fa:Addr) (h:Heap),(K w.params).In h->h.Ns mainGlobals mg->mg d.name=some (.ref fa)->
   ∃fd:FuncData,(∀(s:Shared) (u:Value),BindsTo s fd ⟨[u],[]⟩ [("_law_script",u)])/\∀base:Heap,(K w.params).In base->base.Ns mainGlobals mg->FnOk l.prog w (K w.params) mg base CX0 40 fa fd ["_law_script"] (m8 (K w.params))):
  PySem.W.WalkO q loose XP YP l.row.toRowW d [] (λ f vs=>PySem.call f vs):=
 L2.walk_of (n:=63) (k:=40) (x:="_law_script") (CX:=λ _=>CX0) (sp:=λ w=>m8 (K w.params)) hn (by decide) hdf ⟨λ _=>rfl,by decide,by decide⟩ hY F (λ _ _ a ns hl _ hS=>⟨a,ns,rfl,hS,hl,λ _=>rfl⟩) λ _ _ _ _ _ z=>z
end K19
open PySem PySem.W PyProof.Rows
namespace PySem.W.Fast
def tw4814045121518912594:=0
def tw2891233365912453470:=0
def tw17775045571234539729:=0
def tw13037367072782984788:=0
def tw13914272276794763726:=0
def tw8913343895025807935:=0
def tw17735666052858133041:=0
def tw17176053723668294783:=0
def tw15103481182046930083:=0
def tw4951230319908691231:=0
def tw10892520740820816074:=0
def tw10202564063784672605:=0
def tw3655936781633693781:=0
def tw15226385249877044484:=0
def tw4167620085435018065:=0
def tw7555614633649172775:=0
def tw12097056003313880159:=0
def tw3945429314608950957:=0
def tw17187388764838411214:=0
def tw12417948785630449253:=0
def tw11188577350238025973:=0
def tw8725763760359631300:=0
def tw15633519139288512287:=0
def tw16653317118937947254:=0
def tw15744800852177764310:=0
def tw8283634149560266024:=0
def tw15249396606830418000:=0
def tw15310668476347999727:=0
def tw17115333619554394717:=0
def tw2064376904686145918:=0
def tw9412019039844575155:=0
def tw3671539655216732389:=0
def tw12567948520879150801:=0
def tw9950148558417686602:=0
def tw7275429678773917907:=0
def tw15806383925894172712:=0
def tw12648183751083218030:=0
def tw4352483563836335128:=0
def tw13897582206964988437:=0
def tw17502773569567617651:=0
def tw513058362779174829:=0
def tw10372237135032560087:=0
def tw10672643501189165636:=0
def tw13112030859781399332:=0
def tw8920318791113609489:=0
def tw4740749535537856933:=0
def tw12551219202223727323:=0
def tw2511471228355943961:=0
def tw5255747481718497380:=0
def tw13035471138240064036:=0
def tw254828690934880681:=0
def tw6642033060278041183:=0
def tw2006293256132031118:=0
def tw13474526892410928124:=0
def tw7962195454230425332:=0
def tw2678031127604908233:=0
def tw8325360999000824708:=0
def tw4230462309805145563:=0
def tw18245580280587550639:=0
def tw930012072029704471:=0
def tw7404130312334051399:=0
def tw6462056528541435482:=0
def tw11453757387217371204:=0
def tw14336662328039009166:=0
def tw5584210373415164312:=0
def tw3089665477081406635:=0
def tw15904414412672836861:=0
def tw975164543618835436:=0
def tw13142648162354997922:=0
def tw10740701678589892887:=0
def tw15346223688031825547:=0
def tw3084424078900902423:=0
def tw11760529583238642803:=0
def tw2836092364467491054:=0
def tw963067935729823709:=0
def tw17152795670461657707:=0
def tw18249942241927707902:=0
def tw1946636816874075788:=0
def tw562833295209900386:=0
def tw4874178553660622500:=0
def tw11599826300849303335:=0
def tw11562476797370540350:=0
def tw11476268713682938991:=0
def tw8801106332686161293:=0
def tw5038942587348187675:=0
def tw891981238236815748:=0
def tw13755507567886908914:=0
def tw11766335116672351042:=0
def tw6717400938873784927:=0
def tw13092551611952718853:=0
def tw4405341704966272870:=0
def tw7076135896964707649:=0
def tw2283240261882932892:=0
def tw15278298221101844357:=0
def tw18277818769581294481:=0
def tw371466332762435406:=0
def tw8700762847823956979:=0
def tw6172276386284997279:=0
def tw17195491315928860579:=0
def tw385833415978573974:=0
def tw119736522406849550:=0
def tw15051124560491716782:=0
def tw10410750753506780650:=0
def tw156955838129361322:=0
def tw6500272828850162529:=0
def tw700945296157657760:=0
def tw11460621946082340007:=0
def tw5205825813983432984:=0
def tw8475520119174624004:=0
def tw17034777279314786188:=0
def tw9495829826941264624:=0
def tw13838516785057012562:=0
def tw1835915642719190086:=0
def tw16418410638159448392:=0
def tw17858889942793582581:=0
def tw12175496709837261626:=0
def tw1356755533623153581:=0
def tw14960091251119907170:=0
def tw15239930235447715402:=0
def tw4283981763234766601:=0
def tw12440865531593962091:=0
def tw4285755783465274795:=0
def tw6751728912824499220:=0
def tw8451999082181297675:=0
def tw8663322147133039928:=0
def tw15683327421093909182:=0
def tw4732835609771323885:=0
def tw11205674757415248035:=0
def tw2903160684716782965:=0
def tw12023345762281722867:=0
def tw8375515125012722921:=0
def tw18253609232781548647:=0
def tw219651820585860555:=0
def tw3652169782599176210:=0
def tw5060506007917041626:=0
def tw10015070288688756454:=0
def tw1404138230491945178:=0
def tw5584348107051820234:=0
def tw9914443304771392528:=0
def tw13941333748543149857:=0
def tw17241731234116738152:=0
def tw8231916781726165767:=0
def tw16526174640432817770:=0
def tw1883494430201148817:=0
def tw17058236593442028966:=0
def tw10568980322786797930:=0
def tw17637890921723183422:=0
def tw5740251941583127223:=0
def tw3722096195746985995:=0
def tw15084559416068526057:=0
def tw15158906863901260051:=0
def tw603142416713308069:=0
def tw9306760067306686568:=0
def tw530384796419665832:=0
def tw5125462919478821396:=0
def tw7636958778507656023:=0
def tw2812611253069688428:=0
def tw7531288338020925926:=0
def tw11205843422308949200:=0
def tw1785501649520976430:=0
def tw16914727602317837975:=0
def tw3537395285376940832:=0
def tw8489866960699423130:=0
def tw3945455405421775704:=0
def tw5473503926133378229:=0
def tw11261807982524849265:=0
def tw13190396929811088858:=0
def tw537847259419530966:=0
def tw7284489701390816644:=0
def tw3914711683218066661:=0
def tw13879052355762649897:=0
def tw13744797293924958276:=0
def tw14919597658831967576:=0
def tw15045367605362823900:=0
def tw16100155714088120431:=0
def tw9418637069142660077:=0
def tw8628808783549678315:=0
def tw12794753550193980091:=0
def tw13356450347195686862:=0
def tw6317474467032665793:=0
def tw7863269063644365609:=0
def tw50941261807983045:=0
def tw12821410980930454847:=0
def tw6063385180556967417:=0
def tw5538613149880124194:=0
def tw15158111522736368108:=0
def tw14113138874307936504:=0
def tw7386801851208531644:=0
def tw1076434612452553432:=0
def tw2061662557256226230:=0
def tw7258787969998665868:=0
def tw5123529389581162467:=0
def tw16505637922080146568:=0
def tw16867310017386038071:=0
def tw4514359394978086320:=0
def tw8798044803240346590:=0
def tw10247758826542896901:=0
def tw13480917293702401242:=0
def tw8355566524877903263:=0
def tw4222768764878518545:=0
def tw2609874353996739651:=0
def tw17753258854663285267:=0
def tw12864591191062454867:=0
def tw14108863147528724277:=0
def tw10132725962985275631:=0
def tw11354960283007086307:=0
def tw10079993622105807944:=0
def tw7582224747367014563:=0
def tw1587640854767218222:=0
def tw409815183923830514:=0
def tw14120937696747434634:=0
def tw1251618333834520421:=0
def tw12593609765621566243:=0
def tw3570700353040546164:=0
def tw10118914434256422645:=0
def tw11076487429017434858:=0
def tw17763916994444847401:=0
def tw490073820271285370:=0
def tw8097421661738110214:=0
def tw1043975761052037979:=0
def tw4160736873938384341:=0
def tw12625123526157119538:=0
def tw7244528760352859563:=0
def tw12277392900697385565:=0
def tw1389986974486759007:=0
def tw9160418183010795079:=0
def tw18168436644070262152:=0
def tw9122193968608982349:=0
def tw15538963467367407713:=0
def tw10926923459948211568:=0
def tw341106447623144036:=0
def tw7876755441375197856:=0
def tw3698405993694989058:=0
def tw21028113007148936:=0
def tw1066668693523882210:=0
def tw3196527042642537401:=0
def tw9622014207484082118:=0
def tw3727989034314538183:=0
def tw2001694485026599277:=0
def tw11730420223318551548:=0
def tw6026983137374450867:=0
def tw1443842864730479584:=0
def tw8062696323854521197:=0
def tw10801393368312253057:=0
def tw35645453928690332:=0
def tw3694093692009573040:=0
def tw11147407411084740138:=0
def tw12913643452585443594:=0
def tw2743329717720941264:=0
def tw16359314505064495890:=0
def tw12610862268133307050:=0
def tw11525590131970160914:=0
def tw13425208162244476570:=0
def tw17250221837305098492:=0
def tw13319125681974298604:=0
def tw10392016234023910967:=0
def tw14888031194345319795:=0
def tw3247172335138065963:=0
def tw17938063566083928700:=0
def tw2893521183580500218:=0
def tw12367091476100279945:=0
def tw11042439906255216467:=0
def tw14919937777812055315:=0
def tw5426916144627698920:=0
def tw9212826668599415194:=0
def tw17773907787251540375:=0
def tw2478798163173087102:=0
def tw3837923027450212470:=0
def tw8881555998849958676:=0
def tw16969875980487606584:=0
def tw15869650235910929802:=0
def tw5167565549703911777:=0
def tw7273142365848374347:=0
def tw10770558506252219681:=0
def tw14905968511438505055:=0
def tw4839956012250370074:=0
def tw16675428878630695767:=0
def tw814533142415578071:=0
def tw16356258205316944495:=0
def tw17502717388236737361:=0
def tw16398749072285836522:=0
def tw4753972085970886297:=0
def tw4613606769861423642:=0
def tw14628838253636721718:=0
def tw11726038592718910328:=0
def tw4776432323084272854:=0
def tw6915139344232671758:=0
def tw17465122929188768051:=0
def tw17724680243862658589:=0
def tw2924736983525145202:=0
def tw7886058387177891348:=0
def tw10042013236538613089:=0
def tw3818273437183240617:=0
def tw12320220748694485232:=0
def tw2072436717485593616:=0
def tw1407136908547084202:=0
def tw17841591212162045641:=0
def tw16876282331986169808:=0
def tw4279769002798031436:=0
def tw9206145533971928921:=0
def tw17373048068324575032:=0
def tw10176785672470901973:=0
def tw12284995151961632371:=0
def tw11852769951748693606:=0
def tw9413328358451889339:=0
def tw18236006180175772613:=0
def tw15702560563752015155:=0
def tw17585150445089519935:=0
def tw11053734947173920891:=0
def tw1964225785095149863:=0
def tw9523168467401009829:=0
def tw532779540568112745:=0
def tw10930189239837810534:=0
def tw10147755711881914926:=0
def tw11423930293309784909:=0
def tw1808436434210840563:=0
def tw5355629101426423170:=0
def tw12268568435694476459:=0
def tw5101785253278585132:=0
def tw17732081110553335537:=0
def tw2070978614466067387:=0
def tw9424382740203713180:=0
def tw9241453963686084841:=0
def tw10061463259399299260:=0
def tw14523523436060635454:=0
def tw957793322964999030:=0
def tw403202807341457437:=0
def tw4575775977770330313:=0
def tw15892975154881967248:=0
def tw12835406193249340028:=0
def tw12921340239009009292:=0
def tw15584972047847421120:=0
def tw18332903961894498609:=0
def tw5895893096264490294:=0
def tw8003524007020001673:=0
def tw2731913291862803774:=0
def tw15537485266716320508:=0
def tw4634753198836276853:=0
def tw10920977652271652556:=0
def tw1938985907989812292:=0
def tw12632396209849466111:=0
def tw17837198241878583539:=0
def tw824306140745706215:=0
def tw11927962777198017515:=0
def tw5209563141206408460:=0
def tw453178308520309708:=0
def tw685183841872911044:=0
def tw5618603147113780641:=0
def tw4442899575431119908:=0
def tw7282834363060697826:=0
def tw11726508960004552684:=0
def tw14353003149534073631:=0
def tw13535516512699098724:=0
def tw15194503992371078721:=0
def tw1944291716248588705:=0
def tw11286447848253565421:=0
def tw11896772627180573236:=0
def tw4057783638198319260:=0
def tw22439611304064901:=0
end PySem.W.Fast
set_option maxRecDepth 100000 in
set_option maxHeartbeats 0 in
theorem PySem.Challenge.cw_balepress_k19_shares_holds : PySem.Challenge.rw_balepress_k19_shares.Holds := by
 w_on;o_law;k_head;(case hw=>w_witness2)
 k_fill
 refine K19.walk (l:=PySem.Challenge.rw_balepress_k19_shares) rfl rfl (λ w h Y=>PySem.W.kIn_of Y) ?F
 case F=>
  intro w mg fa h KX G hmg
  refine' K19.all_mk KX G hmg ?a1 ?l1 ?c1 ?k1 ?z_isinstance ?z_bool ?z_int ?z_list ?z_len ?z_range ?z_max ?z_min ?gv0 ?gv1 ?gv2 ?gv3 ?gv4 ?gv5 ?gv6 ?z_sum ?z_enumerate ?z_sorted ?gv7 ?gv8 ?gv9 ?gv10 ?gv11 ?gv12 ?gv13 ?gv14 ?gv15 ?d2 ?d3 ?d4 ?d5 ?d6 ?d7 ?d8 ?d9 ?a10 ?l10 ?c10 ?k10 ?t10 ?d11 ?d12 ?d13 ?d14 ?d15 ?d16 ?pgB ?hdB ?poB ?saB ?nB_whole_bytes ?nB_rest ?nB_rest_size ?gB ?d17 ?d18 ?d19 ?mkB ?kcB ?d20 ?d21 ?d22 ?d23 ?d24 ?d25 ?d26 ?d27 ?d28 ?a29 ?l29 ?c29 ?k29 ?t29 ?d30 ?d31 ?d32 ?d33 ?pgE ?hdE ?poE ?saE ?nE_things ?nE_beginnings ?pgD ?hdD ?poD ?saD ?nD_held ?nD_taken ?gD ?d34 ?d35 ?mkD ?kcD ?d36 ?d37 ?d38 ?d39 ?gE ?d40 ?mkE ?kcE ?d41 ?d42 ?d43 ?d44 ?d45 ?d46 ?d47 ?d48 ?d49 ?d50 ?d51 ?d52 ?d53 ?d54 ?pgC ?hdC ?poC ?saC ?mkC ?kcC ?inC ?gC ?r_PySem_W_findIn_K_ref_C___class___some_some_builtin_object___ ?r_PySem_W_mroIn_K_C_type_object_some_true ?d55 ?d56 ?d57 ?d58 ?gCW ?r_PySem_W_kitOne_K_ref_C_ref_CW_some_true ?r_PySem_W_specialIn_K_builtin_object___class_____get___some_so ?r_PySem_W_takesIn_K_builtin_object___class___some_true ?d59 ?d60 ?d61 ?d62 ?d63 ?d64 ?d65 ?d66 ?d67 ?d68
  case gB|gD|gE|gC|gCW=>k_is
  case d2|d3|d4|d5|d6|d7|d8|d9|d11|d12|d13|d14|d15|d16|d17|d18|d24|d25|d26|d27|d28|d30|d31|d32|d34|d42|d43|d44|d45|d46|d47|d48|d49|d50|d51|d52|d53|d54|d59|d60|d61|d62|d63|d64|d65|d66|d67|d68=>refine' K19.TD.i ?a ?l ?c ?k;(case a=>k_is);(case l=>k_is);(case c=>k_is);(case k=>k_is)
  case d19|d20|d21|d22|d23|d33|d35|d36|d37|d38|d39|d40|d41|d55|d56|d57|d58=>refine' K19.MD.i ?a ?i ?l ?c ?k;(case a=>k_is);(case i=>k_is);(case l=>k_is);(case c=>k_is);(case k=>k_is)
  case a1|l1|c1|k1|z_isinstance|z_bool|z_int|z_list|z_len|z_range|z_max|z_min|gv0|gv1|gv2|gv3|gv4|gv5|gv6|z_sum|z_enumerate|z_sorted|gv7|gv8|gv9|gv10|gv11|gv12|gv13|gv14|gv15|a10|l10|c10|k10|t10|pgB|hdB|poB|saB|nB_whole_bytes|nB_rest|nB_rest_size|mkB|kcB|a29|l29|c29|k29|t29|pgE|hdE|poE|saE|nE_things|nE_beginnings|pgD|hdD|poD|saD|nD_held|nD_taken|mkD|kcD|mkE|kcE|pgC|hdC|poC|saC|mkC|kcC|inC|r_PySem_W_findIn_K_ref_C___class___some_some_builtin_object___|r_PySem_W_mroIn_K_C_type_object_some_true|r_PySem_W_specialIn_K_builtin_object___class_____get___some_so|r_PySem_W_takesIn_K_builtin_object___class___some_true=>k_is
  case r_PySem_W_kitOne_K_ref_C_ref_CW_some_true=>kernel_rfl
